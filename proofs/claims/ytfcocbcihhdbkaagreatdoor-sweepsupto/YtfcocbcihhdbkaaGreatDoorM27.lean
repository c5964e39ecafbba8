import Derived.Test.YtfcocbcihhdbkaaGreatDoorM26

/- The two stores side by side: what a work sees of both is the same. -/

namespace Go.Proofs.YtfcocbcihhdbkaaGreatDoor

open Go.RowKit Go.Shelf

/-! ### the two stores, side by side -/

def RVer.ver (v : RVer) : Ver := ⟨v.state, v.r.value, v.r.gone⟩

def RecB.ver (r : RecB) : Ver := ⟨0, r.value, r.gone⟩

def liveB (k : ByteArray) (v : RVer) : Bool := decide (v.r.key = k) && !v.thrown

def Par {α β : Type} (R : α → β → Prop) : List α → List β → Prop
  | [], [] => True
  | a :: l, b :: m => R a b ∧ Par R l m
  | _, _ => False

/-- what a work has written -/
structure WRel (ws : List (ByteArray × Ver)) (rs : List RecB) : Prop where
  rises : RRises rs
  nodup : (ws.map (·.1)).Nodup
  same : ∀ k, look ws k = (hasL rs k).map RecB.ver

def WorkRel (p : Int × (Int × List (ByteArray × Ver))) (q : Int × Int × List RecB) : Prop := p.1 = q.1 ∧ p.2.1 = q.2.1 ∧ WRel p.2.2 q.2.2

/-- all versions, as they came: a key's rise; what is thrown away is below the floor, with all before it -/
structure AllOk (all : List RVer) (now floor : Int) : Prop where
  rising : all.Pairwise (fun a b => a.r.key = b.r.key → a.state < b.state)
  states : ∀ v ∈ all, 0 ≤ v.state ∧ v.state ≤ now
  thrown : ∀ v ∈ all, v.thrown = true → v.state ≤ floor ∧ (laterL all v floor = true ∨ v.r.gone = true)
  closed : ∀ v ∈ all, v.thrown = true → ∀ u ∈ all, u.r.key = v.r.key → u.state ≤ v.state → u.thrown = true

structure Sim (A : Gst) (B : Rst) : Prop where
  now : A.now = B.now
  floor : A.floor = B.floor
  floor0 : 0 ≤ B.floor
  floorN : B.floor ≤ B.now
  begun : A.begun = B.begun
  works : Par WorkRel A.works B.works
  began : ∀ x ∈ B.works, B.floor ≤ x.2.1 ∧ x.2.1 ≤ B.now
  vers : ∀ k, A.vers k = (B.all.filter (liveB k)).map RVer.ver
  keysR : Rises A.keys
  keys : ∀ k, k ∈ A.keys ↔ A.vers k ≠ []
  all : AllOk B.all B.now B.floor
  pins : ∀ s, (look A.pins s).getD 0 = (B.pins.count s : Int)
  pinsN : (A.pins.map (·.1)).Nodup
  pinsP : ∀ p ∈ A.pins, 1 ≤ p.2
  pinSum : A.pinSum = (B.pins.length : Int)
  pinned : ∀ s ∈ B.pins, B.floor ≤ s ∧ s ≤ B.now
  copies : A.copyings.map (fun p => (p.1, p.2.need)) = B.copies.map (fun x => (x.1, x.2.1))
  copied : ∀ x ∈ B.copies, B.floor ≤ x.2.1 ∧ x.2.1 ≤ B.now
  started : A.started = B.started

/-! ### a key's versions -/

theorem rising_filter {vs : List Ver} (h : Rising vs) (t : Int) : vs.takeWhile (fun v => decide (v.state ≤ t)) = vs.filter (fun v => decide (v.state ≤ t)) := by
  induction vs with
  | nil => rfl
  | cons v vs ih =>
    obtain ⟨h1, h2⟩ := List.pairwise_cons.1 h
    rw [List.takeWhile_cons, List.filter_cons]
    by_cases hv : v.state ≤ t
    · have e : decide (v.state ≤ t) = true := by simp [hv]
      rw [e, if_pos rfl, if_pos rfl, ih h2]
    · have e : decide (v.state ≤ t) = false := by simp [hv]
      rw [e, if_neg (by decide), if_neg (by decide)]
      symm
      rw [List.filter_eq_nil_iff]
      intro u hu
      have := h1 u hu
      simp
      omega

theorem atVer_last {vs : List Ver} (h : Rising vs) (t : Int) : atVer vs t = (vs.filter (fun v => decide (v.state ≤ t))).getLast? := by
  rw [← rising_filter h]
  unfold atVer upN
  generalize hp : (fun v : Ver => decide (v.state ≤ t)) = p
  have e := List.takeWhile_append_dropWhile (p := p) (l := vs)
  generalize vs.takeWhile p = a at *
  generalize vs.dropWhile p = b at *
  subst e
  by_cases h0 : a.length = 0
  · rw [if_pos h0, List.length_eq_zero_iff.1 h0]; rfl
  · rw [if_neg h0, List.getElem?_append_left (by omega), List.getLast?_eq_getElem?]

theorem AllOk.vers_rising {all : List RVer} {now floor : Int} (h : AllOk all now floor) (k : ByteArray) : Rising ((all.filter (liveB k)).map RVer.ver) := by
  unfold Rising
  rw [List.pairwise_map]
  have h1 := h.rising.sublist (List.filter_sublist (p := liveB k))
  refine h1.imp_of_mem ?_
  intro a b ha hb hab
  have e1 := (List.mem_filter.1 ha).2
  have e2 := (List.mem_filter.1 hb).2
  simp only [liveB, Bool.and_eq_true, decide_eq_true_eq] at e1 e2
  exact hab (e1.1.trans e2.1.symm)

/-- the entries of a key up to a state -/
def upL (all : List RVer) (bg : Int) (k : ByteArray) : List RVer := (all.filter (inB (-1) bg)).filter (fun v => decide (v.r.key = k))

theorem mem_upL {all : List RVer} {bg : Int} {k : ByteArray} {v : RVer} : v ∈ upL all bg k ↔ v ∈ all ∧ -1 < v.state ∧ v.state ≤ bg ∧ v.r.key = k := by
  unfold upL inB
  rw [List.mem_filter, List.mem_filter]
  simp only [Bool.and_eq_true, decide_eq_true_eq]
  exact ⟨fun h => ⟨h.1.1, h.1.2.1, h.1.2.2, h.2⟩, fun h => ⟨⟨h.1, h.2.1, h.2.2.1⟩, h.2.2.2⟩⟩

theorem AllOk.last {all : List RVer} {now floor : Int} (h : AllOk all now floor) {bg : Int} (hb : floor ≤ bg) (k : ByteArray) :
    ((upL all bg k).getLast?.map RVer.r).filter (fun r => !r.gone) = (((upL all bg k).filter (fun v => !v.thrown)).getLast?.map RVer.r).filter (fun r => !r.gone) := by
  have hr : (upL all bg k).Pairwise (fun a b => a.state < b.state) := by
    have h1 := h.rising.sublist (List.filter_sublist.trans List.filter_sublist : (upL all bg k).Sublist all)
    refine h1.imp_of_mem ?_
    intro a b ha hb hab
    exact hab ((mem_upL.1 ha).2.2.2.trans (mem_upL.1 hb).2.2.2.symm)
  have hm : ∀ v, v ∈ upL all bg k ↔ v ∈ all ∧ -1 < v.state ∧ v.state ≤ bg ∧ v.r.key = k := fun v => mem_upL
  generalize upL all bg k = E at *
  rcases List.eq_nil_or_concat E with rfl | ⟨init, v, rfl⟩
  · rfl
  · rw [List.concat_eq_append] at *
    rw [List.getLast?_concat, List.filter_append]
    cases ht : v.thrown with
    | false =>
      have e : [v].filter (fun v => !v.thrown) = [v] := by simp [ht]
      rw [e, List.getLast?_concat]
    | true =>
      have hv := (hm v).1 (by simp)
      have hmax : ∀ u ∈ init ++ [v], u.state ≤ v.state := fun u hu => by
        rcases List.mem_append.1 hu with h1 | h1
        · exact Int.le_of_lt ((List.pairwise_append.1 hr).2.2 u h1 v (by simp))
        · have : u = v := by simpa using h1
          rw [this]; exact Int.le_refl _
      have hall : ∀ u ∈ init ++ [v], u.thrown = true := fun u hu => by
        have hu' := (hm u).1 hu
        exact h.closed v hv.1 ht u hu'.1 (hu'.2.2.2.trans hv.2.2.2.symm) (hmax u hu)
      have e0 : (init ++ [v]).filter (fun v => !v.thrown) = [] := by
        rw [List.filter_eq_nil_iff]
        intro u hu
        simp [hall u hu]
      rw [← List.filter_append, e0]
      have hg : v.r.gone = true := by
        rcases (h.thrown v hv.1 ht).2 with hl | hg
        · unfold laterL at hl
          obtain ⟨x, hx, hxl⟩ := List.any_eq_true.1 hl
          simp only [laterB, Bool.and_eq_true, decide_eq_true_eq] at hxl
          have := hmax x ((hm x).2 ⟨hx, by have := (h.states x hx).1; omega, by omega, hxl.1.1.trans hv.2.2.2⟩)
          omega
        · exact hg
      simp [hg, Option.filter]

theorem AllOk.up_live {all : List RVer} {now floor : Int} (h : AllOk all now floor) (bg : Int) (k : ByteArray) : ((all.filter (liveB k)).map RVer.ver).filter (fun v => decide (v.state ≤ bg)) = ((upL all bg k).filter (fun v => !v.thrown)).map RVer.ver := by
  rw [List.filter_map]
  congr 1
  unfold upL
  rw [List.filter_filter, List.filter_filter, List.filter_filter]
  apply List.filter_congr
  intro v hv
  have := (h.states v hv).1
  have e : decide (-1 < v.state) = true := by simp; omega
  simp only [Function.comp, liveB, inB, e, Bool.true_and]
  have hb : ∀ a b c : Bool, (a && (b && !c)) = (!c && b && a) := by decide
  exact hb _ _ _

/-- what stands for a work under a key -/
def standG (ws : List (ByteArray × Ver)) (vers : ByteArray → List Ver) (bg : Int) (k : ByteArray) : Option ByteArray := ((seeVer ws (vers k) bg k).filter (fun v => !v.gone)).map Ver.value

theorem stand_eq {all : List RVer} {now floor bg : Int} {ws : List (ByteArray × Ver)} {rs : List RecB} {vers : ByteArray → List Ver} (h : AllOk all now floor) (hv : ∀ k, vers k = (all.filter (liveB k)).map RVer.ver) (hw : WRel ws rs) (hb : floor ≤ bg) (k : ByteArray) :
    (hasL (seesL all bg rs) k).map RecB.value = standG ws vers bg k := by
  rw [sees_has all bg hw.rises]
  unfold standG seeVer
  rw [hw.same k]
  cases hr : hasL rs k with
  | some r =>
    simp only [Option.map_some, Option.some_or]
    cases hg : r.gone <;> simp [RecB.ver, hg, Option.filter]
  | none =>
    simp only [Option.map_none, Option.none_or]
    have e := h.last hb k
    unfold upL at e
    rw [e, hv k, atVer_last (h.vers_rising k), h.up_live bg k, List.getLast?_map]
    unfold upL
    cases (((all.filter (inB (-1) bg)).filter (fun v => decide (v.r.key = k))).filter (fun v => !v.thrown)).getLast? with
    | none => rfl
    | some v => cases hg : v.r.gone <;> simp [RVer.ver, hg, Option.filter]

theorem stand_pair (ws : List (ByteArray × Ver)) (vers : ByteArray → List Ver) (bg : Int) (k : ByteArray) : pairOf ws vers bg k = (standG ws vers bg k).map (fun v => (k, v)) := by
  unfold pairOf standG
  cases seeVer ws (vers k) bg k with
  | none => rfl
  | some v => cases hg : v.gone <;> simp [standsB, hg, Option.filter]

theorem stand_get (ws : List (ByteArray × Ver)) (vers : ByteArray → List Ver) (bg : Int) (k : ByteArray) : (if standsB (seeVer ws (vers k) bg k) = true then (((seeVer ws (vers k) bg k).getD Ver.zero).value, (0 : Int)) else (ByteArray.empty, 1)) = match standG ws vers bg k with | some v => (v, 0) | none => (ByteArray.empty, 1) := by
  unfold standG
  cases seeVer ws (vers k) bg k with
  | none => rfl
  | some v => cases hg : v.gone <;> simp [standsB, hg, Option.filter]

/-! ### works, by their number -/

theorem works_look : ∀ {l : List (Int × (Int × List (ByteArray × Ver)))} {m : List (Int × Int × List RecB)}, Par WorkRel l m → ∀ n,
    (look l n = none ∧ m.findIdx? (fun x => decide (x.1 = n)) = none) ∨ ∃ k x y, look l n = some x ∧ m.findIdx? (fun x => decide (x.1 = n)) = some k ∧ m[k]? = some y ∧ y.1 = n ∧ y ∈ m ∧ x.1 = y.2.1 ∧ WRel x.2 y.2.2 ∧ Par WorkRel (del l n) (m.eraseIdx k) ∧ ∀ ws rs, WRel ws rs → Par WorkRel (put l n (x.1, ws)) (m.set k (y.1, y.2.1, rs))
  | [], [], _, n => .inl ⟨rfl, rfl⟩
  | p :: l, q :: m, ⟨hpq, hlm⟩, n => by
    obtain ⟨h1, h2, h3⟩ := hpq
    obtain ⟨a, x⟩ := p
    simp only at h1 h2 h3
    by_cases hn : a = n
    · refine .inr ⟨0, x, q, by simp [look, hn], by simp [List.findIdx?_cons, ← h1, hn], rfl, by rw [← h1, hn], by simp, h2, h3, by simpa [del, hn] using hlm, fun ws rs hw => ?_⟩
      simp only [put, hn, if_true, List.set_cons_zero]
      exact ⟨⟨by rw [← h1, hn], h2, hw⟩, hlm⟩
    · have hq : ¬ q.1 = n := by rw [← h1]; exact hn
      rcases works_look hlm n with ⟨e1, e2⟩ | ⟨k, x', y, e1, e2, e3, e4, e5, e6, e7, e8, e9⟩
      · exact .inl ⟨by simp [look, hn, e1], by simp [List.findIdx?_cons, hq, e2]⟩
      · refine .inr ⟨k + 1, x', y, by simp [look, hn, e1], by simp [List.findIdx?_cons, hq, e2], by simpa using e3, e4, by simp [e5], e6, e7, ?_, fun ws rs hw => ?_⟩
        · simp only [del, hn, if_false, List.eraseIdx_cons_succ]
          exact ⟨⟨h1, h2, h3⟩, e8⟩
        · simp only [put, hn, if_false, List.set_cons_succ]
          exact ⟨⟨h1, h2, h3⟩, e9 ws rs hw⟩

theorem works_len : ∀ {l : List (Int × (Int × List (ByteArray × Ver)))} {m : List (Int × Int × List RecB)}, Par WorkRel l m → l.length = m.length
  | [], [], _ => rfl
  | _ :: _, _ :: _, h => by simp [works_len h.2]

theorem works_snoc : ∀ {l : List (Int × (Int × List (ByteArray × Ver)))} {m : List (Int × Int × List RecB)}, Par WorkRel l m → ∀ {p : Int × (Int × List (ByteArray × Ver))} {q : Int × Int × List RecB}, WorkRel p q → Par WorkRel (l ++ [p]) (m ++ [q])
  | [], [], _, _, _, hp => ⟨hp, trivial⟩
  | _ :: _, _ :: _, h, _, _, hp => ⟨h.1, works_snoc h.2 hp⟩

theorem works_began : ∀ {l : List (Int × (Int × List (ByteArray × Ver)))} {m : List (Int × Int × List RecB)}, Par WorkRel l m → l.map (fun p => p.2.1) = m.map (fun q => q.2.1)
  | [], [], _ => rfl
  | _ :: _, _ :: _, h => by simp [works_began h.2, h.1.2.1]

theorem WRel.nil : WRel [] [] := ⟨.nil, .nil, fun _ => rfl⟩

theorem WRel.len {ws : List (ByteArray × Ver)} {rs : List RecB} (h : WRel ws rs) : ws.length = rs.length := by
  have h1 : (rs.map RecB.key).Nodup := by
    rw [List.Nodup, List.pairwise_map]
    exact h.rises.imp (fun {a b} hab e => by rw [e, ltK_irrefl] at hab; cases hab)
  have hp : (ws.map (·.1)).Perm (rs.map RecB.key) := by
    refine (List.perm_ext_iff_of_nodup h.nodup h1).2 (fun k => ?_)
    rw [← look_isSome, ← has_isSome, h.same k]
    cases hasL rs k <;> simp
  have := hp.length_eq
  simpa using this

theorem WRel.put {ws : List (ByteArray × Ver)} {rs : List RecB} (h : WRel ws rs) (r : RecB) : WRel (put ws r.key r.ver) (placedL rs r) := by
  refine ⟨placed_rises h.rises r, ?_, fun k => ?_⟩
  · cases hl : look ws r.key with
    | none =>
      rw [put_none hl]
      rw [List.map_append]
      refine List.nodup_append.2 ⟨h.nodup, by simp, fun a ha b hb => ?_⟩
      have hb' : b = r.key := by simpa using hb
      rintro rfl
      obtain ⟨p, hp, e⟩ := List.mem_map.1 ha
      exact look_none.1 hl p hp (e.trans hb')
    | some x =>
      rw [keys_put_some hl]
      exact h.nodup
  · rw [look_put, placed_has]
    split
    · rfl
    · exact h.same k

end Go.Proofs.YtfcocbcihhdbkaaGreatDoor

/- The two stores side by side: the calls of a work. -/

namespace Go.Proofs.YtfcocbcihhdbkaaGreatDoor

open Go.RowKit Go.Shelf

/-- a work of both: there is none, or there is one -/
theorem Sim.find {A : Gst} {B : Rst} (h : Sim A B) (n : Int) : (look A.works n = none ∧ B.find n = none) ∨ ∃ k x y, look A.works n = some x ∧ B.find n = some k ∧ B.work k = y ∧ y.1 = n ∧ y ∈ B.works ∧ x.1 = y.2.1 ∧ WRel x.2 y.2.2 ∧ Par WorkRel (del A.works n) (B.works.eraseIdx k) ∧ ∀ ws rs, WRel ws rs → Par WorkRel (put A.works n (x.1, ws)) (B.works.set k (y.1, y.2.1, rs)) := by
  rcases works_look h.works n with h1 | ⟨k, x, y, e1, e2, e3, e4, e5, e6, e7, e8, e9⟩
  · exact .inl h1
  · exact .inr ⟨k, x, y, e1, e2, by unfold Rst.work; rw [e3]; rfl, e4, e5, e6, e7, e8, e9⟩

theorem Sim.beginR {A : Gst} {B : Rst} (h : Sim A B) : A.beginR = B.beginR := by
  unfold Gst.beginR Rst.beginR
  rw [works_len h.works, h.begun]

theorem Sim.beginS {A : Gst} {B : Rst} (h : Sim A B) : Sim A.beginS B.beginS := by
  unfold Gst.beginS Rst.beginS
  rw [works_len h.works]
  split
  · refine { h with begun := by show A.begun + 1 = B.begun + 1; rw [h.begun], works := ?_, began := fun x hx => ?_ }
    · show Par WorkRel (A.works ++ [(A.begun + 1, (A.now, []))]) (B.works ++ [(B.begun + 1, B.now, [])])
      exact works_snoc h.works ⟨by rw [h.begun], h.now, WRel.nil⟩
    · rcases List.mem_append.1 hx with h1 | h1
      · exact h.began x h1
      · have : x = (B.begun + 1, B.now, []) := by simpa using h1
        subst this
        exact ⟨h.floorN, Int.le_refl _⟩
  · exact h

theorem Sim.getR {A : Gst} {B : Rst} (h : Sim A B) (n : Int) (key : ByteArray) : A.getR n key = B.getR n key := by
  unfold Gst.getR Rst.getR
  rcases h.find n with ⟨e1, e2⟩ | ⟨k, x, y, e1, e2, e3, e4, e5, e6, e7, -, -⟩
  · rw [e1, e2]; rfl
  · rw [e1, e2]
    simp only [Option.isSome_some, if_true, Option.getD_some, e3]
    split
    · have hb := (h.began y e5).1
      have hs := stand_eq h.all h.vers e7 hb key
      rw [stand_get, e6]
      unfold Rst.seen getOf
      rw [← hs]
      cases hasL (seesL B.all y.2.1 y.2.2) key <;> rfl
    · rfl

theorem Sim.writeR {A : Gst} {B : Rst} (h : Sim A B) (n : Int) (key val : ByteArray) (gone : Bool) : A.writeR n key val = B.writeR n ⟨key, val, gone⟩ := by
  unfold Gst.writeR Rst.writeR
  rcases h.find n with ⟨e1, e2⟩ | ⟨k, x, y, e1, e2, e3, e4, e5, e6, e7, -, -⟩
  · rw [e1, e2]; rfl
  · rw [e1, e2]
    simp only [Option.isSome_some, if_true, Option.getD_some, e3]
    unfold Rst.writeAt
    have e : (look x.2 key).isSome = (hasL y.2.2 key).isSome := by rw [e7.same key]; cases hasL y.2.2 key <;> rfl
    rw [e, e7.len]
    simp only [Bool.or_eq_true, decide_eq_true_eq]

theorem Sim.writeS {A : Gst} {B : Rst} (h : Sim A B) (n : Int) (key val : ByteArray) (gone : Bool) : Sim (A.writeS n key val gone) (B.writeS n ⟨key, val, gone⟩) := by
  have hr := h.writeR n key val gone
  unfold Gst.writeS Rst.writeS
  rcases h.find n with ⟨e1, e2⟩ | ⟨k, x, y, e1, e2, e3, e4, e5, e6, e7, -, e9⟩
  · have e0 : B.writeR n ⟨key, val, gone⟩ = 1 := by unfold Rst.writeR; rw [e2]; rfl
    rw [e1, e0, if_neg (by decide)]
    exact h
  · rw [e1, ← hr]
    simp only
    split
    · rw [e2, Option.getD_some]
      unfold Rst.wrote
      rw [e3]
      refine { h with works := e9 _ _ (e7.put ⟨key, val, gone⟩), began := fun z hz => ?_ }
      rcases List.mem_or_eq_of_mem_set hz with h1 | h1
      · exact h.began z h1
      · subst h1
        exact h.began y e5
    · exact h

theorem rises_pairs {l m : List (ByteArray × ByteArray)} (hl : Rises (l.map (·.1))) (hm : Rises (m.map (·.1))) (h : ∀ p, p ∈ l ↔ p ∈ m) : l = m := by
  induction l generalizing m with
  | nil =>
    cases m with
    | nil => rfl
    | cons p m => have := (h p).2 (by simp); cases this
  | cons p l ih =>
    cases m with
    | nil => have := (h p).1 (by simp); cases this
    | cons q m =>
      obtain ⟨h1, h2⟩ := rises_cons hl
      obtain ⟨h3, h4⟩ := rises_cons hm
      have hpl : ∀ x ∈ l, ltK p.1 x.1 = true := fun x hx => h1 _ (List.mem_map_of_mem hx)
      have hqm : ∀ x ∈ m, ltK q.1 x.1 = true := fun x hx => h3 _ (List.mem_map_of_mem hx)
      have e : p = q := by
        rcases List.mem_cons.1 ((h p).1 (by simp)) with e | g1
        · exact e
        · rcases List.mem_cons.1 ((h q).2 (by simp)) with e | g2
          · exact e.symm
          · have := ltK_trans (hqm p g1) (hpl q g2)
            rw [ltK_irrefl] at this
            cases this
      subst e
      congr 1
      refine ih h2 h4 (fun x => ⟨fun hx => ?_, fun hx => ?_⟩)
      · rcases List.mem_cons.1 ((h x).1 (List.mem_cons_of_mem _ hx)) with e | g
        · have := hpl x hx
          rw [e, ltK_irrefl] at this
          cases this
        · exact g
      · rcases List.mem_cons.1 ((h x).2 (List.mem_cons_of_mem _ hx)) with e | g
        · have := hqm x hx
          rw [e, ltK_irrefl] at this
          cases this
        · exact g

theorem filterMap_keys {f : ByteArray → Option ByteArray} : ∀ (xs : List ByteArray), (xs.filterMap (fun k => (f k).map (fun v => (k, v)))).map (·.1) = xs.filter (fun k => (f k).isSome)
  | [] => rfl
  | x :: xs => by cases h : f x <;> simp [h, filterMap_keys xs]

theorem Sim.seen {A : Gst} {B : Rst} (h : Sim A B) {bg : Int} {ws : List (ByteArray × Ver)} {rs : List RecB} (hw : WRel ws rs) (hb : B.floor ≤ bg) (from_ : ByteArray) : A.seen bg ws from_ = pairsOf ((seesL B.all bg rs).filter (fun r => !ltK r.key from_)) := by
  have hf : pairOf ws A.vers bg = fun k => (standG ws A.vers bg k).map (fun v => (k, v)) := funext (stand_pair ws A.vers bg)
  unfold Gst.seen
  rw [hf]
  have hse := fun k => stand_eq h.all h.vers hw hb k
  have hR := seesL_rises B.all bg rs
  refine rises_pairs ?_ ?_ ?_
  · rw [filterMap_keys]
    exact ((insAll_rises _ h.keysR).sublist List.filter_sublist).sublist List.filter_sublist
  · unfold pairsOf Rises
    rw [List.map_map, List.pairwise_map]
    exact (hR.sublist List.filter_sublist)
  · rintro ⟨k, v⟩
    rw [List.mem_filterMap]
    unfold pairsOf
    rw [List.mem_map]
    constructor
    · rintro ⟨k', hk', e⟩
      cases hs : standG ws A.vers bg k' with
      | none => rw [hs] at e; cases e
      | some v' =>
        rw [hs] at e
        obtain ⟨rfl, rfl⟩ : k' = k ∧ v' = v := by simpa using e
        have := hse k'
        rw [hs] at this
        cases hh : hasL (seesL B.all bg rs) k' with
        | none => rw [hh] at this; cases this
        | some r =>
          rw [hh] at this
          have hrv : r.value = v' := by simpa using this
          obtain ⟨g1, g2⟩ := has_some hh
          exact ⟨r, List.mem_filter.2 ⟨g1, by rw [g2]; exact (List.mem_filter.1 hk').2⟩, by rw [g2, hrv]⟩
    · rintro ⟨r, hr, e⟩
      obtain ⟨rfl, rfl⟩ : r.key = k ∧ r.value = v := by simpa using e
      obtain ⟨g1, g2⟩ := List.mem_filter.1 hr
      have := hse r.key
      rw [has_of_mem hR g1] at this
      have hs : standG ws A.vers bg r.key = some r.value := this.symm
      refine ⟨r.key, List.mem_filter.2 ⟨(insAll_mem _ _ _).2 ?_, g2⟩, by rw [hs]; rfl⟩
      unfold standG seeVer at hs
      cases hl : look ws r.key with
      | some x => exact .inr ((look_isSome _ _).1 (by rw [hl]; rfl))
      | none =>
        rw [hl] at hs
        refine .inl ((h.keys r.key).2 (fun e0 => ?_))
        rw [e0] at hs
        cases hs

theorem Sim.scanR {A : Gst} {B : Rst} (h : Sim A B) (n : Int) (from_ : ByteArray) (most : Int) : A.scanR n from_ most = B.scanR n from_ most := by
  unfold Gst.scanR Rst.scanR
  rcases h.find n with ⟨e1, e2⟩ | ⟨k, x, y, e1, e2, e3, e4, e5, e6, e7, -, -⟩
  · rw [e1, e2]; rfl
  · rw [e1, e2]
    simp only [Option.isSome_some, if_true, Option.getD_some, e3]
    split
    · rw [e6, h.seen e7 (h.began y e5).1 from_]
      rfl
    · rfl

theorem Sim.abortR {A : Gst} {B : Rst} (h : Sim A B) (n : Int) : A.abortR n = B.abortR n := by
  unfold Gst.abortR Rst.abortR
  rcases h.find n with ⟨e1, e2⟩ | ⟨k, x, y, e1, e2, -⟩
  · rw [e1, e2]; rfl
  · rw [e1, e2]; rfl

theorem Sim.over {A : Gst} {B : Rst} (h : Sim A B) {n : Int} {k : Nat} (hw : Par WorkRel (del A.works n) (B.works.eraseIdx k)) : Sim (A.ended n) (B.over k) :=
  { h with works := hw, began := fun x hx => h.began x (List.mem_of_mem_eraseIdx hx) }

theorem Sim.abortS {A : Gst} {B : Rst} (h : Sim A B) (n : Int) : Sim (A.abortS n) (B.abortS n) := by
  unfold Gst.abortS Rst.abortS
  rcases h.find n with ⟨e1, e2⟩ | ⟨k, x, y, e1, e2, e3, e4, e5, e6, e7, e8, -⟩
  · rw [e1, e2]; exact h
  · rw [e1, e2]; exact h.over e8

/-! ### a commit -/

theorem lastOf_max {vs : List Ver} (h : Rising vs) {v : Ver} (hv : v ∈ vs) : v.state ≤ lastOf vs := by
  unfold lastOf
  rcases List.eq_nil_or_concat vs with rfl | ⟨init, u, rfl⟩
  · cases hv
  · rw [List.concat_eq_append] at *
    rw [List.getLast?_concat]
    show v.state ≤ u.state
    rcases List.mem_append.1 hv with h1 | h1
    · exact Int.le_of_lt ((List.pairwise_append.1 h).2.2 v h1 u (by simp))
    · have : v = u := by simpa using h1
      rw [this]; exact Int.le_refl _

theorem Sim.clash {A : Gst} {B : Rst} (h : Sim A B) {bg : Int} {ws : List (ByteArray × Ver)} {rs : List RecB} (hw : WRel ws rs) (hb : B.floor ≤ bg) : clashB A bg ws = clashL B.all bg rs := by
  rw [Bool.eq_iff_iff]
  unfold clashB clashL
  rw [List.any_eq_true, List.any_eq_true]
  constructor
  · rintro ⟨p, hp, hl⟩
    have hl' : bg < lastOf (A.vers p.1) := by simpa using hl
    have h0 := h.floor0
    unfold lastOf at hl'
    cases hg : (A.vers p.1).getLast? with
    | none => rw [hg] at hl'; simp at hl'; omega
    | some v =>
      rw [hg] at hl'
      have hm := List.mem_of_getLast? hg
      rw [h.vers] at hm
      obtain ⟨x, hx, rfl⟩ := List.mem_map.1 hm
      obtain ⟨g1, g2⟩ := List.mem_filter.1 hx
      simp only [liveB, Bool.and_eq_true, decide_eq_true_eq] at g2
      refine ⟨x, g1, ?_⟩
      rw [Bool.and_eq_true]
      refine ⟨?_, by simpa [RVer.ver] using hl'⟩
      have hs : (look ws x.r.key).isSome = true := (look_isSome _ _).2 (by rw [g2.1]; exact List.mem_map_of_mem hp)
      rw [hw.same] at hs
      simpa using hs
  · rintro ⟨x, hx, hxc⟩
    obtain ⟨c1, c2⟩ := Bool.and_eq_true_iff.1 hxc
    have c2' : bg < x.state := by simpa using c2
    have ht : x.thrown = false := by
      cases hq : x.thrown with
      | false => rfl
      | true => have := (h.all.thrown x hx hq).1; omega
    have hs : (look ws x.r.key).isSome = true := by rw [hw.same]; simpa using c1
    obtain ⟨p, hp, e⟩ := List.mem_map.1 ((look_isSome _ _).1 hs)
    refine ⟨p, hp, ?_⟩
    have hm : x.ver ∈ A.vers p.1 := by
      rw [h.vers, e]
      exact List.mem_map_of_mem (List.mem_filter.2 ⟨hx, by simp [liveB, ht]⟩)
    have hr : Rising (A.vers p.1) := by rw [h.vers]; exact h.all.vers_rising _
    have := lastOf_max hr hm
    have e2 : x.ver.state = x.state := rfl
    simp
    omega

theorem puts_live {rs : List RecB} (h : RRises rs) (s : Int) (k : ByteArray) : ((putsL rs s).filter (liveB k)).map RVer.ver = match hasL rs k with | some r => [⟨s, r.value, r.gone⟩] | none => [] := by
  have e : (putsL rs s).filter (liveB k) = (rs.filter (fun r => decide (r.key = k))).map (fun r => ⟨s, r, false⟩) := by
    unfold putsL
    rw [List.filter_map]
    congr 1
    apply List.filter_congr
    intro r _
    simp [liveB]
  rw [e, List.map_map]
  induction rs with
  | nil => rfl
  | cons r rs ih =>
    obtain ⟨h1, h2⟩ := List.pairwise_cons.1 h
    unfold hasL
    rw [List.filter_cons, List.find?_cons]
    by_cases hk : r.key = k
    · have e1 : rs.filter (fun r => decide (r.key = k)) = [] := by
        rw [List.filter_eq_nil_iff]
        intro u hu hd
        have hd' : u.key = k := by simpa using hd
        have := h1 u hu
        rw [hk, hd', ltK_irrefl] at this
        cases this
      rw [e1]
      simp [hk, RVer.ver]
    · have := ih h2 (by
        unfold putsL
        rw [List.filter_map]
        congr 1
        apply List.filter_congr
        intro r _
        simp [liveB])
      rw [if_neg (by simp [hk])]
      simp only [hk, decide_false]
      exact this

theorem AllOk.puts {all : List RVer} {now floor t : Int} {rs : List RecB} (h : AllOk all now floor) (hr : RRises rs) (hn : 0 ≤ t) (hnt : now < t) : AllOk (all ++ putsL rs t) t floor := by
  have hp : ∀ v ∈ putsL rs t, v.state = t ∧ v.thrown = false := fun v hv => by
    unfold putsL at hv
    obtain ⟨r, _, rfl⟩ := List.mem_map.1 hv
    exact ⟨rfl, rfl⟩
  refine ⟨List.pairwise_append.2 ⟨h.rising, ?_, fun a ha b hb _ => ?_⟩, fun v hv => ?_, fun v hv ht => ?_, fun v hv ht u hu hk hs => ?_⟩
  · unfold putsL
    rw [List.pairwise_map]
    exact hr.imp (fun {a b} hab e => by
      have e' : a.key = b.key := e
      rw [e', ltK_irrefl] at hab
      cases hab)
  · have := (h.states a ha).2
    have := (hp b hb).1
    omega
  · rcases List.mem_append.1 hv with h1 | h1
    · have := h.states v h1
      omega
    · have := (hp v h1).1
      omega
  · rcases List.mem_append.1 hv with h1 | h1
    · obtain ⟨g1, g2⟩ := h.thrown v h1 ht
      refine ⟨g1, g2.imp (fun g => ?_) id⟩
      unfold laterL at g ⊢
      rw [List.any_append, g]
      rfl
    · rw [(hp v h1).2] at ht
      cases ht
  · rcases List.mem_append.1 hv with h1 | h1
    · rcases List.mem_append.1 hu with h2 | h2
      · exact h.closed v h1 ht u h2 hk hs
      · have e1 := (hp u h2).1
        have e2 := (h.states v h1).2
        omega
    · rw [(hp v h1).2] at ht
      cases ht

theorem Sim.commitR {A : Gst} {B : Rst} (h : Sim A B) (n : Int) : A.commitR n = B.commitR n := by
  unfold Gst.commitR Rst.commitR
  rcases h.find n with ⟨e1, e2⟩ | ⟨k, x, y, e1, e2, e3, e4, e5, e6, e7, e8, -⟩
  · rw [e1, e2]; rfl
  · rw [e1, e2]
    simp only [Option.isSome_some, if_true, Option.getD_some, e3]
    unfold Rst.commitAt
    have hl := e7.len
    by_cases c0 : x.2 = []
    · have c0' : y.2.2.length = 0 := by rw [← hl, c0]; rfl
      rw [if_pos c0, if_pos c0', e6]
    · have c0' : ¬ y.2.2.length = 0 := fun e => c0 (List.length_eq_zero_iff.1 (hl.trans e))
      rw [if_neg c0, if_neg c0', h.now, e6, h.clash e7 (h.began y e5).1]
      by_cases c1 : B.now < 1000000000
      · have c1' : ¬ 1000000000 ≤ B.now := by omega
        rw [if_pos c1, if_neg c1']
      · have c1' : 1000000000 ≤ B.now := by omega
        rw [if_neg c1, if_pos c1']

theorem Sim.commitS {A : Gst} {B : Rst} (h : Sim A B) (n : Int) : Sim (A.commitS n) (B.commitS n) := by
  unfold Gst.commitS Rst.commitS
  rcases h.find n with ⟨e1, e2⟩ | ⟨k, x, y, e1, e2, e3, e4, e5, e6, e7, e8, -⟩
  · rw [e1, e2]; exact h
  · rw [e1, e2]
    simp only [Option.isSome_some, if_true, Option.getD_some, e3]
    unfold Rst.commitTo
    have hl := e7.len
    by_cases c0 : x.2 = []
    · have c0' : y.2.2.length = 0 := by rw [← hl, c0]; rfl
      rw [if_pos c0, if_pos c0']
      exact h.over e8
    · have c0' : ¬ y.2.2.length = 0 := fun e => c0 (List.length_eq_zero_iff.1 (hl.trans e))
      rw [if_neg c0, if_neg c0', h.now, e6, h.clash e7 (h.began y e5).1]
      by_cases c1 : B.now < 1000000000
      · have c1' : ¬ 1000000000 ≤ B.now := by omega
        rw [if_pos c1, if_neg c1']
        split
        · exact h.over e8
        · have h0 := h.floor0
          have hN := h.floorN
          have hv : ∀ key, (A.became n x.2).vers key = ((B.all ++ putsL y.2.2 (B.now + 1)).filter (liveB key)).map RVer.ver := fun key => by
            show (if (look x.2 key).isSome then A.vers key ++ [verOf x.2 (A.now + 1) key] else A.vers key) = _
            rw [List.filter_append, List.map_append, puts_live e7.rises, ← h.vers key, h.now]
            unfold verOf
            rw [e7.same key]
            cases hasL y.2.2 key <;> simp [RecB.ver]
          refine { h with now := ?_, floorN := ?_, works := e8, began := fun z hz => ?_, vers := hv, keysR := insAll_rises _ h.keysR, keys := fun key => ?_, all := h.all.puts e7.rises (by omega) (by omega), pinned := fun s hs => ?_, copied := fun z hz => ?_ }
          · show A.now + 1 = B.now + 1
            rw [h.now]
          · show B.floor ≤ B.now + 1
            omega
          · have := h.began z (List.mem_of_mem_eraseIdx hz)
            refine ⟨this.1, ?_⟩
            show z.2.1 ≤ B.now + 1
            omega
          · show key ∈ insAll A.keys (x.2.map (·.1)) ↔ (if (look x.2 key).isSome then A.vers key ++ [verOf x.2 (A.now + 1) key] else A.vers key) ≠ []
            rw [insAll_mem, ← look_isSome, h.keys]
            cases (look x.2 key).isSome <;> simp
          · have := h.pinned s hs
            refine ⟨this.1, ?_⟩
            show s ≤ B.now + 1
            omega
          · have := h.copied z hz
            refine ⟨this.1, ?_⟩
            show z.2.1 ≤ B.now + 1
            omega
      · have c1' : 1000000000 ≤ B.now := by omega
        rw [if_neg c1, if_pos c1']
        exact h

end Go.Proofs.YtfcocbcihhdbkaaGreatDoor
