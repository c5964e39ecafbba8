import Derived.Test.YtfcocbcihhdbkaaGreatDoorM27

/- The two stores side by side: pins, Sweep, Look. -/

namespace Go.Proofs.YtfcocbcihhdbkaaGreatDoor

open Go.RowKit Go.Shelf

/-! ### pins -/

theorem Sim.pinR {A : Gst} {B : Rst} (h : Sim A B) (s : Int) : A.pinR s = B.pinR s := by
  unfold Gst.pinR Rst.pinR Gst.hasB Rst.there
  rw [h.now, h.floor]

theorem look_getD_put (l : List (Int × Int)) (s v t : Int) : (look (put l s v) t).getD 0 = if s = t then v else (look l t).getD 0 := by
  rw [look_put]
  split <;> rfl

theorem nodup_put {l : List (Int × Int)} (h : (l.map (·.1)).Nodup) (s v : Int) : ((put l s v).map (·.1)).Nodup := by
  cases hl : look l s with
  | none =>
    rw [put_none hl, List.map_append]
    refine List.nodup_append.2 ⟨h, by simp, fun a ha b hb => ?_⟩
    have hb' : b = s := by simpa using hb
    rintro rfl
    obtain ⟨p, hp, e⟩ := List.mem_map.1 ha
    exact look_none.1 hl p hp (e.trans hb')
  | some x => rw [keys_put_some hl]; exact h

theorem mem_put_or {l : List (Int × Int)} {s v : Int} {p : Int × Int} : p ∈ put l s v → p = (s, v) ∨ p ∈ l := by
  induction l with
  | nil => intro hp; left; simpa [put] using hp
  | cons q l ih =>
    obtain ⟨a, x⟩ := q
    intro hp
    unfold put at hp
    split at hp
    · rcases List.mem_cons.1 hp with e | hp
      · exact .inl e
      · exact .inr (List.mem_cons_of_mem _ hp)
    · rcases List.mem_cons.1 hp with e | hp
      · exact .inr (by rw [e]; simp)
      · exact (ih hp).imp id (List.mem_cons_of_mem _)

theorem mem_del_sub {l : List (Int × Int)} {s : Int} : (del l s).Sublist l := by
  induction l with
  | nil => exact List.Sublist.refl _
  | cons q l ih =>
    obtain ⟨a, x⟩ := q
    unfold del
    split
    · exact List.sublist_cons_self _ _
    · exact ih.cons_cons _

theorem Sim.pinS {A : Gst} {B : Rst} (h : Sim A B) (s : Int) : Sim (A.pinS s) (B.pinS s) := by
  unfold Gst.pinS Rst.pinS
  have e : A.hasB s = B.there s := by unfold Gst.hasB Rst.there; rw [h.now, h.floor]
  rw [e]
  split
  · rename_i ht
    have hc := h.pins s
    have hz : 0 ≤ (look A.pins s).getD 0 := by rw [hc]; omega
    refine { h with pins := fun t => ?_, pinsN := nodup_put h.pinsN _ _, pinsP := fun p hp => ?_, pinSum := ?_, pinned := fun t ht' => ?_ }
    · rw [look_getD_put]
      show _ = ((B.pins ++ [s]).count t : Int)
      rw [List.count_append]
      split
      · rename_i e; subst e; rw [hc]; simp
      · rename_i e; rw [h.pins t]; simp [e]
    · rcases mem_put_or hp with rfl | hp
      · show 1 ≤ (look A.pins s).getD 0 + 1
        omega
      · exact h.pinsP p hp
    · show ((put A.pins s ((look A.pins s).getD 0 + 1)).map (·.2)).sum = ((B.pins ++ [s]).length : Int)
      have := h.pinSum
      unfold Gst.pinSum at this
      rw [sum_put, this]
      simp
      omega
    · rcases List.mem_append.1 ht' with h1 | h1
      · exact h.pinned t h1
      · have e : t = s := by simpa using h1
        subst e
        unfold Rst.there at ht
        simpa using ht
  · exact h

theorem Sim.unpinR {A : Gst} {B : Rst} (h : Sim A B) (s : Int) : A.unpinR s = unpinAns B.pins s := by
  unfold Gst.unpinR unpinAns
  rw [h.pins s]
  by_cases hm : s ∈ B.pins
  · have := List.count_pos_iff.2 hm
    rw [if_neg (by omega), if_pos hm]
  · rw [if_pos (by rw [List.count_eq_zero.2 hm]; rfl), if_neg hm]

theorem Sim.unpinS {A : Gst} {B : Rst} (h : Sim A B) (s : Int) : Sim (A.unpinS s) (B.unpinS s) := by
  unfold Gst.unpinS Rst.unpinS
  have hc := h.pins s
  have hp := h.pinSum
  unfold Gst.pinSum at hp
  by_cases hm : s ∈ B.pins
  · have h1 := List.count_pos_iff.2 hm
    have hlen := List.length_erase_of_mem hm
    have hlp : 0 < B.pins.length := List.length_pos_of_mem hm
    have hcount : ∀ t, (((B.pins.erase s).count t : Nat) : Int) = if s = t then (B.pins.count s : Int) - 1 else B.pins.count t := fun t => by
      rw [List.count_erase]
      by_cases e : s = t
      · subst e; rw [if_pos rfl]; simp; omega
      · rw [if_neg e]; simp [e]
    rw [if_neg (by rw [hc]; omega)]
    by_cases h2 : (look A.pins s).getD 0 = 1
    · rw [if_pos h2]
      refine { h with pins := fun t => ?_, pinsN := h.pinsN.sublist (mem_del_sub.map _), pinsP := fun p hp => h.pinsP p (mem_del_sub.subset hp), pinSum := ?_, pinned := fun t ht => h.pinned t (List.mem_of_mem_erase ht) }
      · show (look (del A.pins s) t).getD 0 = ((B.pins.erase s).count t : Nat)
        rw [hcount t, look_del _ h.pinsN]
        split
        · simp; omega
        · exact h.pins t
      · show ((del A.pins s).map (·.2)).sum = ((B.pins.erase s).length : Int)
        rw [sum_delI, hp]
        omega
    · rw [if_neg h2]
      refine { h with pins := fun t => ?_, pinsN := nodup_put h.pinsN _ _, pinsP := fun p hp => ?_, pinSum := ?_, pinned := fun t ht => h.pinned t (List.mem_of_mem_erase ht) }
      · show (look (put A.pins s _) t).getD 0 = ((B.pins.erase s).count t : Nat)
        rw [hcount t, look_getD_put]
        split
        · omega
        · exact h.pins t
      · rcases mem_put_or hp with rfl | hp
        · show 1 ≤ (look A.pins s).getD 0 - 1
          omega
        · exact h.pinsP p hp
      · show ((put A.pins s ((look A.pins s).getD 0 - 1)).map (·.2)).sum = ((B.pins.erase s).length : Int)
        rw [sum_put, hp]
        omega
  · rw [if_pos (by rw [hc, List.count_eq_zero.2 hm]; rfl), List.erase_of_not_mem hm]
    exact h

/-! ### how many there are -/

theorem sum_zero {α : Type} (f : α → Nat) : ∀ (l : List α), (∀ k ∈ l, f k = 0) → (l.map f).sum = 0
  | [], _ => rfl
  | a :: l, h => by simp [h a (by simp), sum_zero f l (fun k hk => h k (by simp [hk]))]

theorem sum_one (x : ByteArray) : ∀ (l : List ByteArray), l.Nodup → x ∈ l → (l.map (fun k => if x = k then 1 else 0)).sum = 1
  | [], _, h => by cases h
  | a :: l, hn, h => by
    obtain ⟨h1, h2⟩ := List.nodup_cons.1 hn
    simp only [List.map_cons, List.sum_cons]
    by_cases e : x = a
    · subst e
      rw [sum_zero _ l (fun k hk => if_neg (fun e : x = k => h1 (e ▸ hk)))]
      simp
    · rw [if_neg e, sum_one x l h2 ((List.mem_cons.1 h).resolve_left e)]

theorem sum_by_key {keys : List ByteArray} (hn : keys.Nodup) (p : RVer → Bool) : ∀ (l : List RVer), (∀ v ∈ l, p v = true → v.r.key ∈ keys) → (keys.map (fun k => l.countP (fun v => decide (v.r.key = k) && p v))).sum = l.countP p
  | [], _ => sum_zero _ _ (fun k _ => rfl)
  | v :: l, h => by
    have ih := sum_by_key hn p l (fun u hu => h u (by simp [hu]))
    have e : (keys.map (fun k => (v :: l).countP (fun v => decide (v.r.key = k) && p v))) = keys.map (fun k => l.countP (fun v => decide (v.r.key = k) && p v) + (if (decide (v.r.key = k) && p v) = true then 1 else 0)) := by
      apply List.map_congr_left
      intro k _
      rw [List.countP_cons]
    rw [e, sum_add, ih, List.countP_cons]
    congr 1
    cases hp : p v with
    | false => exact sum_zero _ _ (fun k _ => by simp)
    | true =>
      have := sum_one v.r.key keys hn (h v (by simp) hp)
      simpa using this

theorem Sim.total {A : Gst} {B : Rst} (h : Sim A B) : A.total = countL B.all := by
  unfold Gst.total countL
  have e : A.keys.map (fun k => (A.vers k).length) = A.keys.map (fun k => B.all.countP (fun v => decide (v.r.key = k) && !v.thrown)) := by
    apply List.map_congr_left
    intro k _
    rw [h.vers, List.length_map, List.countP_eq_length_filter]
    rfl
  rw [e]
  refine sum_by_key (rises_nodup h.keysR) (fun v => !v.thrown) B.all (fun v hv ht => ?_)
  rw [h.keys, h.vers]
  intro e0
  have hm : v.ver ∈ (B.all.filter (liveB v.r.key)).map RVer.ver := List.mem_map_of_mem (List.mem_filter.2 ⟨hv, by simp [liveB]; simpa using ht⟩)
  rw [e0] at hm
  cases hm

theorem Sim.openN {A : Gst} {B : Rst} (h : Sim A B) : A.works.length = B.works.length := works_len h.works

theorem Sim.copN {A : Gst} {B : Rst} (h : Sim A B) : A.copyings.length = B.copies.length := by simpa using congrArg List.length h.copies

/-! ### what is held -/

theorem low_is (n : Int) (l : List Int) : lowL n l = leastOf n l := rfl

theorem least_append (n : Int) (l m : List Int) : leastOf (leastOf n l) m = leastOf n (l ++ m) := by
  unfold leastOf
  rw [List.foldl_append]

theorem Sim.least {A : Gst} {B : Rst} (h : Sim A B) : A.least = B.held := by
  unfold Rst.held Gst.least
  rw [low_is, low_is, low_is, least_append, least_append]
  have h1 := leastOf_is A.held A.now
  have h2 := leastOf_is (B.works.map (fun x => x.2.1) ++ (B.pins ++ B.copies.map (fun x => x.2.1))) B.now
  refine least_unique h1 ?_
  have hm : ∀ s, s ∈ A.held ↔ s ∈ B.works.map (fun x => x.2.1) ++ (B.pins ++ B.copies.map (fun x => x.2.1)) := fun s => by
    unfold Gst.held
    rw [works_began h.works, List.append_assoc]
    have e1 : A.copyings.map (fun p => p.2.need) = B.copies.map (fun x => x.2.1) := by
      have := congrArg (List.map Prod.snd) h.copies
      simpa [List.map_map, Function.comp_def] using this
    have e2 : s ∈ A.pins.map (fun p => p.1) ↔ s ∈ B.pins := by
      rw [← List.count_pos_iff (l := B.pins)]
      have hc := h.pins s
      constructor
      · intro hs
        obtain ⟨p, hp, rfl⟩ := List.mem_map.1 hs
        have hl := look_of_mem h.pinsN hp
        rw [hl] at hc
        have := h.pinsP p hp
        simp only [Option.getD_some] at hc
        omega
      · intro hs
        cases hl : look A.pins s with
        | none => rw [hl] at hc; simp at hc; omega
        | some v => exact List.mem_map.2 ⟨(s, v), look_mem hl, rfl⟩
    rw [List.mem_append, List.mem_append, List.mem_append, List.mem_append, e1, e2]
  rw [h.now]
  exact ⟨h2.1, fun b hb => h2.2.1 b ((hm b).1 hb), h2.2.2.imp id (fun g => (hm _).2 g)⟩

theorem Sim.held_ge {A : Gst} {B : Rst} (h : Sim A B) : B.floor ≤ B.held ∧ B.held ≤ B.now ∧ (∀ x ∈ B.works, B.held ≤ x.2.1) ∧ (∀ s ∈ B.pins, B.held ≤ s) ∧ ∀ x ∈ B.copies, B.held ≤ x.2.1 := by
  have e : B.held = leastOf B.now (B.works.map (fun x => x.2.1) ++ (B.pins ++ B.copies.map (fun x => x.2.1))) := by
    unfold Rst.held
    rw [low_is, low_is, low_is, least_append, least_append]
  obtain ⟨g1, g2, g3⟩ := leastOf_is (B.works.map (fun x => x.2.1) ++ (B.pins ++ B.copies.map (fun x => x.2.1))) B.now
  rw [← e] at g1 g2 g3
  refine ⟨?_, g1, fun x hx => g2 _ (List.mem_append.2 (.inl (List.mem_map.2 ⟨x, hx, rfl⟩))), fun s hs => g2 _ (List.mem_append.2 (.inr (List.mem_append.2 (.inl hs)))), fun x hx => g2 _ (List.mem_append.2 (.inr (List.mem_append.2 (.inr (List.mem_map.2 ⟨x, hx, rfl⟩)))))⟩
  rcases g3 with g3 | g3
  · rw [g3]; exact h.floorN
  · rcases List.mem_append.1 g3 with g3 | g3
    · obtain ⟨x, hx, e⟩ := List.mem_map.1 g3
      rw [← e]; exact (h.began x hx).1
    · rcases List.mem_append.1 g3 with g3 | g3
      · exact (h.pinned _ g3).1
      · obtain ⟨x, hx, e⟩ := List.mem_map.1 g3
        rw [← e]; exact (h.copied x hx).1

/-! ### what is thrown away -/

theorem drop_shape {F : List RVer} {L : Int} {thr : RVer → Bool} (hr : F.Pairwise (fun a b => a.state < b.state))
    (ht : ∀ v ∈ F, thr v = (decide (v.state ≤ L) && (F.any (fun x => decide (v.state < x.state) && decide (x.state ≤ L)) || v.r.gone))) :
    F.filter (fun v => !thr v) = F.drop (needN (F.map RVer.ver) L) ∧ F.countP thr = needN (F.map RVer.ver) L := by
  have hR : Rising (F.map RVer.ver) := by unfold Rising; rw [List.pairwise_map]; exact hr
  have ea := atVer_last hR L
  have eu : upN (F.map RVer.ver) L = (F.filter (fun v => decide (v.state ≤ L))).length := by
    unfold upN
    rw [rising_filter hR, List.filter_map, List.length_map]
    rfl
  have ef : ((F.map RVer.ver).filter (fun v => decide (v.state ≤ L))) = (F.filter (fun v => decide (v.state ≤ L))).map RVer.ver := by
    rw [List.filter_map]
    rfl
  obtain ⟨P, Q, rfl, hP, hQ⟩ : ∃ P Q, F = P ++ Q ∧ (∀ v ∈ P, v.state ≤ L) ∧ ∀ v ∈ Q, L < v.state := by
    clear ht ea eu ef hR
    induction F with
    | nil => exact ⟨[], [], rfl, fun _ h => (by cases h), fun _ h => (by cases h)⟩
    | cons v F ih =>
      obtain ⟨h1, h2⟩ := List.pairwise_cons.1 hr
      by_cases hv : v.state ≤ L
      · obtain ⟨P, Q, rfl, hP, hQ⟩ := ih h2
        exact ⟨v :: P, Q, rfl, fun u hu => by rcases List.mem_cons.1 hu with rfl | hu; exact hv; exact hP u hu, hQ⟩
      · exact ⟨[], v :: F, rfl, fun _ h => (by cases h), fun u hu => by
          rcases List.mem_cons.1 hu with rfl | hu
          · omega
          · have := h1 u hu; omega⟩
  have e1 : (P ++ Q).filter (fun v => decide (v.state ≤ L)) = P := by
    rw [List.filter_append]
    have a1 : P.filter (fun v => decide (v.state ≤ L)) = P := List.filter_eq_self.2 (fun v hv => by simp [hP v hv])
    have a2 : Q.filter (fun v => decide (v.state ≤ L)) = [] := List.filter_eq_nil_iff.2 (fun v hv => by have := hQ v hv; simp; omega)
    rw [a1, a2, List.append_nil]
  rw [e1] at eu ef
  rw [ef] at ea
  have tQ : ∀ v ∈ Q, thr v = false := fun v hv => by
    rw [ht v (by simp [hv])]
    have := hQ v hv
    have e : decide (v.state ≤ L) = false := by simp; omega
    rw [e]; rfl
  have fQ : Q.filter (fun v => !thr v) = Q := List.filter_eq_self.2 (fun v hv => by simp [tQ v hv])
  have cQ : Q.countP thr = 0 := List.countP_eq_zero.2 (fun v hv => by simp [tQ v hv])
  rw [List.filter_append, List.countP_append, fQ, cQ]
  unfold needN
  rw [ea, eu]
  rcases List.eq_nil_or_concat P with rfl | ⟨I, v, rfl⟩
  · simp
  · rw [List.concat_eq_append] at *
    have hlast : (List.map RVer.ver (I ++ [v])).getLast? = some v.ver := by rw [List.getLast?_map, List.getLast?_concat]; rfl
    rw [hlast]
    have hvL := hP v (by simp)
    have hI : ∀ u ∈ I, u.state < v.state := fun u hu => (List.pairwise_append.1 (List.pairwise_append.1 hr).1).2.2 u hu v (by simp)
    have tI : ∀ u ∈ I, thr u = true := fun u hu => by
      rw [ht u (by simp [hu])]
      have h1 := hP u (by simp [hu])
      have h2 := hI u hu
      have e : ((I ++ [v]) ++ Q).any (fun x => decide (u.state < x.state) && decide (x.state ≤ L)) = true := List.any_eq_true.2 ⟨v, by simp, by simp [h2, hvL]⟩
      rw [e]
      simp [h1]
    have tv : thr v = v.r.gone := by
      rw [ht v (by simp)]
      have e : ((I ++ [v]) ++ Q).any (fun x => decide (v.state < x.state) && decide (x.state ≤ L)) = false := by
        rw [List.any_eq_false]
        intro x hx
        rcases List.mem_append.1 hx with hx | hx
        · rcases List.mem_append.1 hx with hx | hx
          · have := hI x hx; simp; omega
          · have : x = v := by simpa using hx
            subst this; simp
        · have := hQ x hx; simp; omega
      rw [e]
      simp [hvL]
    have fI : I.filter (fun v => !thr v) = [] := List.filter_eq_nil_iff.2 (fun u hu => by simp [tI u hu])
    have cI : I.countP thr = I.length := List.countP_eq_length.2 tI
    rw [List.filter_append, List.countP_append, fI, cI]
    have eg : v.ver.gone = v.r.gone := rfl
    simp only [eg]
    cases hg : v.r.gone with
    | true =>
      rw [hg] at tv
      simp [tv]
    | false =>
      rw [hg] at tv
      simp [tv]

theorem throwV_state (l : List RVer) (f : Int) (v : RVer) : (throwV l f v).state = v.state ∧ (throwV l f v).r = v.r ∧ (throwV l f v).thrown = (v.thrown || throwB l f v) := by
  unfold throwV
  cases h : throwB l f v with
  | true => exact ⟨rfl, rfl, by simp [RVer.off]⟩
  | false => exact ⟨rfl, rfl, by simp⟩

theorem later_swept (l : List RVer) (f : Int) (v : RVer) : laterL (sweptL l f) (throwV l f v) f = laterL l v f := by
  unfold laterL sweptL
  rw [List.any_map]
  congr 1
  funext x
  obtain ⟨h1, h2, -⟩ := throwV_state l f x
  obtain ⟨h3, h4, -⟩ := throwV_state l f v
  simp only [Function.comp, laterB, h1, h2, h3, h4]

theorem pairwise_or {α : Type} {R : α → α → Prop} : ∀ {l : List α}, l.Pairwise R → ∀ a ∈ l, ∀ b ∈ l, a = b ∨ R a b ∨ R b a
  | [], _, a, h, _, _ => by cases h
  | x :: l, hp, a, ha, b, hb => by
    obtain ⟨h1, h2⟩ := List.pairwise_cons.1 hp
    rcases List.mem_cons.1 ha with ea | ha'
    · rcases List.mem_cons.1 hb with eb | hb'
      · exact .inl (ea.trans eb.symm)
      · exact .inr (.inl (ea ▸ h1 b hb'))
    · rcases List.mem_cons.1 hb with eb | hb'
      · exact .inr (.inr (eb ▸ h1 a ha'))
      · exact pairwise_or h2 a ha' b hb'

theorem AllOk.swept {all : List RVer} {now floor L : Int} (h : AllOk all now floor) (hL : floor ≤ L) : AllOk (sweptL all L) now L := by
  have st := throwV_state all L
  have later : ∀ v, laterL all v floor = true → laterL all v L = true := fun v hl => by
    unfold laterL at hl ⊢
    obtain ⟨x, hx, hxl⟩ := List.any_eq_true.1 hl
    refine List.any_eq_true.2 ⟨x, hx, ?_⟩
    simp only [laterB, Bool.and_eq_true, decide_eq_true_eq] at hxl ⊢
    exact ⟨hxl.1, by omega⟩
  refine ⟨?_, fun v hv => ?_, fun v hv ht => ?_, fun v hv ht u hu hk hs => ?_⟩
  · unfold sweptL
    rw [List.pairwise_map]
    refine h.rising.imp (fun {a b} hab => ?_)
    rw [(st a).1, (st b).1, (st a).2.1, (st b).2.1]
    exact hab
  · obtain ⟨x, hx, rfl⟩ := List.mem_map.1 hv
    rw [(st x).1]
    exact h.states x hx
  · obtain ⟨x, hx, rfl⟩ := List.mem_map.1 hv
    rw [later_swept, (st x).1, (st x).2.1]
    rw [(st x).2.2] at ht
    rcases Bool.or_eq_true_iff.1 ht with ht | ht
    · obtain ⟨g1, g2⟩ := h.thrown x hx ht
      exact ⟨by omega, g2.imp (later x) id⟩
    · simp only [throwB, Bool.and_eq_true, Bool.or_eq_true, decide_eq_true_eq] at ht
      exact ⟨ht.1.2, ht.2⟩
  · obtain ⟨x, hx, rfl⟩ := List.mem_map.1 hv
    obtain ⟨y, hy, rfl⟩ := List.mem_map.1 hu
    rw [(st x).2.2] at ht
    rw [(st x).2.1, (st y).2.1] at hk
    rw [(st x).1, (st y).1] at hs
    rw [(st y).2.2]
    rcases Bool.or_eq_true_iff.1 ht with ht | ht
    · rw [h.closed x hx ht y hy hk hs]; rfl
    · rcases pairwise_or h.rising y hy x hx with rfl | hlt | hlt
      · rw [ht]; simp
      · have hlt' := hlt hk
        cases hyt : y.thrown with
        | true => rfl
        | false =>
          simp only [throwB, Bool.and_eq_true, Bool.or_eq_true, decide_eq_true_eq] at ht
          have hl : laterL all y L = true := List.any_eq_true.2 ⟨x, hx, by simp [laterB, hk, hlt', ht.1.2]⟩
          have e : decide (y.state ≤ L) = true := by have := ht.1.2; simp; omega
          simp [throwB, hyt, hl]
          omega
      · have := hlt hk.symm
        omega

theorem Sim.need {A : Gst} {B : Rst} (h : Sim A B) (L : Int) (k : ByteArray) :
    (B.all.filter (liveB k)).filter (fun v => !throwB B.all L v) = (B.all.filter (liveB k)).drop (needN (A.vers k) L) ∧ (B.all.filter (liveB k)).countP (throwB B.all L) = needN (A.vers k) L := by
  rw [h.vers k]
  refine drop_shape ?_ (fun v hv => ?_)
  · have := h.all.vers_rising k
    unfold Rising at this
    rw [List.pairwise_map] at this
    exact this
  · obtain ⟨g1, g2⟩ := List.mem_filter.1 hv
    simp only [liveB, Bool.and_eq_true, decide_eq_true_eq, Bool.not_eq_true'] at g2
    unfold throwB
    rw [g2.2]
    simp only [Bool.not_false, Bool.true_and]
    congr 1
    congr 1
    rw [Bool.eq_iff_iff]
    unfold laterL
    rw [List.any_eq_true, List.any_eq_true]
    constructor
    · rintro ⟨x, hx, hxl⟩
      simp only [laterB, Bool.and_eq_true, decide_eq_true_eq] at hxl
      refine ⟨x, List.mem_filter.2 ⟨hx, ?_⟩, by simp [hxl.1.2, hxl.2]⟩
      have : x.thrown = false := by
        cases hq : x.thrown with
        | false => rfl
        | true =>
          have := h.all.closed x hx hq v g1 hxl.1.1.symm (by have := hxl.1.2; omega)
          rw [g2.2] at this
          cases this
      simp [liveB, hxl.1.1, g2.1, this]
    · rintro ⟨x, hx, hxl⟩
      obtain ⟨f1, f2⟩ := List.mem_filter.1 hx
      simp only [liveB, Bool.and_eq_true, decide_eq_true_eq, Bool.not_eq_true'] at f2 hxl
      exact ⟨x, f1, by simp [laterB, f2.1, g2.1, hxl.1, hxl.2]⟩

theorem Sim.sweepR {A : Gst} {B : Rst} (h : Sim A B) : A.sweepR = (sweepN B.all B.held : Nat) := by
  unfold Gst.sweepR sweepN
  rw [h.least]
  congr 1
  have e : A.keys.map (fun k => needN (A.vers k) B.held) = A.keys.map (fun k => B.all.countP (fun v => decide (v.r.key = k) && throwB B.all B.held v)) := by
    apply List.map_congr_left
    intro k _
    rw [← (h.need B.held k).2, List.countP_filter]
    apply List.countP_congr
    intro v _
    have : throwB B.all B.held v = (!v.thrown && throwB B.all B.held v) := by unfold throwB; cases v.thrown <;> simp
    rw [this]
    unfold liveB
    cases v.thrown <;> cases throwB B.all B.held v <;> simp
  rw [e]
  refine sum_by_key (rises_nodup h.keysR) _ B.all (fun v hv ht => ?_)
  rw [h.keys, h.vers]
  intro e0
  have hth : v.thrown = false := by unfold throwB at ht; cases hq : v.thrown with | false => rfl | true => rw [hq] at ht; simp at ht
  have hm : v.ver ∈ (B.all.filter (liveB v.r.key)).map RVer.ver := List.mem_map_of_mem (List.mem_filter.2 ⟨hv, by simp [liveB, hth]⟩)
  rw [e0] at hm
  cases hm

theorem Sim.sweepS {A : Gst} {B : Rst} (h : Sim A B) : Sim A.sweepS B.sweepS := by
  obtain ⟨g1, g2, g3, g4, g5⟩ := h.held_ge
  have hv : ∀ k, A.sweepS.vers k = ((sweptL B.all B.held).filter (liveB k)).map RVer.ver := fun k => by
    show (A.vers k).drop (needN (A.vers k) A.least) = _
    rw [h.least]
    conv => lhs; arg 2; rw [h.vers k]
    rw [← List.map_drop, ← (h.need B.held k).1]
    unfold sweptL
    rw [List.filter_map, List.map_map, List.filter_filter]
    have e1 : B.all.filter (liveB k ∘ throwV B.all B.held) = B.all.filter (fun v => !throwB B.all B.held v && liveB k v) := by
      apply List.filter_congr
      intro v _
      obtain ⟨-, s2, s3⟩ := throwV_state B.all B.held v
      simp only [Function.comp, liveB, s2, s3]
      cases v.thrown <;> cases throwB B.all B.held v <;> simp
    rw [e1]
    apply List.map_congr_left
    intro v _
    obtain ⟨s1, s2, -⟩ := throwV_state B.all B.held v
    simp only [Function.comp, RVer.ver, s1, s2]
  refine { h with floor := h.least, floor0 := ?_, floorN := g2, began := fun x hx => ⟨g3 x hx, (h.began x hx).2⟩, vers := hv, keysR := ?_, keys := fun k => ?_, all := h.all.swept g1, pinned := fun s hs => ⟨g4 s hs, (h.pinned s hs).2⟩, copied := fun x hx => ⟨g5 x hx, (h.copied x hx).2⟩ }
  · show 0 ≤ B.held
    have := h.floor0
    omega
  · exact h.keysR.sublist List.filter_sublist
  · show k ∈ A.keys.filter (fun k => decide (needN (A.vers k) A.least < (A.vers k).length)) ↔ (A.vers k).drop (needN (A.vers k) A.least) ≠ []
    rw [List.mem_filter, h.keys]
    simp only [decide_eq_true_eq, ne_eq, List.drop_eq_nil_iff]
    constructor
    · rintro ⟨-, h2⟩; omega
    · intro h2
      refine ⟨fun e => ?_, by omega⟩
      rw [e] at h2
      simp at h2

def Rst.zero : Rst := ⟨[], 0, 0, [], 0, [], [], 0⟩

theorem sim_zero : Sim Gst.zero Rst.zero where
  now := rfl
  floor := rfl
  floor0 := Int.le_refl _
  floorN := Int.le_refl _
  begun := rfl
  works := trivial
  began := fun _ h => by cases h
  vers := fun _ => rfl
  keysR := .nil
  keys := fun k => ⟨fun h => (by cases h), fun h => absurd rfl h⟩
  all := ⟨.nil, fun _ h => (by cases h), fun _ h => (by cases h), fun _ h => (by cases h)⟩
  pins := fun _ => rfl
  pinsN := .nil
  pinsP := fun _ h => by cases h
  pinSum := rfl
  pinned := fun _ h => by cases h
  copies := rfl
  copied := fun _ h => by cases h
  started := rfl

end Go.Proofs.YtfcocbcihhdbkaaGreatDoor

/- A store of the program's and the document's, as a law holds them together. -/

namespace Go.Proofs.YtfcocbcihhdbkaaGreatDoor

open Go.RowKit Go.Shelf

theorem FSt.kept {N : Nat} {w w' : World} {b : Nat} {A : Rst} {F : List Nat} {S : Nat → Prop} (h : FSt N w b A F) (hk : Keeps S w w') (hS : ∀ k ∈ F, ¬ S k) : FSt N w' b A F := by
  obtain ⟨R, h1, h2, h3, rfl⟩ := h
  exact ⟨R, ⟨h1.at_.kept hk hS, h1.allN, h1.works8, h1.writes, h1.begun0, h1.begunN, h1.pinsN, h1.copies4, h1.now0⟩, h2, h3, rfl⟩

theorem FSt.more {N N' : Nat} {w : World} {b : Nat} {A : Rst} {F : List Nat} (h : FSt N w b A F) (hN : N ≤ N') : FSt N' w b A F := by
  obtain ⟨R, h1, h2⟩ := h
  exact ⟨R, h1.more hN, h2⟩

theorem FSt.lt {N : Nat} {w : World} {b : Nat} {A : Rst} {F : List Nat} (h : FSt N w b A F) : ∀ k ∈ F, k < w.heap.size := by
  obtain ⟨R, h1, h2, h3, rfl⟩ := h
  exact h1.at_.lt

def RRep.zero (b : Nat) : RRep := ⟨b, .slice none 0 0, [], 0, 0, .slice none 0 0, [], 0, .slice none 0 0, [], .slice none 0 0, [], 0⟩

/-- a store that was just made by a literal -/
theorem new_f {w : World} {b : Nat} (h : w.heap[b]? = some (.cells (RRep.zero b).top 79 (0, 0))) : FSt 0 w b Rst.zero [b] :=
  ⟨RRep.zero b, ⟨⟨h, Row.nil _ _ _, Row.nil _ _ _, fun x hx => (by cases hx), Row.nil _ _ _, Row.nil _ _ _, fun x hx => (by cases hx)⟩, by simp [RRep.zero], by simp [RRep.zero], fun x hx => (by cases hx), by simp [RRep.zero], by simp [RRep.zero], by simp [RRep.zero], by simp [RRep.zero], by simp [RRep.zero]⟩, rfl, rfl, by simp [RRep.zero, RRep.fp, Value.ownBlock]⟩

/-- the two stores of a pair, apart from each other -/
structure Two (N : Nat) (w : World) (xb yb : Nat) (A : Gst) (B : Rst) (FG FF : List Nat) : Prop where
  x : GSt N w xb A FG
  y : FSt N w yb B FF
  sim : Sim A B
  apart : ∀ k ∈ FG, k ∉ FF

def pairTop (xb yb : Nat) (tx : ByteArray) : Array Value := #[.pointer (some ⟨xb, 0, none⟩), .pointer (some ⟨yb, 0, none⟩), .string tx]

/-- a pair -/
def Duo (N : Nat) (w : World) (pb : Nat) (Fs : List Nat) : Prop :=
  ∃ xb yb tx A B FG FF, w.heap[pb]? = some (.cells (pairTop xb yb tx) 81 (0, 0)) ∧ Two N w xb yb A B FG FF ∧ pb ∉ Fs ∧ Fs = FG ++ FF

/-- what a call leaves of it -/
def DuoAfter (N pb : Nat) (Fs : List Nat) (w w' : World) : Prop := ∃ Fs', Duo N w' pb Fs' ∧ Keeps (· ∈ Fs) w w' ∧ ∀ k ∈ Fs', k ∈ Fs ∨ w.heap.size ≤ k

theorem Two.kept {N : Nat} {w w' : World} {xb yb : Nat} {A : Gst} {B : Rst} {FG FF : List Nat} {S : Nat → Prop} (h : Two N w xb yb A B FG FF) (hk : Keeps S w w') (hS : ∀ k ∈ FG ++ FF, ¬ S k) : Two N w' xb yb A B FG FF :=
  ⟨h.x.kept hk (fun k hk => hS k (by simp [hk])), h.y.kept hk (fun k hk => hS k (by simp [hk])), h.sim, h.apart⟩

theorem Duo.lt {N : Nat} {w : World} {pb : Nat} {Fs : List Nat} (h : Duo N w pb Fs) : ∀ k ∈ pb :: Fs, k < w.heap.size := by
  obtain ⟨xb, yb, tx, A, B, FG, FF, h1, h2, h3, rfl⟩ := h
  intro k hk
  rcases List.mem_cons.1 hk with rfl | hk
  · exact (Array.getElem?_eq_some_iff.1 h1).1
  · rcases List.mem_append.1 hk with hk | hk
    · exact h2.x.lt k hk
    · exact h2.y.lt k hk

theorem Duo.kept {N : Nat} {w w' : World} {pb : Nat} {Fs : List Nat} {S : Nat → Prop} (h : Duo N w pb Fs) (hk : Keeps S w w') (hS : ∀ k ∈ pb :: Fs, ¬ S k) : Duo N w' pb Fs := by
  obtain ⟨xb, yb, tx, A, B, FG, FF, h1, h2, h3, rfl⟩ := h
  exact ⟨xb, yb, tx, A, B, FG, FF, (hk.block _ (Array.getElem?_eq_some_iff.1 h1).1 (hS pb (by simp))).trans h1, h2.kept hk (fun k hk => hS k (List.mem_cons_of_mem _ hk)), h3, rfl⟩

theorem Duo.more {N N' : Nat} {w : World} {pb : Nat} {Fs : List Nat} (h : Duo N w pb Fs) (hN : N ≤ N') : Duo N' w pb Fs := by
  obtain ⟨xb, yb, tx, A, B, FG, FF, h1, h2, h3, rfl⟩ := h
  exact ⟨xb, yb, tx, A, B, FG, FF, h1, ⟨h2.x.more hN, h2.y.more hN, h2.sim, h2.apart⟩, h3, rfl⟩

theorem Duo.same {N N' : Nat} {w w' : World} {pb : Nat} {Fs : List Nat} (h : Duo N w pb Fs) (hN : N ≤ N') (hk : Keeps (fun _ => False) w w') : DuoAfter N' pb Fs w w' :=
  ⟨Fs, (h.kept hk (fun _ _ h => h)).more hN, hk.mono (fun _ _ h => h.elim), fun _ h => .inl h⟩

theorem DuoAfter.then {N pb : Nat} {Fs : List Nat} {w w1 w2 : World} (h : DuoAfter N pb Fs w w1) (hk : Keeps (fun _ => False) w1 w2) : DuoAfter N pb Fs w w2 := by
  obtain ⟨Fs', h1, h2, h3⟩ := h
  exact ⟨Fs', h1.kept hk (fun _ _ h => h), h2.tr hk (fun _ h => h.elim), h3⟩

/-- the program's store has gone on, then the document's -/
theorem Two.next {N M : Nat} {w w1 w2 w3 : World} {pb xb yb : Nat} {tx : ByteArray} {A A' : Gst} {B B' : Rst} {FG FF : List Nat} (hp : w.heap[pb]? = some (.cells (pairTop xb yb tx) 81 (0, 0))) (hn : pb ∉ FG ++ FF)
    (h : Two N w xb yb A B FG FF) (h1 : After M xb A' FG w w1) (k12 : Keeps (fun _ => False) w1 w2) (h3 : FAfter M yb B' FF w2 w3) (hs : Sim A' B') : DuoAfter M pb (FG ++ FF) w w3 := by
  obtain ⟨FG', g1, g2, g3⟩ := h1
  obtain ⟨FF', f1, f2, f3⟩ := h3
  have z1 := g2.size
  have z2 := k12.size
  have z3 := f2.size
  have lg := h.x.lt
  have lf := h.y.lt
  have lp := (Array.getElem?_eq_some_iff.1 hp).1
  have apart1 : ∀ k ∈ FG', k ∉ FF := fun k hk hf => by
    rcases g3 k hk with h1 | h1
    · exact h.apart k h1 hf
    · have := lf k hf; omega
  have lg' := g1.lt
  have g1' : GSt M w3 xb A' FG' := (g1.kept k12 (fun _ _ h => h)).kept f2 (fun k hk hf => apart1 k hk hf)
  have keep : Keeps (· ∈ FG ++ FF) w w3 := ((g2.mono (T := (· ∈ FG ++ FF)) (fun k _ hk => List.mem_append.2 (.inl hk))).tr k12 (fun _ h => h.elim)).tr f2 (fun k hk => List.mem_append.2 (.inr hk))
  refine ⟨FG' ++ FF', ⟨xb, yb, tx, A', B', FG', FF', ?_, ⟨g1', f1, hs, fun k hk hf => ?_⟩, fun hm => ?_, rfl⟩, keep, fun k hk => ?_⟩
  · exact (keep.block pb lp hn).trans hp
  · rcases f3 k hf with h1 | h1
    · exact apart1 k hk h1
    · have := lg' k hk; omega
  · rcases List.mem_append.1 hm with hm | hm
    · rcases g3 pb hm with h1 | h1
      · exact hn (List.mem_append.2 (.inl h1))
      · omega
    · rcases f3 pb hm with h1 | h1
      · exact hn (List.mem_append.2 (.inr h1))
      · omega
  · rcases List.mem_append.1 hk with hk | hk
    · rcases g3 k hk with h1 | h1
      · exact .inl (List.mem_append.2 (.inl h1))
      · exact .inr h1
    · rcases f3 k hk with h1 | h1
      · exact .inl (List.mem_append.2 (.inr h1))
      · exact .inr (by omega)

theorem After.more {N M : Nat} {b : Nat} {A : Gst} {F : List Nat} {w w' : World} (h : After N b A F w w') (hN : N ≤ M) : After M b A F w w' := by
  obtain ⟨F', h1, h2⟩ := h
  exact ⟨F', h1.more hN, h2⟩

theorem FAfter.more {N M : Nat} {b : Nat} {A : Rst} {F : List Nat} {w w' : World} (h : FAfter N b A F w w') (hN : N ≤ M) : FAfter M b A F w w' := by
  obtain ⟨F', h1, h2⟩ := h
  exact ⟨F', h1.more hN, h2⟩

/-- One call of each, one behind the other, with what they answer; afterwards they are a pair again. -/
def Duet (N pb : Nat) (Fs : List Nat) (w : World) (fx : Nat) (ax : Array Value) (ex : Value) (fy : Nat) (ay : Array Value) (ey : Value) : Prop :=
  Calls Tryz.prog fx ax w fun e w1 => e = .returned ex ∧ Keeps (· ∈ Fs) w w1 ∧ ∀ w2, Keeps (fun _ => False) w1 w2 → Calls Tryz.prog fy ay w2 fun e w3 => e = .returned ey ∧ Keeps (· ∈ Fs) w w3 ∧ DuoAfter N pb Fs w w3

theorem Duet.mk {N M pb : Nat} {w : World} {xb yb : Nat} {tx : ByteArray} {A A' : Gst} {B B' : Rst} {FG FF : List Nat} {fx fy : Nat} {ax ay : Array Value} {ex ey : Value}
    (hp : w.heap[pb]? = some (.cells (pairTop xb yb tx) 81 (0, 0))) (hn : pb ∉ FG ++ FF) (h : Two N w xb yb A B FG FF) (hs : Sim A' B')
    (hx : Calls Tryz.prog fx ax w fun e w' => e = .returned ex ∧ After M xb A' FG w w') (hy : ∀ W, FSt N W yb B FF → Calls Tryz.prog fy ay W fun e w' => e = .returned ey ∧ FAfter M yb B' FF W w') :
    Duet M pb (FG ++ FF) w fx ax ex fy ay ey := by
  refine hx.mono ?_
  rintro e w1 ⟨rfl, h1⟩
  obtain ⟨FG', g1, g2, g3⟩ := id h1
  refine ⟨rfl, g2.mono (fun k _ hk => List.mem_append.2 (.inl hk)), fun w2 k12 => ?_⟩
  have hf : FSt N w2 yb B FF := (h.y.kept g2 (fun k hk hg => h.apart k hg hk)).kept k12 (fun _ _ h => h)
  refine (hy w2 hf).mono ?_
  rintro e w3 ⟨rfl, h3⟩
  have hd := Two.next hp hn h h1 k12 h3 hs
  obtain ⟨Fs', d1, d2, d3⟩ := id hd
  exact ⟨rfl, d2, hd⟩

section

variable {N pb : Nat} {w : World} {xb yb : Nat} {tx : ByteArray} {A : Gst} {B : Rst} {FG FF : List Nat}

theorem duet_begin (hp : w.heap[pb]? = some (.cells (pairTop xb yb tx) 81 (0, 0))) (hn : pb ∉ FG ++ FF) (h : Two N w xb yb A B FG FF) (hN : N ≤ 10000000000) :
    Duet (N + 1000) pb (FG ++ FF) w 40 #[.pointer (some ⟨xb, 0, none⟩)] (.tuple #[.int .i64 A.beginR.1, .int .i64 A.beginR.2]) 76 #[.pointer (some ⟨yb, 0, none⟩)] (.tuple #[.int .i64 A.beginR.1, .int .i64 A.beginR.2]) := by
  refine Duet.mk hp hn h h.sim.beginS ((begin_g h.x (by omega)).mono fun e w' hh => ⟨hh.1, hh.2.more (by omega)⟩) (fun W hW => ?_)
  rw [h.sim.beginR]
  exact (begin_f hW hN).mono fun e w' hh => ⟨hh.1, hh.2.more (by omega)⟩

theorem duet_get (hp : w.heap[pb]? = some (.cells (pairTop xb yb tx) 81 (0, 0))) (hn : pb ∉ FG ++ FF) (h : Two N w xb yb A B FG FF) (hN : N ≤ 10000000000) (n : Int) (key : ByteArray) (hk : key.size ≤ maxLen) :
    Duet (N + 1000) pb (FG ++ FF) w 43 #[.pointer (some ⟨xb, 0, none⟩), .int .i64 n, .string key] (.tuple #[.string (A.getR n key).1, .int .i64 (A.getR n key).2]) 126 #[.pointer (some ⟨yb, 0, none⟩), .int .i64 n, .string key] (.tuple #[.string (A.getR n key).1, .int .i64 (A.getR n key).2]) := by
  refine Duet.mk hp hn h h.sim ((get_g n key h.x hk).mono fun e w' hh => ⟨hh.1, hh.2.more (by omega)⟩) (fun W hW => ?_)
  rw [h.sim.getR n key]
  exact (get_f n key hW hN hk).mono fun e w' hh => ⟨hh.1, hh.2.more (by omega)⟩

theorem duet_put (hp : w.heap[pb]? = some (.cells (pairTop xb yb tx) 81 (0, 0))) (hn : pb ∉ FG ++ FF) (h : Two N w xb yb A B FG FF) (hN : N ≤ 10000000000) (n : Int) (key val : ByteArray) (hk : key.size ≤ maxLen) (hv : val.size ≤ maxLen) :
    Duet (N + 1000) pb (FG ++ FF) w 41 #[.pointer (some ⟨xb, 0, none⟩), .int .i64 n, .string key, .string val] (.int .i64 (A.writeR n key val)) 127 #[.pointer (some ⟨yb, 0, none⟩), .int .i64 n, .agg #[.string key, .string val, .bool false]] (.int .i64 (A.writeR n key val)) := by
  refine Duet.mk hp hn h (h.sim.writeS n key val false) ((put_g n key val h.x hk hv).mono fun e w' hh => ⟨hh.1, hh.2.more (by omega)⟩) (fun W hW => ?_)
  rw [h.sim.writeR n key val false]
  exact (write_f n ⟨key, val, false⟩ hW hN hk hv).mono fun e w' hh => ⟨hh.1, hh.2.more (by omega)⟩

theorem duet_delete (hp : w.heap[pb]? = some (.cells (pairTop xb yb tx) 81 (0, 0))) (hn : pb ∉ FG ++ FF) (h : Two N w xb yb A B FG FF) (hN : N ≤ 10000000000) (n : Int) (key : ByteArray) (hk : key.size ≤ maxLen) :
    Duet (N + 1000) pb (FG ++ FF) w 45 #[.pointer (some ⟨xb, 0, none⟩), .int .i64 n, .string key] (.int .i64 (A.writeR n key ByteArray.empty)) 127 #[.pointer (some ⟨yb, 0, none⟩), .int .i64 n, .agg #[.string key, .string ByteArray.empty, .bool true]] (.int .i64 (A.writeR n key ByteArray.empty)) := by
  refine Duet.mk hp hn h (h.sim.writeS n key ByteArray.empty true) ((delete_g n key h.x hk).mono fun e w' hh => ⟨hh.1, hh.2.more (by omega)⟩) (fun W hW => ?_)
  rw [h.sim.writeR n key ByteArray.empty true]
  exact (write_f n ⟨key, ByteArray.empty, true⟩ hW hN hk (by simp [maxLen])).mono fun e w' hh => ⟨hh.1, hh.2.more (by omega)⟩

theorem duet_commit (hp : w.heap[pb]? = some (.cells (pairTop xb yb tx) 81 (0, 0))) (hn : pb ∉ FG ++ FF) (h : Two N w xb yb A B FG FF) (hN : N ≤ 10000000000) (n : Int) :
    Duet (N + 1000) pb (FG ++ FF) w 42 #[.pointer (some ⟨xb, 0, none⟩), .int .i64 n] (.tuple #[.int .i64 (A.commitR n).1, .int .i64 (A.commitR n).2]) 128 #[.pointer (some ⟨yb, 0, none⟩), .int .i64 n] (.tuple #[.int .i64 (A.commitR n).1, .int .i64 (A.commitR n).2]) := by
  refine Duet.mk hp hn h (h.sim.commitS n) ((commit_g n h.x (by omega)).mono fun e w' hh => ⟨hh.1, hh.2.more (by omega)⟩) (fun W hW => ?_)
  rw [h.sim.commitR n]
  exact (commit_f n hW hN).mono fun e w' hh => ⟨hh.1, hh.2.more (by omega)⟩

theorem duet_abort (hp : w.heap[pb]? = some (.cells (pairTop xb yb tx) 81 (0, 0))) (hn : pb ∉ FG ++ FF) (h : Two N w xb yb A B FG FF) (hN : N ≤ 10000000000) (n : Int) :
    Duet (N + 1000) pb (FG ++ FF) w 56 #[.pointer (some ⟨xb, 0, none⟩), .int .i64 n] (.int .i64 (A.abortR n)) 129 #[.pointer (some ⟨yb, 0, none⟩), .int .i64 n] (.int .i64 (A.abortR n)) := by
  refine Duet.mk hp hn h (h.sim.abortS n) ((abort_g n h.x).mono fun e w' hh => ⟨hh.1, hh.2.more (by omega)⟩) (fun W hW => ?_)
  rw [h.sim.abortR n]
  exact (abort_f n hW hN).mono fun e w' hh => ⟨hh.1, hh.2.more (by omega)⟩

theorem duet_pin (hp : w.heap[pb]? = some (.cells (pairTop xb yb tx) 81 (0, 0))) (hn : pb ∉ FG ++ FF) (h : Two N w xb yb A B FG FF) (hN : N ≤ 10000000000) (n : Int) :
    Duet (N + 1000) pb (FG ++ FF) w 18 #[.pointer (some ⟨xb, 0, none⟩), .int .i64 n] (.int .i64 (A.pinR n)) 130 #[.pointer (some ⟨yb, 0, none⟩), .int .i64 n] (.int .i64 (A.pinR n)) := by
  refine Duet.mk hp hn h (h.sim.pinS n) ((pin_g n h.x (by omega)).mono fun e w' hh => ⟨hh.1, hh.2.more (by omega)⟩) (fun W hW => ?_)
  rw [h.sim.pinR n]
  exact (pin_f n hW hN).mono fun e w' hh => ⟨hh.1, hh.2.more (by omega)⟩

theorem duet_unpin (hp : w.heap[pb]? = some (.cells (pairTop xb yb tx) 81 (0, 0))) (hn : pb ∉ FG ++ FF) (h : Two N w xb yb A B FG FF) (hN : N ≤ 10000000000) (n : Int) :
    Duet (N + 1000) pb (FG ++ FF) w 26 #[.pointer (some ⟨xb, 0, none⟩), .int .i64 n] (.int .i64 (A.unpinR n)) 131 #[.pointer (some ⟨yb, 0, none⟩), .int .i64 n] (.int .i64 (A.unpinR n)) := by
  refine Duet.mk hp hn h (h.sim.unpinS n) ((unpin_g n h.x (by omega)).mono fun e w' hh => ⟨hh.1, hh.2.more (by omega)⟩) (fun W hW => ?_)
  rw [h.sim.unpinR n]
  exact (unpin_f n hW hN).mono fun e w' hh => ⟨hh.1, hh.2.more (by omega)⟩

theorem duet_sweep (hp : w.heap[pb]? = some (.cells (pairTop xb yb tx) 81 (0, 0))) (hn : pb ∉ FG ++ FF) (h : Two N w xb yb A B FG FF) (hN : N ≤ 10000000000) :
    Duet (N + 1000) pb (FG ++ FF) w 25 #[.pointer (some ⟨xb, 0, none⟩)] (.int .i64 A.sweepR) 132 #[.pointer (some ⟨yb, 0, none⟩)] (.int .i64 A.sweepR) := by
  refine Duet.mk hp hn h h.sim.sweepS ((sweep_g h.x (by omega)).mono fun e w' hh => ⟨hh.1, hh.2.more (by omega)⟩) (fun W hW => ?_)
  rw [h.sim.sweepR]
  exact (sweep_f hW hN).mono fun e w' hh => ⟨hh.1, hh.2.more (by omega)⟩

def lookVal (A : Gst) : Value := .agg #[.int .i64 A.now, .int .i64 A.floor, .int .i64 A.works.length, .int .i64 A.pinSum, .int .i64 A.total, .int .i64 A.copyings.length]

theorem duet_look (hp : w.heap[pb]? = some (.cells (pairTop xb yb tx) 81 (0, 0))) (hn : pb ∉ FG ++ FF) (h : Two N w xb yb A B FG FF) (hN : N ≤ 10000000000) :
    Duet (N + 1000) pb (FG ++ FF) w 17 #[.pointer (some ⟨xb, 0, none⟩)] (lookVal A) 31 #[.pointer (some ⟨yb, 0, none⟩)] (lookVal A) := by
  refine Duet.mk hp hn h h.sim ((look_g h.x (by omega)).mono fun e w' hh => ⟨hh.1, FG, hh.2.1.more (by omega), hh.2.2.mono (fun _ _ h => h.elim), fun _ h => .inl h⟩) (fun W hW => ?_)
  unfold lookVal
  rw [h.sim.now, h.sim.floor, h.sim.openN, h.sim.pinSum, h.sim.total, h.sim.copN]
  exact (look_f hW hN).mono fun e w' hh => ⟨hh.1, hh.2.more (by omega)⟩

end

end Go.Proofs.YtfcocbcihhdbkaaGreatDoor

/- Scan of both stores. -/

namespace Go.Proofs.YtfcocbcihhdbkaaGreatDoor

open Go.RowKit Go.Shelf

theorem takeM_length {α : Type} (most : Int) (l : List α) : (takeM most l).length ≤ l.length := by
  unfold takeM
  split
  · exact Nat.le_refl _
  · rw [List.length_take]; omega

theorem scan_len {N : Nat} {w : World} {b : Nat} {B : Rst} {F : List Nat} (h : FSt N w b B F) (n : Int) (from_ : ByteArray) (most : Int) : (B.scanR n from_ most).1.length ≤ N + 30 := by
  obtain ⟨R, hi, rfl, rfl, rfl⟩ := h
  unfold Rst.scanR
  split
  · rename_i hs
    split
    · refine Nat.le_trans (takeM_length _ _) ?_
      unfold pairsOf
      rw [List.length_map]
      refine Nat.le_trans (List.length_filter_le _ _) ?_
      unfold Rst.seen
      refine Nat.le_trans (seesL_length _ _ _) ?_
      have h1 : R.rst.all.length ≤ N := hi.allN
      have h2 : (R.rst.work ((R.rst.find n).getD 0)).2.2.length ≤ 30 := by
        unfold Rst.work
        cases hx : R.rst.works[(R.rst.find n).getD 0]? with
        | none => simp
        | some x =>
          have hm : x ∈ R.rst.works := List.mem_of_getElem? hx
          obtain ⟨y, hy, rfl⟩ := List.mem_map.1 hm
          exact hi.writes y hy
      omega
    · simp
  · simp

/-- Scan of each, one behind the other -/
def DuetScan (w : World) (ax ay : Array Value) (ps : List (ByteArray × ByteArray)) (c : Int) : Prop :=
  Calls Tryz.prog 55 ax w fun e w1 => ∃ v, e = .returned (.tuple #[v, .int .i64 c]) ∧ Row w1 90 2 v ps.length (ps.flatMap pairCells) ∧ (∀ g, v.ownBlock = some g → w.heap.size ≤ g) ∧ Keeps (fun _ => False) w w1 ∧
    ∀ w2, Keeps (fun _ => False) w1 w2 → Calls Tryz.prog 140 ay w2 fun e w3 => ∃ u, e = .returned (.tuple #[u, .int .i64 c]) ∧ Row w3 90 2 u ps.length (ps.flatMap pairCells) ∧ Keeps (fun _ => False) w2 w3

theorem duet_scan {N : Nat} {w : World} {xb yb : Nat} {A : Gst} {B : Rst} {FG FF : List Nat} (h : Two N w xb yb A B FG FF) (hN : N ≤ 10000000000) (n : Int) (from_ : ByteArray) (most : Int) (hs : from_.size ≤ maxLen) (hm : -9223372036854775808 ≤ most ∧ most ≤ 9223372036854775807) :
    DuetScan w #[.pointer (some ⟨xb, 0, none⟩), .int .i64 n, .string from_, .int .i64 most] #[.pointer (some ⟨yb, 0, none⟩), .int .i64 n, .string from_, .int .i64 most] (A.scanR n from_ most).1 (A.scanR n from_ most).2 ∧ (A.scanR n from_ most).1.length ≤ N + 30 := by
  refine ⟨?_, by rw [h.sim.scanR]; exact scan_len h.y n from_ most⟩
  refine (scan_g n from_ most h.x (by omega) hm.1 hm.2).mono ?_
  rintro e w1 ⟨v, rfl, hr, ho, -, hk⟩
  refine ⟨v, rfl, hr, ho, hk, fun w2 k12 => ?_⟩
  have hf : FSt N w2 yb B FF := (h.y.kept hk (fun _ _ h => h)).kept k12 (fun _ _ h => h)
  refine (scan_f n from_ most hf hN hs hm.1 hm.2).mono ?_
  rintro e w3 ⟨u, rfl, hM, -⟩
  rw [h.sim.scanR]
  exact ⟨u, rfl, hM.row, hM.keep⟩

end Go.Proofs.YtfcocbcihhdbkaaGreatDoor
