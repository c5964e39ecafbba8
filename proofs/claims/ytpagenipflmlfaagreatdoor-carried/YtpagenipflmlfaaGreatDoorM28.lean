import Derived.Test.YtpagenipflmlfaaGreatDoorM27

/- follow: what a stream tells becomes the state at which it ends. -/

namespace Go.Proofs.YtpagenipflmlfaaGreatDoor

open Go.RowKit Go.Shelf

/-- the version that a stream gives to a key -/
def verR (l : List RecB) (to : Int) (k : ByteArray) : Ver := ((l.find? (fun r => decide (r.key = k))).map (fun r => (⟨to, r.value, r.gone⟩ : Ver))).getD Ver.zero

theorem verR_at {l : List RecB} {to : Int} (hr : Rises (l.map RecB.key)) {j : Nat} (hj : j < l.length) : verR l to l[j].key = ⟨to, l[j].value, l[j].gone⟩ := by
  unfold verR
  have hf : l.find? (fun r => decide (r.key = l[j].key)) = some l[j] := by
    rw [List.find?_eq_some_iff_getElem]
    refine ⟨by simp, j, hj, rfl, fun i hi => ?_⟩
    simp only [Bool.not_eq_true', decide_eq_false_iff_not]
    intro e
    have := List.pairwise_iff_getElem.1 hr i j (by simp; omega) (by simp; omega) hi
    rw [List.getElem_map, List.getElem_map, e, ltK_irrefl] at this
    cases this
  rw [hf]
  rfl

/-- How it stands when j records have been added. -/
structure FolAt (w : World) (R : Rep) (cb : Nat) (C0 : List Nat) (ks : List ByteArray) (ver : ByteArray → Ver) (j : Nat) (wr : World) (Rj : Rep) (fs : List Value) (C : List Nat) : Prop where
  store : StoreAt wr Rj
  grew : Grew R (ks.take j) ver Rj
  chg : Chg wr cb fs C
  len : fs.length = j
  keeps : Keeps (fun k => k ∈ R.fp ∨ k ∈ C0) w wr
  fpC : ∀ k ∈ C, k ∉ Rj.fp
  fpE : ∀ k ∈ Rj.fp, k ∈ R.fp ∨ w.heap.size ≤ k
  cE : ∀ k ∈ C, k ∈ C0 ∨ w.heap.size ≤ k
  klen : Rj.keys.length ≤ R.keys.length + j

theorem FolAt.kept {w wr wr' : World} {R Rj : Rep} {cb : Nat} {fs : List Value} {C0 C : List Nat} {ks : List ByteArray} {ver : ByteArray → Ver} {j : Nat} (h : FolAt w R cb C0 ks ver j wr Rj fs C) (hk : Keeps (fun _ => False) wr wr') : FolAt w R cb C0 ks ver j wr' Rj fs C :=
  ⟨h.store.kept hk (fun _ _ h => h), h.grew, h.chg.kept hk (fun _ _ h => h), h.len, h.keeps.tr hk (fun _ h => h.elim), h.fpC, h.fpE, h.cE, h.klen⟩

theorem FolAt.next {w wr wc : World} {R Rj : Rep} {cb : Nat} {fs : List Value} {C0 C : List Nat} {ks : List ByteArray} {ver : ByteArray → Ver} {j : Nat} (h : FolAt w R cb C0 ks ver j wr Rj fs C) (hj : j < ks.length) (hnew : memB (ks.take j) ks[j] = false)
    (hadd : SAddPost Rj ks[j] (ver ks[j]) cb fs C wr wc) : ∃ R' fs' C', FolAt w R cb C0 ks ver (j + 1) wc R' fs' C' := by
  obtain ⟨wa, wb, C', ha, -, -, -, ⟨kv', b, sl', hS, hkp, c1, c2, c3⟩, hkc, hcc, hC'⟩ := hadd
  have hwz : w.heap.size ≤ wr.heap.size := h.keeps.size
  have hza := ha.size
  have hsz := hkp.size
  have hCl := h.chg.lt
  have hfpl := fp_lt h.store
  have hfp' := addFp (R := Rj) (key := ks[j]) (keys' := (if memB Rj.keys ks[j] then Rj.keys else insAt Rj.keys (below Rj.keys ks[j]) ks[j])) (vs' := versOf Rj.hist ks[j] ++ [ver ks[j]]) c1 c2 c3
  have hkl : (if memB Rj.keys ks[j] then Rj.keys else insAt Rj.keys (below Rj.keys ks[j]) ks[j]).length ≤ R.keys.length + (j + 1) := by
    have := h.klen
    split
    · omega
    · rw [insAt_length _ _ _ (below_le _ _)]
      omega
  have hgr := h.grew.snoc h.store hnew kv' sl' b
  generalize hR' : ({ Rj with kv := kv', keys := (if memB Rj.keys ks[j] then Rj.keys else insAt Rj.keys (below Rj.keys ks[j]) ks[j]), vm := some b, hist := put Rj.hist ks[j] ⟨sl', versOf Rj.hist ks[j] ++ [ver ks[j]]⟩ } : Rep) = R' at hS hfp' hgr
  have hCfp : ∀ k ∈ C, k ∉ R'.fp := fun k hk hf => by
    rcases hfp' k hf with h1 | h1
    · exact h.fpC k hk h1
    · have := hCl k hk; omega
  have htake : ks.take (j + 1) = ks.take j ++ [ks[j]] := List.take_succ_eq_append_getElem hj
  refine ⟨R', _, C', hS.kept hkc (fun k hk hc => hCfp k hc hk), by rw [htake]; exact hgr, hcc, by simp [h.len], ?_, ?_, ?_, ?_, by rw [← hR']; exact hkl⟩
  · refine ((h.keeps.tr ha (fun _ h => h.elim)).trans hkp (fun k hk hf => ?_)).trans hkc (fun k hk hf => ?_)
    · rcases h.fpE k hf with h1 | h1
      · exact .inl h1
      · omega
    · rcases h.cE k hf with h1 | h1
      · exact .inr h1
      · omega
  · intro k hk hf
    rcases hC' k hk with h1 | h1
    · exact hCfp k h1 hf
    · have := fp_lt hS k hf; omega
  · intro k hk
    rcases hfp' k hk with h1 | h1
    · exact h.fpE k h1
    · right; omega
  · intro k hk
    rcases hC' k hk with h1 | h1
    · exact h.cE k h1
    · right; omega

/-- what follow leaves -/
def FolPost (R : Rep) (C0 : List Nat) (l : List RecB) (to : Int) (w w' : World) : Prop :=
  ∃ Rn, StoreAt w' { Rn with now := to } ∧ Grew R (l.map RecB.key) (verR l to) Rn ∧ Keeps (fun k => k ∈ R.fp ∨ k ∈ C0) w w' ∧ (∀ k ∈ Rn.fp, k ∈ R.fp ∨ w.heap.size ≤ k) ∧ Rn.keys.length ≤ R.keys.length + l.length

theorem follow_end {w w1 wr wc : World} {R Rj : Rep} {cb : Nat} {fs : List Value} {C0 C : List Nat} {l : List RecB} {to : Int} (h : FolAt w1 R cb C0 (l.map RecB.key) (verR l to) l.length wr Rj fs C) (hk : Keeps (fun _ => False) w w1) (hkc : Keeps (fun k => k ∈ C ∨ k = R.sb) wr wc) (hhp : wc.heap[R.sb]? = (wr.setCell ⟨R.sb, 0, none⟩ (.int .i64 to)).heap[R.sb]?) : FolPost R C0 l to w wc := by
  obtain ⟨hsb, hwks, hnw⟩ := h.grew.sb
  have hnd := h.store.nodup
  have htop : wc.heap[Rj.sb]? = some (.cells (topCells { Rj with now := to }) 65 (0, 0)) := by
    have := h.store.set (R' := { Rj with now := to }) rfl (i := 0) (v := .int .i64 to) rfl
    rw [hsb] at this ⊢
    rw [hhp]
    exact this
  have hst : StoreAt wc { Rj with now := to } := h.store.nums hkc (fun k hk hb => by
    rcases hb with hb | rfl
    · exact h.fpC k hb (by simp only [Rep.fp, List.mem_cons]; exact .inr hk)
    · rw [← hsb] at hk
      exact (List.nodup_cons.1 hnd).1 hk) to Rj.floor Rj.begun htop
  have hg := h.grew
  rw [show (l.map RecB.key).take l.length = l.map RecB.key by rw [← List.length_map (f := RecB.key), List.take_length]] at hg
  refine ⟨Rj, hst, hg, ?_, fun k hk' => (h.fpE k hk').imp id (fun h => Nat.le_trans hk.size h), by have := h.klen; exact this⟩
  refine ((hk.mono (fun _ _ h => h.elim)).tr h.keeps (fun _ h => h)).trans hkc (fun i hi hb => ?_)
  rcases hb with hb | rfl
  · rcases h.cE i hb with h1 | h1
    · exact .inr h1
    · have := hk.size; omega
  · exact .inl (by simp [Rep.fp])

set_option maxRecDepth 100000 in
set_option maxHeartbeats 2000000 in
theorem follow_any (R : Rep) (cb : Nat) (C0 : List Nat) (full : Bool) (from_ : Int) (to : Nat) (oa : Option Addr) (cap : Nat) (l : List RecB) (w : World) (h : StoreAt w R) (g : Good R) (t : Tied R) (hc : Chg w cb [] C0) (hC : ∀ k ∈ C0, k ∉ R.fp) (hkl : R.keys.length < 900000000000) (hl : l.length ≤ 1000) (hr : RecIn w oa l) (hro : ∀ a, oa = some a → a.block ∉ R.fp ∧ a.block ∉ C0) (hrs : Rises (l.map RecB.key)) :
    Calls Tryz.prog 36 #[.pointer (some ⟨R.sb, 0, none⟩), .pointer (some ⟨cb, 0, none⟩), .agg #[.bool full, .int .i64 from_, .int .i64 (to : Nat), .slice oa l.length cap]] w fun e w' => e = .returned (.tuple #[]) ∧ FolPost R C0 l (to : Nat) w w' := by
  have hlt := h.lt
  have hcbl := hc.lt
  have hfl := fp_lt h
  obtain ⟨w1, hw1⟩ : ∃ w1, w1 = w.alloc (.cells #[.bool full, .int .i64 from_, .int .i64 (to : Nat), .slice oa l.length cap] 84) := ⟨_, rfl⟩
  have k1 : Keeps (fun _ => False) w w1 := by rw [hw1]; exact Keeps.alloc _ _ _
  have HX1 : Hid (w1.heap[w.heap.size]? = some (.cells #[.bool full, .int .i64 from_, .int .i64 (to : Nat), .slice oa l.length cap] 84 (0, 0))) := by show _ = _; rw [hw1]; exact heap_new w _
  have HB0 : Hid (FolAt w1 R cb C0 (l.map RecB.key) (verR l (to : Nat)) 0 w1 R [] C0) := ⟨h.kept k1 (fun _ _ h => h), by simpa using Grew.refl t _, hc.kept k1 (fun _ _ h => h), rfl, Keeps.refl _ _, hC, fun k hk => .inl hk, fun k hk => .inl hk, Nat.le_refl _⟩
  have HNX : Hid (w.heap.size ∉ R.fp ∧ w.heap.size ∉ C0) := ⟨fun hf => by have := hfl _ hf; omega, fun hf => by have := hcbl _ hf; omega⟩
  have HR := hid (hr.kept k1)
  have HRO := hid hro
  have HRS := hid hrs
  have HG := hid g
  have HT := hid t
  have HKL := hid hkl
  have HK1 := hid k1
  have HW1 := hid hw1
  have HL := hid hl
  have hlI : (l.length : Int) ≤ 1000 := by omega
  have x2 := cell_of_heap HX1.out 2
  have x3 := cell_of_heap HX1.out 3
  simp at x2 x3
  clear h g t hc hC hkl hl hr hro hrs k1 hw1 hcbl hfl
  go_enter Tryz.func36, Tryz.ntmps36
  go_wp2_with fail
  rw [← HW1.out]
  go_loopw [11] (fun i wr => ∃ (j : Nat) (Rj : Rep) (fs : List Value) (C : List Nat), j ≤ l.length ∧ i = .int .i64 (j : Nat) ∧ FolAt w1 R cb C0 (l.map RecB.key) (verR l (to : Nat)) j wr Rj fs C) (fun i _ => l.length - (intOf i).toNat)
  case atStart => exact ⟨0, R, [], C0, Nat.zero_le _, rfl, HB0.out⟩
  case round =>
    obtain ⟨j, Rj, fs, C, hj, rfl, hB⟩ := hrel
    have HB := hid hB
    have hbx := (hB.keeps.block w.heap.size (Array.getElem?_eq_some_iff.1 HX1.out).1 (fun h => h.elim HNX.out.1 HNX.out.2)).trans HX1.out
    have y2 := cell_of_heap hbx 2
    simp at y2
    have hbl := (Array.getElem?_eq_some_iff.1 hbx).1
    obtain ⟨hsb, -, -⟩ := hB.grew.sb
    have HSB := hid hsb
    clear hB hbx x2 x3 hsb
    by_cases hjn : j < l.length
    · have hjI : (j : Int) < l.length := by omega
      obtain ⟨g, off, hoa, r0, r1, r2⟩ := HR.out j hjn
      obtain ⟨n1, n2⟩ := HRO.out _ hoa
      have ng : ¬ (g ∈ R.fp ∨ g ∈ C0) := fun h => h.elim n1 n2
      have s0 := HB.out.keeps.cell r0 ng
      have s1 := HB.out.keeps.cell r1 ng
      have s2 := HB.out.keeps.cell r2 ng
      have hks : j < (l.map RecB.key).length := by simpa using hjn
      have hke : (l.map RecB.key)[j] = l[j].key := List.getElem_map ..
      have hnin : memB ((l.map RecB.key).take j) (l.map RecB.key)[j] = false := take_fresh HRS.out hks rfl
      have hver := verR_at (to := (to : Nat)) HRS.out hjn
      have HADD : Hid (∀ W, Keeps (fun _ => False) wr W → Calls Tryz.prog 74 #[.pointer (some ⟨R.sb, 0, none⟩), .pointer (some ⟨cb, 0, none⟩), .string l[j].key, .agg #[.int .i64 (to : Nat), .string l[j].value, .bool l[j].gone]] W fun e w' => e = .returned (.tuple #[]) ∧ SAddPost Rj l[j].key ⟨(to : Nat), l[j].value, l[j].gone⟩ cb fs C W w') := fun W hk => by
        have hvv : versOf Rj.hist l[j].key = versOf R.hist l[j].key := by rw [HB.out.grew.vers, ← hke, hnin]; rfl
        have := sadd_any Rj l[j].key (to : Nat) l[j].value l[j].gone cb fs C W (HB.out.store.kept hk (fun _ _ h => h)) HB.out.grew.tied (by have := HB.out.klen; have := HKL.out; have := HL.out; omega) (by rw [hvv]; exact vers_small HG.out _) (HB.out.chg.kept hk (fun _ _ h => h)) HB.out.fpC (by have := HB.out.len; have := HL.out; omega)
        rw [HSB.out] at this
        exact this
      have HNX2 : Hid (∀ wc W, Keeps (fun _ => False) wr W → SAddPost Rj l[j].key ⟨(to : Nat), l[j].value, l[j].gone⟩ cb fs C W wc → ∃ R' fs' C', FolAt w1 R cb C0 (l.map RecB.key) (verR l (to : Nat)) (j + 1) wc R' fs' C') := fun wc W hk hs => (HB.out.kept hk).next hks hnin (by rw [hke, hver]; exact hs)
      subst hoa
      have HJN := hid hjn
      clear hks hke hnin hver r0 r1 r2 n1 n2 ng hj
      generalize l[j].key = rk at *
      generalize l[j].value = rv at *
      generalize l[j].gone = rg at *
      clear hjn
      go_wp2_with fail
      refine (HADD.out _ ((Keeps.refl (fun _ => False) wr).al _)).mono ?_
      rintro e wc ⟨rfl, hs⟩
      have hnx := HNX2.out _ _ ((Keeps.refl (fun _ => False) wr).al _) hs
      clear hs
      go_wp2
      obtain ⟨R', fs', C', hN⟩ := hnx
      have := HJN.out
      refine ⟨⟨j + 1, R', fs', C', by omega, by simp, hN⟩, ?_⟩
      simp only [intOf]
      omega
    · obtain rfl : j = l.length := by omega
      have hsC : R.sb ∉ C := fun hf => HB.out.fpC _ hf (by rw [← HSB.out]; simp [Rep.fp])
      have hnw := HB.out.grew.sb.2.2
      have hc0 : wr.cell? ⟨R.sb, 0, none⟩ = some (.int .i64 R.now) := by
        have := HB.out.store.cell 0
        rw [HSB.out] at this
        rw [this]
        simp [topCells, hnw]
      have hf0 : wr.frozen? ⟨R.sb, 0, none⟩ = false := by rw [← HSB.out]; exact HB.out.store.frozen 0
      have HAS := hid (assign_int cb fs C R.sb 0 R.now (to : Nat) wr.drew (HB.out.chg.kept (Keeps.drew (fun _ => False) _) (fun _ _ h => h)) ((Keeps.drew (fun _ => False) wr).cell hc0 (fun h => h)) hf0 hsC (by rw [HB.out.len]; have := HL.out; omega))
      clear hsC hc0 hf0 hnw
      go_wp2_with fail
      go_region_with (go_at_call 43; refine (HAS.out).mono ?_; rintro e wc ⟨rfl, fs', C', hfl, hcc, hkc, hC', hhp⟩)
      go_end0
      exact ⟨rfl, follow_end HB.out HK1.out (((Keeps.drew (fun _ => False) wr).mono (fun _ _ h => h.elim)).tr hkc (fun _ h => h)) hhp⟩

end Go.Proofs.YtpagenipflmlfaaGreatDoor

/- A store that is as it should be, by what can be asked of it; a work with one step. -/

namespace Go.Proofs.YtpagenipflmlfaaGreatDoor

open Go.RowKit Go.Shelf

/-- what holds of a store, whatever it holds -/
structure Gok (A : Gst) : Prop where
  now : 0 ≤ A.now ∧ A.now ≤ 1000000000
  begun : 0 ≤ A.begun
  fresh : look A.works (A.begun + 1) = none
  rises : Rises A.keys
  keys : ∀ k, k ∈ A.keys ↔ A.vers k ≠ []
  rising : ∀ k, Rising (A.vers k)
  states : ∀ k, ∀ v ∈ A.vers k, 0 ≤ v.state ∧ v.state ≤ A.now
  vals : ∀ k, ∀ v ∈ A.vers k, valB v.value = true
  keyB : ∀ k ∈ A.keys, keyB k = true
  started : 0 ≤ A.started
  freshC : look A.copyings (A.started + 1) = none
  floor : 0 ≤ A.floor

theorem GSt.ok {N : Nat} {w : World} {b : Nat} {A : Gst} {F : List Nat} (h : GSt N w b A F) : Gok A := by
  obtain ⟨R, hi, rfl, rfl, rfl⟩ := h
  have hb := fun k => base_vers hi.good k
  refine ⟨hi.good.now, hi.good.begun.1, ?_, hi.tied.rises, fun k => ⟨fun hk => vers_ne hi.tied hk, fun hk => keys_of_vers hi.tied hk⟩, fun k => (hb k).1, fun k v hv => ((hb k).2.1 v hv).1, fun k v hv => ((hb k).2.1 v hv).2, fun k hk => (hb k).2.2 (vers_ne hi.tied hk), hi.startN.1, ?_, hi.floor⟩
  · rw [gst_look]
    have e : R.gst.begun = R.begun := rfl
    have hn : look R.works (R.begun + 1) = none := look_none.2 (fun p hp e => by have := hi.good.numbers p hp; omega)
    rw [e, hn]
    rfl
  · exact look_none.2 (fun p hp e => by have := (hi.cops p hp).2.1; have e' : p.1 = R.started + 1 := e; omega)

theorem Gok.last {A : Gst} (h : Gok A) (k : ByteArray) : lastOf (A.vers k) ≤ A.now := last_le h.now.1 (h.states k)

/-- the next state, by one key -/
def Gst.wrote1 (A : Gst) (key val : ByteArray) (gone : Bool) : Gst :=
  { A with now := A.now + 1, begun := A.begun + 1, keys := insK A.keys key, vers := fun k => if k = key then A.vers k ++ [⟨A.now + 1, val, gone⟩] else A.vers k }

theorem Gok.begin_ {A : Gst} (hw : A.works.length < 8) : A.beginR = (A.begun + 1, 0) ∧ A.beginS = A.opened := by
  unfold Gst.beginR Gst.beginS
  rw [if_pos hw, if_pos hw]
  exact ⟨rfl, rfl⟩

/-- behind its step -/
def Gst.step1 (A : Gst) (key val : ByteArray) (gone : Bool) : Gst := { A.opened with works := A.works ++ [(A.begun + 1, (A.now, [(key, ⟨0, val, gone⟩)]))] }

theorem Gok.write_ {A : Gst} (h : Gok A) {key val : ByteArray} (gone : Bool) (hk : Go.Proofs.YtpagenipflmlfaaGreatDoor.keyB key = true) (hv : valB val = true) : A.opened.writeR (A.begun + 1) key val = 0 ∧ A.opened.writeS (A.begun + 1) key val gone = A.step1 key val gone := by
  have hl : look A.opened.works (A.begun + 1) = some (A.now, []) := look_snoc (A.now, []) h.fresh
  have e1 : A.opened.writeR (A.begun + 1) key val = 0 := by
    unfold Gst.writeR
    rw [hl]
    simp [hk, hv, look]
  refine ⟨e1, ?_⟩
  have e2 : put A.opened.works (A.begun + 1) (A.now, put [] key (⟨0, val, gone⟩ : Ver)) = A.works ++ [(A.begun + 1, (A.now, [(key, ⟨0, val, gone⟩)]))] := put_snoc _ _ h.fresh
  unfold Gst.writeS
  rw [hl]
  simp only [e1, if_true, e2]
  rfl

theorem Gok.commit_ {A : Gst} (h : Gok A) (key val : ByteArray) (gone : Bool) (hn : A.now < 1000000000) : (A.step1 key val gone).commitR (A.begun + 1) = (A.now + 1, 0) ∧ (A.step1 key val gone).commitS (A.begun + 1) = A.wrote1 key val gone := by
  have hl : look (A.step1 key val gone).works (A.begun + 1) = some (A.now, [(key, ⟨0, val, gone⟩)]) := look_snoc _ h.fresh
  have hnow : (A.step1 key val gone).now = A.now := rfl
  have hcl : clashB (A.step1 key val gone) A.now [(key, ⟨0, val, gone⟩)] = false := by
    have := h.last key
    have e : (A.step1 key val gone).vers = A.vers := rfl
    simp [clashB, e]
    omega
  unfold Gst.commitR Gst.commitS
  rw [hl]
  simp only [hnow, hn, if_true, hcl]
  refine ⟨by simp, ?_⟩
  have e2 : del (A.step1 key val gone).works (A.begun + 1) = A.works := del_snoc _ h.fresh
  simp only [Gst.became, e2]
  simp [Gst.wrote1, Gst.step1, Gst.opened, insAll]
  funext k
  by_cases e : key = k
  · subst e
    simp [look, verOf]
  · have e' : ¬ k = key := fun h => e h.symm
    simp [look, e, e']

/-- asked with a work of its own -/
def Gst.asked1 (A : Gst) : Gst := { A with begun := A.begun + 1 }

theorem Gok.abort_ {A : Gst} (h : Gok A) : A.opened.abortR (A.begun + 1) = 0 ∧ A.opened.abortS (A.begun + 1) = A.asked1 := by
  have hl : look A.opened.works (A.begun + 1) = some (A.now, []) := look_snoc (A.now, []) h.fresh
  unfold Gst.abortR Gst.abortS
  rw [hl]
  refine ⟨rfl, ?_⟩
  have e2 : del A.opened.works (A.begun + 1) = A.works := del_snoc _ h.fresh
  simp only [Option.isSome_some, if_true, Gst.ended, e2]
  rfl

/-- what stands at a state -/
def Gst.pairs (A : Gst) (s : Int) : List (ByteArray × ByteArray) := A.keys.filterMap (pairOf [] A.vers s)

theorem ltK_empty (k : ByteArray) : ltK k ⟨#[]⟩ = false := by
  cases h : ltK k ⟨#[]⟩ with
  | false => rfl
  | true =>
    have := (ltK_iff _ _).1 h
    simp at this

theorem Gok.scan_ {A : Gst} (h : Gok A) : A.opened.scanR (A.begun + 1) ⟨#[]⟩ (-1) = (A.pairs A.now, 0) := by
  have hl : look A.opened.works (A.begun + 1) = some (A.now, []) := look_snoc (A.now, []) h.fresh
  unfold Gst.scanR
  rw [hl]
  have hsz : (⟨#[]⟩ : ByteArray).size ≤ 10 := by decide
  simp only [hsz, if_true]
  have e : A.opened.seen A.now [] ⟨#[]⟩ = A.pairs A.now := by
    unfold Gst.seen Gst.pairs
    have e1 : insAll A.opened.keys (([] : List (ByteArray × Ver)).map (·.1)) = A.keys := rfl
    rw [e1]
    have e2 : A.keys.filter (fun k => !ltK k ⟨#[]⟩) = A.keys := List.filter_eq_self.2 (fun k _ => by simp [ltK_empty])
    rw [e2]
    rfl
  rw [e]
  rfl

end Go.Proofs.YtpagenipflmlfaaGreatDoor

/- write: a work with one step that is committed. -/

namespace Go.Proofs.YtpagenipflmlfaaGreatDoor

open Go.RowKit Go.Shelf

/-- Commit behind one step -/
theorem commit_next {O : Nat → Prop} {w : World} {b : Nat} {A : Abs} {K : List ByteArray} {key val : ByteArray} {gone : Bool} (s : SAt K O w b (A.opened.wrote (A.begun + 1) A.now [] key ⟨0, val, gone⟩)) (hK : K.length ≤ 30) (hA : Sound A) (hO : ∀ k, O k → k < w.heap.size) (hnow : A.now < 1000000000) :
    Calls Tryz.prog 17 #[.pointer (some ⟨b, 0, none⟩), .int .i64 (A.begun + 1)] w fun e w' => e = .returned (.tuple #[.int .i64 (A.now + 1), .int .i64 0]) ∧ SAt K O w' b (A.next key val gone) ∧ Keeps (fun k => ¬ O k) w w' := by
  have e1 : put (A.works ++ [(A.begun + 1, (A.now, []))]) (A.begun + 1) (A.now, put [] key (⟨0, val, gone⟩ : Ver)) = A.works ++ [(A.begun + 1, (A.now, put [] key ⟨0, val, gone⟩))] := put_snoc _ _ hA.fresh
  have hl : look (A.opened.wrote (A.begun + 1) A.now [] key ⟨0, val, gone⟩).works (A.begun + 1) = some (A.now, put [] key ⟨0, val, gone⟩) := by
    simp only [Abs.opened, Abs.wrote, e1]
    exact look_snoc _ hA.fresh
  refine (commit_s s hO hK hl (by simp [put]) hnow).mono ?_
  rintro e w' ⟨⟨⟨k, _, hlt⟩, _⟩ | ⟨_, rfl, h3⟩, h4⟩
  · have := hA.last k
    have h' : A.now < lastOf (A.vers k) := hlt
    omega
  · rw [next_eq hA] at h3
    exact ⟨rfl, h3, h4⟩

end Go.Proofs.YtpagenipflmlfaaGreatDoor

/- begun: a new store, once a work has done what it must in another. -/

namespace Go.Proofs.YtpagenipflmlfaaGreatDoor

open Go.RowKit Go.Shelf

theorem storeAt_zero {w : World} {b : Nat} (h : w.heap[b]? = some (.cells (topCells (Rep.zero b)) 65 (0, 0))) : StoreAt w (Rep.zero b) :=
  ⟨h, ⟨rfl, fun p hp => (by cases hp), rfl, rfl⟩, ⟨Row.nil _ _ _, rfl, fun p hp => (by cases hp)⟩, by simp [Rep.fp, Rep.fpWorks, Rep.fpPast, Rep.zero, pcOf, Value.ownBlock]⟩

theorem sat_zero {K : List ByteArray} {O : Nat → Prop} {w : World} {b : Nat} (h : StoreAt w (Rep.zero b)) (hb : ¬ O b) : SAt K O w b Abs.zero :=
  ⟨Rep.zero b, ⟨h, good_zero _, tied_zero _, ⟨rfl, rfl⟩, fun h => absurd h (by simp [Rep.zero]), fun k hk => (by cases hk), fun p hp => (by cases hp)⟩, rfl, rfl, fun k hk => by
    have e : k = b := by simpa [Rep.fp, Rep.fpWorks, Rep.fpPast, Rep.zero, pcOf, Value.ownBlock] using hk
    rw [e]; exact hb⟩

def kB : ByteArray := { data := #[107] }

def vB : ByteArray := { data := #[118] }

theorem begun_get : (Abs.zero.next kB vB false).opened.get 2 kB = (vB, 0) := by decide +kernel

/-- what the store of begun does -/
theorem begun_calls {w : World} {O : Nat → Prop} {b : Nat} (h : SAt [kB] O w b Abs.zero) (hO : ∀ k, O k → k < w.heap.size) :
    Calls Tryz.prog 15 #[.pointer (some ⟨b, 0, none⟩)] w fun e w1 => e = .returned (.tuple #[.int .i64 1, .int .i64 0]) ∧ Keeps (fun k => ¬ O k) w w1 ∧
      Calls Tryz.prog 16 #[.pointer (some ⟨b, 0, none⟩), .int .i64 1, .string kB, .string vB] w1 fun e w2 => e = .returned (.int .i64 0) ∧ Keeps (fun k => ¬ O k) w w2 ∧
      Calls Tryz.prog 17 #[.pointer (some ⟨b, 0, none⟩), .int .i64 1] w2 fun e w3 => e = .returned (.tuple #[.int .i64 1, .int .i64 0]) ∧ Keeps (fun k => ¬ O k) w w3 ∧
      Calls Tryz.prog 15 #[.pointer (some ⟨b, 0, none⟩)] w3 fun e w4 => e = .returned (.tuple #[.int .i64 2, .int .i64 0]) ∧ Keeps (fun k => ¬ O k) w w4 ∧
      Calls Tryz.prog 18 #[.pointer (some ⟨b, 0, none⟩), .int .i64 2, .string kB] w4 fun e w5 => e = .returned (.tuple #[.string { data := #[118] }, .int .i64 0]) ∧ Keeps (fun k => ¬ O k) w w5 := by
  have hs := h.sound
  refine (begin_s h hO (by simp [Abs.zero]) (by simp [Abs.zero])).mono ?_
  rintro e w1 ⟨rfl, s1, k1⟩
  refine ⟨rfl, k1, ?_⟩
  refine (put_s s1 (by simp) (look_snoc (Abs.zero.now, []) hs.fresh) (List.mem_singleton.2 rfl) (by decide +kernel) (by decide +kernel)).mono ?_
  rintro e w2 ⟨rfl, s2, k2⟩
  have k2' : Keeps (fun k => ¬ O k) w w2 := k1.tr k2 (fun _ h => h)
  have z2 := k2'.size
  refine ⟨rfl, k2', ?_⟩
  refine (commit_next s2 (by simp) hs (fun k hk => by have := hO k hk; omega) (by simp [Abs.zero])).mono ?_
  rintro e w3 ⟨rfl, s3, k3⟩
  have k3' : Keeps (fun k => ¬ O k) w w3 := k2'.tr k3 (fun _ h => h)
  have z3 := k3'.size
  refine ⟨rfl, k3', ?_⟩
  refine (begin_s s3 (fun k hk => by have := hO k hk; omega) (by simp [Abs.next, Abs.zero]) (by simp [Abs.next, Abs.zero])).mono ?_
  rintro e w4 ⟨rfl, s4, k4⟩
  have k4' : Keeps (fun k => ¬ O k) w w4 := k3'.tr k4 (fun _ h => h)
  refine ⟨rfl, k4', ?_⟩
  refine (get_s (n := 2) (key := kB) s4 (by decide +kernel)).mono ?_
  rintro e w5 ⟨rfl, s5, k5⟩
  rw [begun_get]
  exact ⟨rfl, k4'.tr k5 (fun _ h => h.elim)⟩

end Go.Proofs.YtpagenipflmlfaaGreatDoor

/- annalskeep's write and all, of a store told by what can be asked of it. -/

namespace Go.Proofs.YtpagenipflmlfaaGreatDoor

open Go.RowKit Go.Shelf

/-- The store at b is A; the blocks of O are not its own. -/
def HAt (O : Nat → Prop) (N : Nat) (w : World) (b : Nat) (A : Gst) : Prop := ∃ F, GSt N w b A F ∧ ∀ k ∈ F, ¬ O k

theorem HAt.ok {O : Nat → Prop} {N : Nat} {w : World} {b : Nat} {A : Gst} (h : HAt O N w b A) : Gok A := by
  obtain ⟨F, h1, h2⟩ := h
  exact h1.ok

theorem HAt.kept {O S : Nat → Prop} {N : Nat} {w w' : World} {b : Nat} {A : Gst} (h : HAt O N w b A) (hk : Keeps S w w') (hS : ∀ k, k < w.heap.size → S k → O k) : HAt O N w' b A := by
  obtain ⟨F, h1, h2⟩ := h
  exact ⟨F, h1.kept hk (fun k hk hs => h2 k hk (hS k (h1.lt k hk) hs)), h2⟩

theorem HAt.more {O O' : Nat → Prop} {N N' : Nat} {w : World} {b : Nat} {A : Gst} (h : HAt O N w b A) (hN : N ≤ N') (hO : ∀ k, O' k → O k ∨ w.heap.size ≤ k) : HAt O' N' w b A := by
  obtain ⟨F, h1, h2⟩ := h
  refine ⟨F, h1.more hN, fun k hk ho => ?_⟩
  rcases hO k ho with h | h
  · exact h2 k hk h
  · have := h1.lt k hk
    omega

theorem HAt.of {O : Nat → Prop} {N : Nat} {w w' : World} {b : Nat} {A : Gst} {F : List Nat} (h : After N b A F w w') (hf : ∀ k ∈ F, ¬ O k) (hO : ∀ k, O k → k < w.heap.size) : HAt O N w' b A ∧ Keeps (fun k => ¬ O k) w w' := by
  obtain ⟨F', h1, h2, h3⟩ := h
  refine ⟨⟨F', h1, fun k hk ho => ?_⟩, h2.mono (fun k _ hk => hf k hk)⟩
  rcases h3 k hk with h | h
  · exact hf k h ho
  · have := hO k ho
    omega

theorem HAt.call {O : Nat → Prop} {N N' : Nat} {w : World} {b f : Nat} {A A' : Gst} {xs : Array Value} {Q : Ending → Prop} (h : HAt O N w b A) (hO : ∀ k, O k → k < w.heap.size) (hc : ∀ F, GSt N w b A F → Calls Tryz.prog f xs w fun e w' => Q e ∧ After N' b A' F w w') :
    Calls Tryz.prog f xs w fun e w' => Q e ∧ HAt O N' w' b A' ∧ Keeps (fun k => ¬ O k) w w' := by
  obtain ⟨F, h1, h2⟩ := h
  refine (hc F h1).mono ?_
  rintro e w' ⟨q, ha⟩
  exact ⟨q, HAt.of ha h2 hO⟩

theorem begin_h {O : Nat → Prop} {N : Nat} {w : World} {b : Nat} {A : Gst} (h : HAt O N w b A) (hO : ∀ k, O k → k < w.heap.size) (hN : N ≤ 100000000000) (hl : A.works.length < 8) :
    Calls Tryz.prog 15 #[.pointer (some ⟨b, 0, none⟩)] w fun e w' => e = .returned (.tuple #[.int .i64 (A.begun + 1), .int .i64 0]) ∧ HAt O (N + 1) w' b A.opened ∧ Keeps (fun k => ¬ O k) w w' := by
  obtain ⟨e1, e2⟩ := Gok.begin_ hl
  have := h.call hO (fun F hF => begin_g hF hN)
  rw [e1, e2] at this
  exact this

theorem put_h {O : Nat → Prop} {N : Nat} {w : World} {b : Nat} {A : Gst} {key val : ByteArray} (h : HAt O N w b A.opened) (ok : Gok A) (hO : ∀ k, O k → k < w.heap.size) (hk : keyB key = true) (hv : valB val = true) :
    Calls Tryz.prog 16 #[.pointer (some ⟨b, 0, none⟩), .int .i64 (A.begun + 1), .string key, .string val] w fun e w' => e = .returned (.int .i64 0) ∧ HAt O N w' b (A.step1 key val false) ∧ Keeps (fun k => ¬ O k) w w' := by
  obtain ⟨e1, e2⟩ := ok.write_ false hk hv
  have h1 : key.size ≤ maxLen := by unfold keyB at hk; simp at hk; unfold maxLen; omega
  have h2 : val.size ≤ maxLen := by unfold valB at hv; simp at hv; unfold maxLen; omega
  have := h.call hO (fun F hF => put_g (A.begun + 1) key val hF h1 h2)
  rw [e1, e2] at this
  exact this

theorem delete_h {O : Nat → Prop} {N : Nat} {w : World} {b : Nat} {A : Gst} {key : ByteArray} (h : HAt O N w b A.opened) (ok : Gok A) (hO : ∀ k, O k → k < w.heap.size) (hk : keyB key = true) :
    Calls Tryz.prog 20 #[.pointer (some ⟨b, 0, none⟩), .int .i64 (A.begun + 1), .string key] w fun e w' => e = .returned (.int .i64 0) ∧ HAt O N w' b (A.step1 key ByteArray.empty true) ∧ Keeps (fun k => ¬ O k) w w' := by
  obtain ⟨e1, e2⟩ := ok.write_ (val := ByteArray.empty) true hk (by decide +kernel)
  have h1 : key.size ≤ maxLen := by unfold keyB at hk; simp at hk; unfold maxLen; omega
  have := h.call hO (fun F hF => delete_g (A.begun + 1) key hF h1)
  rw [e1, e2] at this
  exact this

theorem commit_h {O : Nat → Prop} {N : Nat} {w : World} {b : Nat} {A : Gst} {key val : ByteArray} {gone : Bool} (h : HAt O N w b (A.step1 key val gone)) (ok : Gok A) (hO : ∀ k, O k → k < w.heap.size) (hN : N ≤ 100000000000) (hn : A.now < 1000000000) :
    Calls Tryz.prog 17 #[.pointer (some ⟨b, 0, none⟩), .int .i64 (A.begun + 1)] w fun e w' => e = .returned (.tuple #[.int .i64 (A.now + 1), .int .i64 0]) ∧ HAt O (N + 30) w' b (A.wrote1 key val gone) ∧ Keeps (fun k => ¬ O k) w w' := by
  obtain ⟨e1, e2⟩ := ok.commit_ key val gone hn
  have := h.call hO (fun F hF => commit_g (A.begun + 1) hF hN)
  rw [e1, e2] at this
  exact this

theorem abort_h {O : Nat → Prop} {N : Nat} {w : World} {b : Nat} {A : Gst} (h : HAt O N w b A.opened) (ok : Gok A) (hO : ∀ k, O k → k < w.heap.size) :
    Calls Tryz.prog 31 #[.pointer (some ⟨b, 0, none⟩), .int .i64 (A.begun + 1)] w fun e w' => e = .returned (.int .i64 0) ∧ HAt O N w' b A.asked1 ∧ Keeps (fun k => ¬ O k) w w' := by
  obtain ⟨e1, e2⟩ := ok.abort_
  have := h.call hO (fun F hF => abort_g (A.begun + 1) hF)
  rw [e1, e2] at this
  exact this

theorem scan_h {O : Nat → Prop} {N : Nat} {w : World} {b : Nat} {A : Gst} (h : HAt O N w b A.opened) (ok : Gok A) (hN : N ≤ 100000000000) :
    Calls Tryz.prog 30 #[.pointer (some ⟨b, 0, none⟩), .int .i64 (A.begun + 1), .string ⟨#[]⟩, .int .i64 (-1)] w fun e w' => ∃ v, e = .returned (.tuple #[v, .int .i64 0]) ∧
      Row w' 89 2 v (A.pairs A.now).length ((A.pairs A.now).flatMap pairCells) ∧ (∀ g, v.ownBlock = some g → w.heap.size ≤ g) ∧ HAt O N w' b A.opened ∧ Keeps (fun _ => False) w w' := by
  obtain ⟨F, h1, h2⟩ := h
  have := scan_g (A.begun + 1) ⟨#[]⟩ (-1) h1 hN (by omega) (by omega)
  rw [ok.scan_] at this
  refine this.mono ?_
  rintro e w' ⟨v, q1, q2, q3, q4, q5⟩
  exact ⟨v, q1, q2, q3, ⟨F, q4, h2⟩, q5⟩

/-- what write leaves -/
def WriteG (O : Nat → Prop) (N : Nat) (b : Nat) (A : Gst) (what key : Int) (val : ByteArray) (w : World) (e : Ending) (w' : World) : Prop :=
  e = .returned (.bool true) ∧ HAt O (N + 31) w' b (A.wrote1 (keyZ (pickZ key 12)) (if pickZ what 4 = 3 then ByteArray.empty else val.extract 0 40) (decide (pickZ what 4 = 3))) ∧ Keeps (fun k => ¬ O k) w w'

set_option maxRecDepth 100000 in
set_option maxHeartbeats 800000 in
theorem writeG_put {O : Nat → Prop} {N : Nat} {w : World} {b : Nat} {A : Gst} (what key : Int) (val : ByteArray) (h : HAt O N w b A) (hO : ∀ k, O k → k < w.heap.size) (hl : A.works.length < 8) (hnow : A.now < 1000000000) (hN : N ≤ 99999999999)
    (hw : -9223372036854775808 ≤ what ∧ what ≤ 9223372036854775807) (hk : -9223372036854775808 ≤ key ∧ key ≤ 9223372036854775807) (hv : val.size ≤ maxLen) (hne : ¬ pickZ what 4 = 3) :
    Calls Tryz.prog 5 #[.pointer (some ⟨b, 0, none⟩), .agg #[.int .i64 what, .int .i64 key, .string val]] w (WriteG O N b A what key val w) := by
  have hs := h.ok
  have hb0 := hs.begun
  have HO' : Hid (∀ k, (O k ∨ k = w.heap.size) → k < w.heap.size + 1) := fun k hk => by
    rcases hk with hk | hk
    · have := hO k hk; omega
    · omega
  have hb1 := begin_h (((h.more (Nat.le_refl _) (O' := fun k => O k ∨ k = w.heap.size) (fun k hk => hk.imp id (fun e => by omega))).kept ((Keeps.refl (fun _ => False) w).al (.cells #[.int .i64 what, .int .i64 key, .string val] 30)) (fun _ _ h => h.elim))) (fun k hk => by simpa using HO'.out k hk) (by omega) hl
  have HB := hid hb1
  have HP1 := hid (fun W => pick_any what 4 W hw ⟨by decide, by decide⟩)
  have HP2 := hid (fun W => pick_any key 12 W hk ⟨by decide, by decide⟩)
  have HC := hid (fun W => cut_any val W hv)
  obtain ⟨hp0, hp1⟩ := pick_lt key (n := 12) (by decide)
  have HK := hid (fun W => key_any (pickZ key 12) W ⟨hp0, hp1⟩)
  have HV := hid (cut_ok val)
  have HKK := hid (key_ok hp0 hp1)
  have HS := hid hs
  have HH := hid hO
  have HNOW := hid hnow
  have HNN := hid hN
  generalize hkz : pickZ key 12 = kz at *
  have HKZ := hid hkz
  generalize hvx : val.extract 0 40 = vx at *
  have HVX := hid hvx
  clear hb1 hw hk hv hs hp0 hp1 hO h hl hnow hkz hvx hN hb0
  go_enter Tryz.func5, Tryz.ntmps5
  go_wp2_with (first
    | (go_at_call 15; go_must (refine (HB.out).mono ?_; rintro e w1 ⟨rfl, s1, k1⟩; obtain ⟨q0, q1, q2, -⟩ := three_cells (box_kept k1 (fun h => h (.inr rfl)))))
    | (go_at_call 19; go_must (refine (HP1.out _).mono ?_; rintro e w1 ⟨rfl, rfl⟩)))
  have hz1 := k1.size
  simp at hz1
  have HPUT := hid (fun W (hW : Keeps (fun _ => False) w1 W) => put_h (key := keyZ kz) (val := vx) (s1.kept hW (fun _ _ h => h.elim)) HS.out (fun k hk => by have := HO'.out k hk; have := hW.size; omega) HKK.out HV.out)
  have K1 := hid k1
  have HZ1 := hid hz1
  clear s1 k1 hz1
  go_region_held3 (fun W => W.cell? ⟨w.heap.size, 1, none⟩ = some (.int .i64 key) ∧ W.cell? ⟨w.heap.size, 2, none⟩ = some (.string val)) (go_keep) (first
    | (go_at_call 19; refine (HP2.out _).mono ?_; rintro e wp ⟨rfl, rfl⟩)
    | (go_at_call 21; refine (HK.out _).mono ?_; rintro e w2 ⟨rfl, k2⟩; have k2' : Keeps (fun _ => False) w1 w2 := (Keeps.drew _ _).tr k2 (fun _ h => h); have r1 := k2'.cell (p := ⟨w.heap.size, 1, none⟩) q1 (fun h => h); have r2 := k2'.cell (p := ⟨w.heap.size, 2, none⟩) q2 (fun h => h))
    | (go_at_call 22; refine (HC.out _).mono ?_; rintro e wp ⟨rfl, rfl⟩)
    | (go_at_call 16; refine (HPUT.out _ k2').mono ?_; rintro e w3 ⟨rfl, s3, k3⟩; have p1 := k3.cell (p := ⟨w.heap.size, 1, none⟩) r1 (fun h => h (.inr rfl)); have p2 := k3.cell (p := ⟨w.heap.size, 2, none⟩) r2 (fun h => h (.inr rfl))))
  have hz1 := HZ1.out
  have hz2 := k2'.size
  have hz3 := k3.size
  have HCOM := hid (commit_h s3 HS.out (fun k hk => by have := HO'.out k hk; omega) (by have := HNN.out; omega) HNOW.out)
  have K3 := hid k3
  have K2 := hid k2'
  clear s3 k3 k2 k2' r1 r2 p1 p2 q0 q1 q2 hz1 hz2 hz3
  go_wp2_with (go_at_call 17; go_must (refine (HCOM.out).mono ?_; rintro e w4 ⟨rfl, s4, k4⟩))
  go_ret
  refine ⟨rfl, ?_, ?_⟩
  · simp only [if_neg hne, decide_eq_false hne, HKZ.out, HVX.out]
    exact s4.more (Nat.le_refl _) (fun k hk => .inl (.inl hk))
  · have t1 : Keeps (fun k => ¬ O k) w w1 := ((Keeps.refl _ w).al _).trans K1.out (fun k _ hk ho => hk (.inl ho))
    have t2 : Keeps (fun k => ¬ O k) w wp := t1.trans K2.out (fun k _ hk => hk.elim)
    have t3 : Keeps (fun k => ¬ O k) w w3 := t2.trans K3.out (fun k _ hk ho => hk (.inl ho))
    exact t3.trans k4 (fun k _ hk ho => hk (.inl ho))

set_option maxRecDepth 100000 in
set_option maxHeartbeats 800000 in
theorem writeG_del {O : Nat → Prop} {N : Nat} {w : World} {b : Nat} {A : Gst} (what key : Int) (val : ByteArray) (h : HAt O N w b A) (hO : ∀ k, O k → k < w.heap.size) (hl : A.works.length < 8) (hnow : A.now < 1000000000) (hN : N ≤ 99999999999)
    (hw : -9223372036854775808 ≤ what ∧ what ≤ 9223372036854775807) (hk : -9223372036854775808 ≤ key ∧ key ≤ 9223372036854775807) (hne : pickZ what 4 = 3) :
    Calls Tryz.prog 5 #[.pointer (some ⟨b, 0, none⟩), .agg #[.int .i64 what, .int .i64 key, .string val]] w (WriteG O N b A what key val w) := by
  have hs := h.ok
  have HO' : Hid (∀ k, (O k ∨ k = w.heap.size) → k < w.heap.size + 1) := fun k hk => by
    rcases hk with hk | hk
    · have := hO k hk; omega
    · omega
  have hb1 := begin_h (((h.more (Nat.le_refl _) (O' := fun k => O k ∨ k = w.heap.size) (fun k hk => hk.imp id (fun e => by omega))).kept ((Keeps.refl (fun _ => False) w).al (.cells #[.int .i64 what, .int .i64 key, .string val] 30)) (fun _ _ h => h.elim))) (fun k hk => by simpa using HO'.out k hk) (by omega) hl
  have HB := hid hb1
  have HP1 := hid (fun W => pick_any what 4 W hw ⟨by decide, by decide⟩)
  have HP2 := hid (fun W => pick_any key 12 W hk ⟨by decide, by decide⟩)
  obtain ⟨hp0, hp1⟩ := pick_lt key (n := 12) (by decide)
  have HK := hid (fun W => key_any (pickZ key 12) W ⟨hp0, hp1⟩)
  have HKK := hid (key_ok hp0 hp1)
  have HS := hid hs
  have HH := hid hO
  have HNOW := hid hnow
  have HNN := hid hN
  generalize hkz : pickZ key 12 = kz at *
  have HKZ := hid hkz
  have HNE := hid hne
  have hP : ∀ W, Calls Tryz.prog 19 #[.int .i64 what, .int .i64 4] W fun e w' => e = .returned (.int .i64 3) ∧ w' = W := fun W => by have := HP1.out W; rwa [hne] at this
  have HP3 := hid hP
  clear hb1 hw hk hs hp0 hp1 hO h hl hnow hne hP HP1 hkz hN
  go_enter Tryz.func5, Tryz.ntmps5
  go_wp2_with (go_at_call 15; go_must (refine (HB.out).mono ?_; rintro e w1 ⟨rfl, s1, k1⟩; obtain ⟨q0, q1, q2, -⟩ := three_cells (box_kept k1 (fun h => h (.inr rfl)))))
  refine (HP3.out _).mono ?_
  rintro e w1 ⟨rfl, rfl⟩
  have hz1 := k1.size
  simp at hz1
  have HDEL := hid (fun W (hW : Keeps (fun _ => False) w1 W) => delete_h (key := keyZ kz) (s1.kept hW (fun _ _ h => h.elim)) HS.out (fun k hk => by have := HO'.out k hk; have := hW.size; omega) HKK.out)
  have K1 := hid k1
  have HZ1 := hid hz1
  clear s1 k1 hz1
  go_wp2_with (first
    | (go_at_call 19; go_must (refine (HP2.out _).mono ?_; rintro e w1 ⟨rfl, rfl⟩))
    | (go_at_call 21; go_must (refine (HK.out _).mono ?_; rintro e w2 ⟨rfl, k2⟩))
    | (go_at_call 20; go_must (refine (HDEL.out _ k2).mono ?_; rintro e w3 ⟨rfl, s3, k3⟩; have hz1 := HZ1.out; have hz2 := k2.size; have hz3 := k3.size; have HCOM := hid (commit_h s3 HS.out (fun k hk => by have := HO'.out k hk; omega) (by have := HNN.out; omega) HNOW.out); have K3 := hid k3; have K2 := hid k2; clear s3 k3 k2 q0 q1 q2 hz1 hz2 hz3))
    | (go_at_call 17; go_must (refine (HCOM.out).mono ?_; rintro e w4 ⟨rfl, s4, k4⟩)))
  go_ret
  refine ⟨rfl, ?_, ?_⟩
  · simp only [if_pos HNE.out, decide_eq_true HNE.out, HKZ.out]
    exact s4.more (Nat.le_refl _) (fun k hk => .inl (.inl hk))
  · have t1 : Keeps (fun k => ¬ O k) w w1 := ((Keeps.refl _ w).al _).trans K1.out (fun k _ hk ho => hk (.inl ho))
    have t2 : Keeps (fun k => ¬ O k) w w2 := t1.trans K2.out (fun k _ hk => hk.elim)
    have t3 : Keeps (fun k => ¬ O k) w w3 := t2.trans K3.out (fun k _ hk ho => hk (.inl ho))
    exact t3.trans k4 (fun k _ hk ho => hk (.inl ho))

theorem writeG_any {O : Nat → Prop} {N : Nat} {w : World} {b : Nat} {A : Gst} (what key : Int) (val : ByteArray) (h : HAt O N w b A) (hO : ∀ k, O k → k < w.heap.size) (hl : A.works.length < 8) (hnow : A.now < 1000000000) (hN : N ≤ 99999999999)
    (hw : -9223372036854775808 ≤ what ∧ what ≤ 9223372036854775807) (hk : -9223372036854775808 ≤ key ∧ key ≤ 9223372036854775807) (hv : val.size ≤ maxLen) :
    Calls Tryz.prog 5 #[.pointer (some ⟨b, 0, none⟩), .agg #[.int .i64 what, .int .i64 key, .string val]] w (WriteG O N b A what key val w) := by
  by_cases hne : pickZ what 4 = 3
  · exact writeG_del what key val h hO hl hnow hN hw hk hne
  · exact writeG_put what key val h hO hl hnow hN hw hk hv hne

end Go.Proofs.YtpagenipflmlfaaGreatDoor

/- same: of two lists that are the same. -/

namespace Go.Proofs.YtpagenipflmlfaaGreatDoor

open Go.RowKit Go.Shelf

theorem pairs_at : ∀ (ps : List (ByteArray × ByteArray)) (j r : Nat) (hj : j < ps.length), r < 2 → (ps.flatMap pairCells)[j * 2 + r]? = (pairCells ps[j])[r]?
  | [], j, r, hj, _ => by simp at hj
  | p :: ps, 0, r, _, hr => by
    have : r < (pairCells p).length := by simp [pairCells]; omega
    simp [List.getElem?_append_left this]
  | p :: ps, j + 1, r, hj, hr => by
    have ih := pairs_at ps j r (by simpa using hj) hr
    have e : (j + 1) * 2 + r = (pairCells p).length + (j * 2 + r) := by simp [pairCells]; omega
    rw [List.flatMap_cons, e, List.getElem?_append_right (by omega), Nat.add_sub_cancel_left, ih]
    simp

theorem Row.pair {w : World} {g cap : Nat} {ps : List (ByteArray × ByteArray)} (h : Row w 89 2 (.slice (some ⟨g, 0, none⟩) ps.length cap) ps.length (ps.flatMap pairCells)) (j : Nat) (hj : j < ps.length) :
    w.cell? ⟨g, j * 2, none⟩ = some (.string ps[j].1) ∧ w.cell? ⟨g, j * 2 + 1, none⟩ = some (.string ps[j].2) := by
  have h0 := h.cellAt (j * 2) (by omega)
  have h1 := h.cellAt (j * 2 + 1) (by omega)
  have p0 := pairs_at ps j 0 hj (by omega)
  have p1 := pairs_at ps j 1 hj (by omega)
  rw [Nat.add_zero] at p0
  exact ⟨by rw [h0, p0]; rfl, by rw [h1, p1]; rfl⟩

set_option maxRecDepth 100000 in
set_option maxHeartbeats 800000 in
theorem same_eq (va vb : Value) (ps : List (ByteArray × ByteArray)) (w : World) (ha : Row w 89 2 va ps.length (ps.flatMap pairCells)) (hb : Row w 89 2 vb ps.length (ps.flatMap pairCells)) :
    Calls Tryz.prog 12 #[va, vb] w fun e w' => e = .returned (.bool true) ∧ Keeps (fun _ => False) w w' := by
  obtain ⟨oa, ca, rfl, hm, sa⟩ := ha.form
  obtain ⟨ob, cb, rfl, -, sb⟩ := hb.form
  have HA := hid ha
  have HB := hid hb
  have SA := hid sa
  have SB := hid sb
  unfold maxLen at hm
  clear ha hb sa sb
  go_enter Tryz.func12, Tryz.ntmps12
  go_wp2_with fail
  go_loopw [5] (fun i wr => ∃ k : Nat, k ≤ ps.length ∧ i = .int .i64 k ∧ Keeps (fun _ => False) w wr) (fun i _ => ps.length - (intOf i).toNat)
  case atStart => exact ⟨0, Nat.zero_le _, rfl, Keeps.refl _ _⟩
  case round =>
    obtain ⟨k, hk, rfl, hkr⟩ := hrel
    by_cases hlt : k < ps.length
    · obtain ⟨ga, rfl⟩ := SA.out (by omega)
      obtain ⟨gb, rfl⟩ := SB.out (by omega)
      obtain ⟨a0, a1⟩ := (HA.out.kept hkr (fun _ _ h => h)).pair k hlt
      obtain ⟨b0, b1⟩ := (HB.out.kept hkr (fun _ _ h => h)).pair k hlt
      generalize ps[k].1 = x at a0 b0
      generalize ps[k].2 = y at a1 b1
      have HKR := hid hkr
      clear hkr SA SB HA HB
      go_wp2_with fail
      go_region
      go_wp2
      exact ⟨⟨k + 1, by omega, by go_num, HKR.out.dr⟩, by simp only [intOf]; omega⟩
    · go_wp2
      go_ret
      exact ⟨rfl, hkr⟩

end Go.Proofs.YtpagenipflmlfaaGreatDoor

/- annalskeep's all and begun, of a store told by what can be asked of it. -/

namespace Go.Proofs.YtpagenipflmlfaaGreatDoor

open Go.RowKit Go.Shelf

/-- a list of pairs -/
def PairsAt (w : World) (v : Value) (ps : List (ByteArray × ByteArray)) : Prop := Row w 89 2 v ps.length (ps.flatMap pairCells)

/-- what all leaves -/
def AllG (O : Nat → Prop) (N : Nat) (b : Nat) (A : Gst) (w : World) (e : Ending) (w' : World) : Prop :=
  ∃ v, e = .returned (.tuple #[v, .bool true]) ∧ PairsAt w' v (A.pairs A.now) ∧ (∀ g, v.ownBlock = some g → w.heap.size ≤ g) ∧ HAt (fun k => O k ∨ v.ownBlock = some k) (N + 1) w' b A.asked1 ∧ Keeps (fun k => ¬ O k) w w'

set_option maxRecDepth 100000 in
set_option maxHeartbeats 800000 in
theorem all_any {O : Nat → Prop} {N : Nat} {w : World} {b : Nat} {A : Gst} (h : HAt O N w b A) (hO : ∀ k, O k → k < w.heap.size) (hl : A.works.length < 8) (hN : N ≤ 99999999999) :
    Calls Tryz.prog 8 #[.pointer (some ⟨b, 0, none⟩)] w (AllG O N b A w) := by
  have HS := hid h.ok
  have HB := hid (begin_h h hO (by omega) hl)
  have HO := hid hO
  have HN := hid hN
  have hb0 := h.ok.begun
  clear h hO hl hN
  go_enter Tryz.func8, Tryz.ntmps8
  go_wp2_with fail
  refine HB.out.mono ?_
  rintro e w1 ⟨rfl, s1, k1⟩
  have HSC := hid (scan_h s1 HS.out (by have := HN.out; omega))
  have S1 := hid s1
  have K1 := hid k1
  clear s1 k1 HB
  go_wp2_with fail
  refine HSC.out.mono ?_
  rintro e w2 ⟨v, rfl, row, own, -, k2⟩
  have hz := K1.out.size
  have hO2 : ∀ k, (O k ∨ v.ownBlock = some k) → k < w2.heap.size := fun k hk => by
    rcases hk with hk | hk
    · have := HO.out k hk
      have := k2.size
      omega
    · exact row.lt hk
  have HA := hid (abort_h (((S1.out.more (Nat.le_refl _) (O' := fun k => O k ∨ v.ownBlock = some k) (fun k hk => hk.imp id (own k))).kept k2 (fun _ _ h => h.elim))) HS.out hO2)
  have ROW := hid row
  have OWN := hid own
  have K2 := hid k2
  have HZ := hid hz
  clear row own k2 hz hO2 HSC
  go_wp2_with fail
  refine HA.out.mono ?_
  rintro e w3 ⟨rfl, s3, k3⟩
  have S3 := hid s3
  have K3 := hid k3
  clear s3 k3 HA
  go_wp2
  go_ret2
  refine ⟨v, rfl, ROW.out.kept K3.out (fun k hk h => h (.inr hk)), fun g hg => by have := OWN.out g hg; have := HZ.out; omega, S3.out, ?_⟩
  exact (K1.out.trans K2.out (fun k _ h => h.elim)).trans K3.out (fun k _ h ho => h (.inl ho))

set_option maxRecDepth 100000 in
set_option maxHeartbeats 800000 in
theorem begunG_any (w : World) :
    Calls Tryz.prog 4 #[] w fun e w' => ∃ b, e = .returned (.pointer (some ⟨b, 0, none⟩)) ∧ w.heap.size ≤ b ∧ HAt (fun k => k < w.heap.size) 0 w' b Gst.zero ∧ Keeps (fun _ => False) w w' := by
  have HN := hid (fun W => new_any W)
  go_enter Tryz.func4, Tryz.ntmps4
  go_wp2_with fail
  refine (HN.out _).mono ?_
  rintro e w1 ⟨rfl, t1, k1⟩
  have T1 := hid t1
  have K1 := hid k1
  clear t1 k1
  go_wp2_with fail
  refine (HN.out _).mono ?_
  rintro e w2 ⟨rfl, t2, k2⟩
  have hne : w.heap.size ≠ w1.heap.size := by have := T1.out.lt; simp [Rep.zero] at this; omega
  have HS := hid (begun_calls (O := fun k => k < w.heap.size ∨ k = w1.heap.size) (sat_zero (K := [kB]) (T1.out.kept k2 (fun _ _ h => h)) (by omega)) (fun k hk => by
    have z1 := K1.out.size
    have z2 := t2.lt
    simp [Rep.zero] at z2
    omega))
  have T2 := hid t2
  have K2 := hid k2
  clear t2 k2
  go_wp2_with fail
  refine (HS.out).mono ?_
  rintro e w3 ⟨rfl, _, c3⟩
  have HC := hid c3
  clear c3 HS
  go_wp2_with fail
  refine (HC.out).mono ?_
  rintro e w4 ⟨rfl, _, c4⟩
  have HC4 := hid c4
  clear c4 HC
  go_wp2_with fail
  refine (HC4.out).mono ?_
  rintro e w5 ⟨rfl, _, c5⟩
  have HC5 := hid c5
  clear c5 HC4
  go_wp2_with fail
  refine (HC5.out).mono ?_
  rintro e w6 ⟨rfl, _, c6⟩
  have HC6 := hid c6
  clear c6 HC5
  go_wp2_with fail
  refine (HC6.out).mono ?_
  rintro e w7 ⟨rfl, k7⟩
  have K7 := hid k7
  clear k7 HC6
  go_wp2
  go_ret
  have z1 := K1.out.size
  refine ⟨_, rfl, z1, ?_, ?_⟩
  · have h0 : w2.heap[w1.heap.size]? = some (.cells (topCells (Rep.zero w1.heap.size)) 65 (0, 0)) := T2.out.top
    have h1 := (K7.out.block w1.heap.size (Array.getElem?_eq_some_iff.1 h0).1 (fun h => h (.inr rfl))).trans h0
    exact ⟨[w1.heap.size], ⟨Rep.zero w1.heap.size, ⟨storeAt_zero h1, good_zero _, tied_zero _, Int.le_refl _, by simp [Rep.zero], by simp [Rep.zero], by simp [Rep.zero, Rep.total], fun p hp => (by cases hp), by simp [Rep.zero, Rep.pinSum], by simp [Rep.zero], fun p hp => (by cases hp), by simp [Rep.zero]⟩, rfl, rfl, by simp [Rep.zero, Rep.fp, Rep.fpWorks, Rep.fpPast, pcOf, Value.ownBlock]⟩, fun k hk hlt => by simp at hk; omega⟩
  · exact (K1.out.tr K2.out (fun _ h => h)).trans K7.out (fun k hk h => h (.inl hk))

end Go.Proofs.YtpagenipflmlfaaGreatDoor
