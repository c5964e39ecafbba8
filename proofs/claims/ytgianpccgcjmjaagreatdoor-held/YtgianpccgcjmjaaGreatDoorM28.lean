import Derived.Test.YtgianpccgcjmjaaGreatDoorM27

/- A copying: findCopying, goOn. -/
namespace Go.Proofs.YtgianpccgcjmjaaGreatDoor
open Go.RowKit Go.Shelf

attribute [local go_sem] Oper.semAt_some

def Cop.cells (x : Cop) : Array Value := #[.bool x.full, .int .i64 x.from', .int .i64 x.to, .bool x.headed, .string x.next, .int .u32 x.sum, .int .i64 x.count]

set_option maxRecDepth 100000 in
set_option maxHeartbeats 2000000 in
theorem findCopying_any (R : Rep) (n : Int) (w : World) (h : StoreAt w R) :
    Calls Tryz.prog 71 #[.pointer (some ⟨R.sb, 0, none⟩), .int .i64 n] w fun e w' => e = .returned (.tuple #[((look R.copyings n).getD Cop.zero).val, .bool (look R.copyings n).isSome]) ∧ Keeps (fun _ => False) w w' := by
  have hW := h.kept (Keeps.alloc (fun _ => False) w (.cells #[.bool false, .int .i64 0, .int .i64 0, .bool false, .string ⟨#[]⟩, .int .u32 0, .int .i64 0] 95)) (fun _ _ h => h)
  have hlk := hW.works.copyMap.lookup (P := Tryz.prog) (t := 56) intKeyOk Tryz.underlying56 Tryz.underlying3 (Tryz.zeroCop _) n true
  have hsm : (look (R.copyings.map fun p => (p.1, p.2.val)) n).isSome = (look R.copyings n).isSome := by rw [look_map Cop.val]; cases look R.copyings n <;> rfl
  simp only [if_true, cops_look, hsm] at hlk
  have c6 : w.cell? ⟨R.sb, 6, none⟩ = some (.map R.cm) := h.cell 6
  have hlt := h.lt
  clear h hW hsm
  generalize (look R.copyings n).isSome = ok at *
  generalize (look R.copyings n).getD Cop.zero = x at *
  obtain ⟨xf, xa, xt, xh, xn, xs, xc⟩ := x
  simp only [Cop.val] at hlk ⊢
  generalize R.sb = sb at *
  generalize R.cm = cm at *
  go_enter Tryz.func71, Tryz.ntmps71
  go_wp2
  refine bodyPost_ret (v := .tuple #[.agg #[.bool xf, .int .i64 xa, .int .i64 xt, .bool xh, .string xn, .int .u32 xs, .int .i64 xc], .bool ok]) ?_ rfl ?_
  · rw [results_cell_tmp rfl]
    go_simp
  · exact ⟨rfl, ((Keeps.refl _ w).al _).al _⟩

/-- what a copying tells next, whether it is the last, and how it stands behind it; recs: the records that it tells next -/
def goX (x : Cop) (recs : List RecB) : List UInt8 × Bool × Cop :=
  if x.headed = false then (headL x.full x.from'.toNat x.to.toNat, false, { x with headed := true, sum := (ovL x.sum.toNat (headL x.full x.from'.toNat x.to.toNat) : Nat) })
  else if recs = [] then (tailL x.sum.toNat x.count.toNat, true, x)
  else (blockL (recs.map RecB.rec_), false, { x with next := ((recs.getLast?.map RecB.key).getD ByteArray.empty) ++ ⟨#[0]⟩, sum := (ovL x.sum.toNat (blockL (recs.map RecB.rec_)) : Nat), count := x.count + recs.length })

def GoPost (xb : Nat) (r : List UInt8 × Bool × Cop) (w : World) (e : Ending) (w' : World) : Prop :=
  e = .returned (.tuple #[.string (ofL r.1), .bool r.2.1]) ∧ w'.heap[xb]? = some (.cells r.2.2.cells 95 (0, 0)) ∧ Keeps (· = xb) w w'

set_option maxRecDepth 100000 in
set_option maxHeartbeats 2000000 in
theorem goOn_head (sb xb : Nat) (full : Bool) (a b s : Nat) (xn : ByteArray) (c : Int) (w : World) (hx : w.heap[xb]? = some (.cells (Cop.cells ⟨full, a, b, false, xn, s, c⟩) 95 (0, 0))) (ha : a ≤ 1000000000) (hb : b ≤ 1000000000) (hs : s < 4294967296) (ht : TurnsAt w) (hxt : xb ≠ 3) :
    Calls Tryz.prog 72 #[.pointer (some ⟨sb, 0, none⟩), .pointer (some ⟨xb, 0, none⟩)] w (GoPost xb (headL full a b, false, ⟨full, a, b, true, xn, (ovL s (headL full a b) : Nat), c⟩) w) := by
  have hx1 := heap_setCell_same (i := 3) hx (.bool true)
  have hk1 : Keeps (· = xb) w (w.setCell ⟨xb, 3, none⟩ (.bool true)) := Keeps.setCell w ⟨xb, 3, none⟩ (.bool true)
  have x3 := cell_of_heap hx 3
  have f3 := frozen_of_heap hx 3
  simp [Cop.cells] at x3 hx1
  have HH := hid (head_any xb 5 _ _ full a b s (w.setCell ⟨xb, 3, none⟩ (.bool true)).drew (show (w.setCell ⟨xb, 3, none⟩ (.bool true)).drew.heap[xb]? = _ from hx1) (by rfl) hs (by omega) (by omega) ((ht.kept hk1 (fun e => hxt e.symm)).kept (Keeps.drew (fun _ => False) _) (fun h => h)))
  have z0 := cell_of_heap hx1 0
  have z1 := cell_of_heap hx1 1
  have z2 := cell_of_heap hx1 2
  simp at z0 z1 z2
  have HX1 := hid hx1
  have HK1 := hid hk1
  generalize headL full a b = hd at *
  clear hx hx1 ha hb hs ht hk1
  go_enter Tryz.func72, Tryz.ntmps72
  go_wp2_with fail
  generalize w.setCell ⟨xb, 3, none⟩ (.bool true) = w1 at *
  go_region_held3 (fun W => W.cell? ⟨xb, 0, none⟩ = some (.bool full) ∧ W.cell? ⟨xb, 1, none⟩ = some (.int .i64 (a : Nat)) ∧ W.cell? ⟨xb, 2, none⟩ = some (.int .i64 (b : Nat))) (go_keep) (first | (go_at_call 99; refine (HH.out).mono ?_; rintro e w2 ⟨rfl, hx2, hk2⟩; have r0 := cell_of_heap hx2 0; have r1 := cell_of_heap hx2 1; have r2 := cell_of_heap hx2 2; simp at r0 r1 r2))
  clear r0 r1 r2
  go_wp2
  go_ret2
  exact ⟨rfl, by simpa [Cop.cells] using hx2, HK1.out.tr ((Keeps.drew (fun _ => False) w1).mono (fun _ _ h => h.elim) |>.tr hk2 (fun _ h => h)) (fun _ h => h)⟩

set_option maxRecDepth 100000 in
set_option maxHeartbeats 2000000 in
theorem goOn_tail (sb xb : Nat) (full : Bool) (a b s c : Nat) (xn : ByteArray) (w : World) (hx : w.heap[xb]? = some (.cells (Cop.cells ⟨full, a, b, true, xn, s, c⟩) 95 (0, 0))) (hs : s < 4294967296) (hc : c ≤ 1000000000000) (ht : TurnsAt w)
    (htt : Calls Tryz.prog 79 #[.pointer (some ⟨sb, 0, none⟩), (Cop.val ⟨full, a, b, true, xn, s, c⟩), .int .i64 (4 : Nat)] w fun e w' => ∃ v, e = .returned v ∧ Made 139 3 RecB.cells w w' v []) :
    Calls Tryz.prog 72 #[.pointer (some ⟨sb, 0, none⟩), .pointer (some ⟨xb, 0, none⟩)] w (GoPost xb (tailL s c, true, ⟨full, a, b, true, xn, s, c⟩) w) := by
  have x0 := cell_of_heap hx 0
  have x1 := cell_of_heap hx 1
  have x2 := cell_of_heap hx 2
  have x3 := cell_of_heap hx 3
  have x4 := cell_of_heap hx 4
  have x5 := cell_of_heap hx 5
  have x6 := cell_of_heap hx 6
  simp [Cop.cells] at x0 x1 x2 x3 x4 x5 x6
  have HTT := hid htt
  have HX := hid hx
  have HT := hid (fun W (hW : Keeps (fun _ => False) w W) => tail_any xb 5 _ _ s c W ((hW.block xb (Array.getElem?_eq_some_iff.1 hx).1 (fun h => h)).trans hx) (by rfl) (by rfl) hs (by omega) (ht.kept hW (fun h => h)))
  simp only [Cop.val] at HTT
  generalize tailL s c = tx at *
  clear hx hs hc ht htt
  go_enter Tryz.func72, Tryz.ntmps72
  go_wp2_with fail
  refine HTT.out.mono ?_
  rintro e w1 ⟨v1, rfl, hM⟩
  obtain ⟨ob, cb, rfl, -, -⟩ := hM.row.form
  have HM := hid hM
  simp only [List.length_nil]
  clear hM HTT
  go_wp2_with fail
  refine (HT.out _ HM.out.keep).mono ?_
  rintro e w2 ⟨rfl, k2⟩
  go_wp2
  go_ret2
  have kk := HM.out.keep.tr k2 (fun _ h => h)
  exact ⟨rfl, (kk.block xb (Array.getElem?_eq_some_iff.1 HX.out).1 (fun h => h)).trans HX.out, kk.mono (fun _ _ h => h.elim)⟩

set_option maxRecDepth 100000 in
set_option maxHeartbeats 2000000 in
theorem goOn_block (sb xb : Nat) (full : Bool) (a b s c : Nat) (xn : ByteArray) (l : List RecB) (r : RecB) (w : World) (hx : w.heap[xb]? = some (.cells (Cop.cells ⟨full, a, b, true, xn, s, c⟩) 95 (0, 0))) (hs : s < 4294967296) (hc : c ≤ 1000000000000) (ht : TurnsAt w) (hxt : xb ≠ 3)
    (hl : l.length ≤ 3) (hsm : Small (l ++ [r]))
    (htt : Calls Tryz.prog 79 #[.pointer (some ⟨sb, 0, none⟩), (Cop.val ⟨full, a, b, true, xn, s, c⟩), .int .i64 (4 : Nat)] w fun e w' => ∃ v, e = .returned v ∧ Made 139 3 RecB.cells w w' v (l ++ [r])) :
    Calls Tryz.prog 72 #[.pointer (some ⟨sb, 0, none⟩), .pointer (some ⟨xb, 0, none⟩)] w (GoPost xb (blockL ((l ++ [r]).map RecB.rec_), false, ⟨full, a, b, true, r.key ++ ⟨#[0]⟩, (ovL s (blockL ((l ++ [r]).map RecB.rec_)) : Nat), ((c + (l.length + 1) : Nat) : Int)⟩) w) := by
  have x0 := cell_of_heap hx 0
  have x1 := cell_of_heap hx 1
  have x2 := cell_of_heap hx 2
  have x3 := cell_of_heap hx 3
  have x4 := cell_of_heap hx 4
  have x5 := cell_of_heap hx 5
  have x6 := cell_of_heap hx 6
  simp [Cop.cells] at x0 x1 x2 x3 x4 x5 x6
  have hxl := (Array.getElem?_eq_some_iff.1 hx).1
  have HTT := hid htt
  have HX := hid hx
  have hrk := (hsm r (by simp)).1
  have HB := hid (fun W cap g (hk : Keeps (· = xb) w W) (hb : W.heap[xb]? = some (.cells (Cop.cells ⟨full, a, b, true, r.key ++ ⟨#[0]⟩, s, c⟩) 95 (0, 0))) (hr : RecIn W (some ⟨g, 0, none⟩) (l ++ [r])) => block_any xb 5 _ _ s c (some ⟨g, 0, none⟩) cap (l ++ [r]) W hb (by rfl) (by rfl) hs (by omega) (by simp; omega) hr hsm (ht.kept hk (fun e => hxt e.symm)))
  have hln : (l ++ [r]).length = l.length + 1 := by simp
  have hel : (l ++ [r])[l.length]? = some r := by simp
  simp only [Cop.val] at HTT
  simp only [hln] at HB
  generalize blockL ((l ++ [r]).map RecB.rec_) = tx at *
  have HL := hid hl
  have HEL := hid hel
  have HLN := hid hln
  have hlI : (l.length : Int) ≤ 3 := by omega
  clear hx hs hc ht htt hl hsm hel
  go_enter Tryz.func72, Tryz.ntmps72
  go_wp2_with fail
  refine HTT.out.mono ?_
  rintro e w1 ⟨v1, rfl, hM⟩
  have hrow := hM.row
  rw [HLN.out] at hrow
  obtain ⟨g, cap, rfl⟩ := hrow.succ
  have hkc : w1.cell? ⟨g, l.length * 3, none⟩ = some (.string r.key) := by
    have hr2 := hM.row
    rw [← HLN.out] at hr2
    have := hr2.elem RecB.len l.length (by rw [HLN.out]; omega) 0 (by omega)
    simpa [RecB.cells] using this
  have hri : RecIn w1 (some ⟨g, 0, none⟩) (l ++ [r]) := fun i hi => by
    have hr2 := hM.row
    rw [← HLN.out] at hr2
    refine ⟨g, 0, rfl, ?_, ?_, ?_⟩
    · simpa [RecB.cells] using hr2.elem RecB.len i hi 0 (by omega)
    · simpa [RecB.cells] using hr2.elem RecB.len i hi 1 (by omega)
    · simpa [RecB.cells] using hr2.elem RecB.len i hi 2 (by omega)
  have hgx : xb ≠ g := fun e => by
    have := hM.own g rfl
    omega
  have hX1 := (hM.keep.block xb hxl (fun h => h)).trans HX.out
  have y4 := cell_of_heap hX1 4
  have y4f := frozen_of_heap hX1 4
  simp [Cop.cells] at y4
  have HK1 := hid hM.keep
  have HRI := hid hri
  have HX1 := hid hX1
  clear hM hrow HTT hln hri hX1
  generalize l.length = n at *
  go_wp2_with fail
  have hx2 := heap_setCell_same (i := 4) HX1.out (.string (r.key ++ ⟨#[0]⟩))
  have hk2 : Keeps (· = xb) w1 (w1.setCell ⟨xb, 4, none⟩ (.string (r.key ++ ⟨#[0]⟩))) := Keeps.setCell w1 ⟨xb, 4, none⟩ _
  refine (HB.out _ cap g ((HK1.out.mono (fun _ _ h => h.elim)).tr hk2 (fun _ h => h)) (by simpa [Cop.cells] using hx2) (fun i hi => ?_)).mono ?_
  · obtain ⟨g', off, e, h1, h2, h3⟩ := HRI.out i hi
    cases e
    exact ⟨g, 0, rfl, hk2.cell h1 (fun e => hgx e.symm), hk2.cell h2 (fun e => hgx e.symm), hk2.cell h3 (fun e => hgx e.symm)⟩
  rintro e w3 ⟨rfl, hx3, hk3⟩
  clear x0 x1 x2 x3 x4 x5 x6
  go_wp2
  go_ret2
  refine ⟨rfl, by simpa [Cop.cells] using hx3, ((HK1.out.mono (fun _ _ h => h.elim)).tr hk2 (fun _ h => h)).tr hk3 (fun _ h => h)⟩

end Go.Proofs.YtgianpccgcjmjaaGreatDoor

/- A copying: Start. -/
namespace Go.Proofs.YtgianpccgcjmjaaGreatDoor
open Go.RowKit Go.Shelf

attribute [local go_sem] Oper.semAt_some

/-- what Start leaves -/
def StartPost (R : Rep) (x : Cop) (w w' : World) : Prop :=
  ∃ cm, StoreAt w' { R with cm := cm, started := R.started + 1, copyings := R.copyings ++ [(R.started + 1, x)] } ∧ Keeps (· ∈ R.fp) w w' ∧ (cm = R.cm ∨ ∃ q, cm = some q ∧ w.heap.size ≤ q)

/-- how things stand when the number of the new copying is about to be given: q is the map of the copyings -/
structure StaAt (R : Rep) (x : Cop) (q : Nat) (fs : List Value) (C : List Nat) (w W : World) : Prop where
  st : StoreAt W { R with cm := some q }
  chg : Chg W (w.heap.size + 1) fs C
  out : ∀ k ∈ C, k ∉ R.fp ∧ w.heap.size < k ∧ k ≠ q ∧ k ≠ w.heap.size + 1 + 1 ∧ k < W.heap.size
  keep : Keeps (fun k => k = R.sb) w W
  err : W.heap[w.heap.size]? = some (.cells #[.int .i64 0] 34 (0, 0))
  cop : W.heap[w.heap.size + 1 + 1]? = some (.cells #[.bool x.full, .int .i64 x.from', .int .i64 x.to, .bool x.headed, .string x.next, .int .u32 x.sum, .int .i64 x.count] 95 (0, 0))
  few : fs.length ≤ 1
  new : R.cm = some q ∨ R.cm = none ∧ w.heap.size + 1 + 1 < q
  old : ∀ k ∈ R.fp, k < w.heap.size

theorem StaAt.fp {R : Rep} {x : Cop} {q : Nat} {fs : List Value} {C : List Nat} {w W : World} (h : StaAt R x q fs C w W) : ∀ k ∈ Rep.fp { R with cm := some q }, k ∈ R.fp ∨ k = q := fun k hk => by
  rcases h.new with e | ⟨e, -⟩
  · rw [← e] at hk
    exact .inl hk
  · rcases List.mem_cons.1 ((fp_cm e _).mem_iff.1 hk) with e | h
    · exact .inr e
    · exact .inl h
theorem StaAt.qsb {R : Rep} {x : Cop} {q : Nat} {fs : List Value} {C : List Nat} {w W : World} (h : StaAt R x q fs C w W) : R.sb ≠ q := fun e => by
  have hnd := (fp_split { R with cm := some q }).nodup_iff.1 h.st.nodup
  rw [List.nodup_cons] at hnd
  exact hnd.1 (List.mem_append_left _ (by rw [e]; simp [pcOf]))
theorem StaAt.q3 {R : Rep} {x : Cop} {q : Nat} {fs : List Value} {C : List Nat} {w W : World} (h : StaAt R x q fs C w W) : q ≠ w.heap.size ∧ q ≠ w.heap.size + 1 + 1 := by
  rcases h.new with e | ⟨e, h1⟩
  · have := h.old q ((fp_split R).mem_iff.2 (List.mem_cons_of_mem _ (List.mem_append_left _ (by simp [pcOf, e]))))
    omega
  · omega

/-- .. and when it has been -/
theorem StaAt.numbered {R : Rep} {x : Cop} {q : Nat} {fs fs' : List Value} {C C' : List Nat} {w W W' : World} {n : Int} (h : StaAt R x q fs C w W) (hk : Keeps (fun k => k ∈ C ∨ k = R.sb) W W') (hC : Chg W' (w.heap.size + 1) fs' C') (hC' : ∀ k ∈ C', k ∈ C ∨ W.heap.size ≤ k) (hb : W'.heap[R.sb]? = (W.setCell ⟨R.sb, 5, none⟩ (.int .i64 n)).heap[R.sb]?) :
    StoreAt W' { R with cm := some q, started := n } ∧ (∀ k ∈ C', k ∉ R.fp ∧ w.heap.size < k ∧ k ≠ q ∧ k ≠ w.heap.size + 1 + 1 ∧ k < W'.heap.size) ∧ Keeps (fun k => k = R.sb) w W' ∧ W'.heap[w.heap.size]? = some (.cells #[.int .i64 0] 34 (0, 0)) ∧ W'.heap[w.heap.size + 1 + 1]? = some (.cells #[.bool x.full, .int .i64 x.from', .int .i64 x.to, .bool x.headed, .string x.next, .int .u32 x.sum, .int .i64 x.count] 95 (0, 0)) := by
  have hsb := h.old R.sb (by simp [Rep.fp])
  have l0 := (Array.getElem?_eq_some_iff.1 h.err).1
  have l2 := (Array.getElem?_eq_some_iff.1 h.cop).1
  have hq : q < W.heap.size := fp_lt h.st q ((fp_split _).mem_iff.2 (List.mem_cons_of_mem _ (List.mem_append_left _ (by simp [pcOf]))))
  refine ⟨StoreAt.startSet (R := { R with cm := some q }) h.st hk (fun k hk' hf => ?_) hb, fun k hk' => ?_, h.keep.trans hk (fun k hk' hc => ?_), (hk.block _ l0 ?_).trans h.err, (hk.block _ l2 ?_).trans h.cop⟩
  · obtain ⟨a1, a2, a3, a4, a5⟩ := h.out k hk'
    rcases h.fp k hf with h1 | h1
    · exact a1 h1
    · exact a3 h1
  · have hl := hC.lt k hk'
    rcases hC' k hk' with h1 | h1
    · obtain ⟨a1, a2, a3, a4, a5⟩ := h.out k h1
      exact ⟨a1, a2, a3, a4, hl⟩
    · exact ⟨fun hf => by have := h.old k hf; omega, by omega, by omega, by omega, hl⟩
  · rcases hc with hc | hc
    · have := (h.out k hc).2.1; omega
    · exact hc
  · rintro (hc | hc)
    · exact absurd (h.out _ hc).2.1 (by omega)
    · omega
  · rintro (hc | hc)
    · exact (h.out _ hc).2.2.2.1 rfl
    · omega

set_option maxRecDepth 100000 in
set_option maxHeartbeats 4000000 in
theorem start_some (R : Rep) (full : Bool) (a b : Int) (w : World) (h : StoreAt w R) (g : Good R) (hr : Rises R.keys) (hl : R.keys.length ≤ 200000000000) (hc4 : R.copyings.length ≤ 4)
    (hj : judgeI (decide (R.floor ≤ b) && decide (b ≤ R.now)) (decide (R.floor ≤ a) && decide (a ≤ R.now)) R.copyings.length (tellL R.keys (versOf R.hist) (Cop.new full a b)).length (Cop.new full a b) = 0) (hs1 : 0 ≤ R.started) (hs2 : R.started < 1152921504606846976) (hn : look R.copyings (R.started + 1) = none) (q : Nat) (hcm : R.cm = some q) :
    Calls Tryz.prog 14 #[.pointer (some ⟨R.sb, 0, none⟩), .bool full, .int .i64 a, .int .i64 b] w fun e w' => e = .returned (.tuple #[.int .i64 (R.started + 1), .int .i64 0]) ∧ StartPost R (Cop.new full a b) w w' := by
  have hmf : ∀ (fn : Fn) (first cap : Array Value) (w : World), (Instr.makeFunc fn first cap).run Tryz.prog w = .ok (.func fn first cap) w := fun _ _ _ _ => rfl
  have HJ : Hid (∀ W, Keeps (fun _ => False) w W → Calls Tryz.prog 44 #[.pointer (some ⟨R.sb, 0, none⟩), .agg #[.bool full, .int .i64 a, .int .i64 b, .bool false, .string ByteArray.empty, .int .u32 0, .int .i64 0]] W fun e w' => e = .returned (.int .i64 0) ∧ Keeps (fun _ => False) W w') := fun W hW => by
    have := judge2_any R (Cop.new full a b) W (h.kept hW (fun _ _ h => h)) g hr hl hc4
    rw [show (Cop.new full a b).to = b from rfl, show (Cop.new full a b).from' = a from rfl, hj] at this
    exact this
  have hlt := h.lt
  have HWR : Hid (IntKind.i64.wrap (R.started + 1) = R.started + 1) := IntWalk.i64_in _ ⟨by omega, by omega⟩
  have HLK : Hid (look R.copyings (R.started + 1) = none) := hn
  have HST := hid h
  have HCM := hid hcm
  have hflt := fp_lt h
  have hem := eqMapC_some
  have c6 : Hid (∀ W, Keeps (fun _ => False) w W → W.cell? ⟨R.sb, 6, none⟩ = some (.map (some q))) := fun W hW => ((h.kept hW (fun _ _ h => h)).cell 6).trans (by rw [← hcm]; rfl)
  clear h g hr hl hc4 hj hcm hn
  go_enter_defers Tryz.func14, Tryz.ntmps14
  go_wp2_with fail
  refine (HJ.out _ ((((Keeps.refl (fun _ => False) w).al _).al _).al _)).mono ?_
  rintro e w0 ⟨rfl, k0⟩
  have kw0 : Keeps (fun _ => False) w w0 := ((((Keeps.refl (fun _ => False) w).al _).al _).al _).tr k0 (fun _ h => h)
  have HSA : Hid (StaAt R (Cop.new full a b) q [] [w.heap.size + 1] w w0) := by
    refine ⟨?_, ?_, fun k hk => ?_, kw0.mono (fun _ _ h => h.elim), ((k0.block w.heap.size (by simp; omega) (fun h => h)).trans (Below.heap_alloc _ _ _ (by simp; omega))).trans ((Below.heap_alloc _ _ _ (by simp)).trans (heap_new w _)), ?_, by simp, .inl HCM.out, hflt⟩
    · have := HST.out.kept kw0 (fun _ _ h => h)
      rw [← HCM.out]
      exact this
    · exact ((chg_new w (.cells #[.int .i64 0] 34)).kept (Keeps.alloc (fun _ => False) _ _) (fun _ _ h => h)).kept k0 (fun _ _ h => h)
    · simp at hk
      subst hk
      have hz := k0.size
      simp at hz
      refine ⟨fun hf => by have := hflt _ hf; omega, by omega, fun e => ?_, by omega, by omega⟩
      have := hflt q ((fp_split R).mem_iff.2 (List.mem_cons_of_mem _ (List.mem_append_left _ (by simp [pcOf, HCM.out]))))
      omega
    · have := heap_new ((w.alloc (.cells #[.int .i64 0] 34)).alloc (.cells #[.slice none 0 0] 67)) (.cells #[.bool full, .int .i64 a, .int .i64 b, .bool false, .string ByteArray.empty, .int .u32 0, .int .i64 0] 95)
      rw [show ((w.alloc (.cells #[.int .i64 0] 34)).alloc (.cells #[.slice none 0 0] 67)).heap.size = w.heap.size + 1 + 1 by simp] at this
      exact (k0.block (w.heap.size + 1 + 1) (by simp) (fun h => h)).trans this
  have d6 := c6.out _ kw0
  obtain ⟨fs0, hfs⟩ : ∃ fs0 : List Value, fs0 = [] := ⟨_, rfl⟩
  obtain ⟨C0, hC0⟩ : ∃ C0, C0 = [w.heap.size + 1] := ⟨_, rfl⟩
  rw [← hfs, ← hC0] at HSA
  clear hfs hC0 k0 kw0 c6
  go_wp2_with fail
  obtain ⟨n0, hn0⟩ : ∃ n0, n0 = R.started := ⟨_, rfl⟩
  have HA := hid (assign_int (w.heap.size + 1) fs0 C0 R.sb 5 R.started (IntKind.i64.wrap (R.started + 1)) w0.drew (HSA.out.chg.kept (Keeps.drew (fun _ => False) _) (fun _ _ h => h)) ((HSA.out.st.kept (Keeps.drew (fun _ => False) _) (fun _ _ h => h)).cell 5) ((HSA.out.st.kept (Keeps.drew (fun _ => False) _) (fun _ _ h => h)).frozen 5) (fun hc => (HSA.out.out _ hc).1 (by simp [Rep.fp])) (by have := HSA.out.few; omega))
  have k5 : w0.cell? ⟨R.sb, 5, none⟩ = some (.int .i64 R.started) := HSA.out.st.cell 5
  refine wp_normal ?_
  go_region_with (go_at_call 35; refine (HA.out).mono ?_; rintro e w1 ⟨rfl, fs1, C1, hf1, hC1, hk1, hC1', hb1⟩; rw [HWR.out] at hb1; have HB1 := hid hb1; clear hb1)
  obtain ⟨s1, o1, kp1, e1, x1⟩ := HSA.out.numbered ((Keeps.drew (fun _ => False) w0 |>.mono (fun _ _ h => h.elim)).tr hk1 (fun _ h => h)) hC1 (fun k hk => hC1' k hk) HB1.out
  have g5 : w1.cell? ⟨R.sb, 5, none⟩ = some (.int .i64 (R.started + 1)) := s1.cell 5
  have g6 : w1.cell? ⟨R.sb, 6, none⟩ = some (.map (some q)) := s1.cell 6
  have gM : MapAt (Value.int .i64) w1 q (R.copyings.map fun p => (p.1, p.2.val)) := s1.works.copyMap
  have hqs := HSA.out.qsb
  have HSB : Hid (¬ (R.sb ∈ C1 ∨ R.sb = q)) := fun h' => h'.elim (fun hc => (o1 _ hc).1 (by simp [Rep.fp])) (fun e => hqs e)
  have HXB : Hid (¬ (w.heap.size + 1 + 1 ∈ C1 ∨ w.heap.size + 1 + 1 = q)) := fun h' => h'.elim (fun hc => (o1 _ hc).2.2.2.1 rfl) (fun e => HSA.out.q3.2 e.symm)
  have HE := hid (enter_cop (w.heap.size + 1) fs1 C1 q (R.started + 1) _ ((look R.copyings (R.started + 1)).getD Cop.zero) (Cop.new full a b) w1.drew (hC1.kept (Keeps.drew (fun _ => False) _) (fun _ _ h => h)) (gM.kept (Keeps.drew (fun _ => False) _) (fun h => h)) (cops_look _ _) (fun hc => (o1 _ hc).2.2.1 rfl) (by have := HSA.out.few; rw [hf1]; omega))
  have z0 := cell_of_heap x1 0
  have z1 := cell_of_heap x1 1
  have z2 := cell_of_heap x1 2
  have z3 := cell_of_heap x1 3
  have z4 := cell_of_heap x1 4
  have z5 := cell_of_heap x1 5
  have z6 := cell_of_heap x1 6
  simp [Cop.new] at z0 z1 z2 z3 z4 z5 z6
  replace z4 : w1.cell? ⟨w.heap.size + 1 + 1, 4, none⟩ = some (.string { data := #[] }) := z4
  have HX1 := hid x1
  have HS1 := hid s1
  have HO1 := hid o1
  have HKP1 := hid kp1
  have HE1 := hid e1
  clear x1 s1 o1 kp1 e1 gM k5 hk1 hC1' HA
  simp only [Cop.val, Cop.new] at HE
  go_wp2_with fail
  go_region_held3 (fun W => W.cell? ⟨R.sb, 5, none⟩ = some (.int .i64 (R.started + 1)) ∧ W.cell? ⟨R.sb, 6, none⟩ = some (.map (some q)) ∧ W.cell? ⟨w.heap.size + 1 + 1, 0, none⟩ = some (.bool full) ∧ W.cell? ⟨w.heap.size + 1 + 1, 1, none⟩ = some (.int .i64 a) ∧ W.cell? ⟨w.heap.size + 1 + 1, 2, none⟩ = some (.int .i64 b) ∧ W.cell? ⟨w.heap.size + 1 + 1, 3, none⟩ = some (.bool false) ∧ W.cell? ⟨w.heap.size + 1 + 1, 4, none⟩ = some (.string { data := #[] }) ∧ W.cell? ⟨w.heap.size + 1 + 1, 5, none⟩ = some (.int .u32 0) ∧ W.cell? ⟨w.heap.size + 1 + 1, 6, none⟩ = some (.int .i64 0)) (go_keep) (first | (go_at_call 46; refine (HE.out).mono ?_; rintro e w2 ⟨rfl, fs2, C2, hf2, hC2, hk2, hC2', hm2⟩; have q5 := hk2.cell (p := ⟨R.sb, 5, none⟩) ((Keeps.drew (fun _ => False) w1).cell g5 (fun h => h)) HSB.out; have q6 := hk2.cell (p := ⟨R.sb, 6, none⟩) ((Keeps.drew (fun _ => False) w1).cell g6 (fun h => h)) HSB.out; have r0 := hk2.cell (p := ⟨w.heap.size + 1 + 1, 0, none⟩) ((Keeps.drew (fun _ => False) w1).cell z0 (fun h => h)) HXB.out; have r1 := hk2.cell (p := ⟨w.heap.size + 1 + 1, 1, none⟩) ((Keeps.drew (fun _ => False) w1).cell z1 (fun h => h)) HXB.out; have r2 := hk2.cell (p := ⟨w.heap.size + 1 + 1, 2, none⟩) ((Keeps.drew (fun _ => False) w1).cell z2 (fun h => h)) HXB.out; have r3 := hk2.cell (p := ⟨w.heap.size + 1 + 1, 3, none⟩) ((Keeps.drew (fun _ => False) w1).cell z3 (fun h => h)) HXB.out; have r4 := hk2.cell (p := ⟨w.heap.size + 1 + 1, 4, none⟩) ((Keeps.drew (fun _ => False) w1).cell z4 (fun h => h)) HXB.out; have r5 := hk2.cell (p := ⟨w.heap.size + 1 + 1, 5, none⟩) ((Keeps.drew (fun _ => False) w1).cell z5 (fun h => h)) HXB.out; have r6 := hk2.cell (p := ⟨w.heap.size + 1 + 1, 6, none⟩) ((Keeps.drew (fun _ => False) w1).cell z6 (fun h => h)) HXB.out))
  have hE0 : w2.heap[w.heap.size]? = some (.cells #[.int .i64 0] 34 (0, 0)) := by
    rw [hk2.block w.heap.size (by have := (Array.getElem?_eq_some_iff.1 HE1.out).1; exact this) (by rintro (hc | hc); exact absurd (HO1.out _ hc).2.1 (by omega); exact HSA.out.q3.1 hc.symm)]
    exact HE1.out
  have y0 : w2.cell? ⟨w.heap.size, 0, none⟩ = some (.int .i64 0) := cell_of_heap hE0 0
  have y1 : w2.frozen? ⟨w.heap.size, 0, none⟩ = false := frozen_of_heap hE0 0
  have HE0 := hid hE0
  have HM2 := hid hm2
  have HK2 := hid hk2
  clear r0 r1 r2 r3 r4 r5 r6 q6
  clear hE0 hm2 hk2 z0 z1 z2 z3 z4 z5 z6 g5 g6 HE
  go_wp2
  refine leaves_cons (f := 43) (args := #[.pointer (some ⟨w.heap.size + 1, 0, none⟩), .pointer (some ⟨w.heap.size, 0, none⟩)]) (by simp) (by simp [go_sem]) ?_
  have hE2 := heap_setCell_same (i := 0) HE0.out (.int .i64 0)
  refine (start1_ok (w.heap.size + 1) w.heap.size _ ?_).mono ?_
  · exact cell_of_heap hE2 0
  rintro e u' w'' ⟨rfl, rfl, rfl⟩
  have hpost : StartPost R (Cop.new full a b) w (w2.setCell ⟨w.heap.size, 0, none⟩ (.int .i64 0)) := by
    have hm : MapAt (Value.int .i64) w2 q (put (R.copyings.map fun p => (p.1, p.2.val)) (R.started + 1) (Cop.new full a b).val) := HM2.out
    rw [cops_put, put_none HLK.out] at hm
    have s2 := (HS1.out.kept (Keeps.drew (fun _ => False) _) (fun _ _ h => h)).coped (b := q) rfl HK2.out (fun k hk hf => by
      obtain ⟨a1, a2, a3, a4, a5⟩ := HO1.out k hk
      rcases HSA.out.fp k hf with h | h
      · exact a1 h
      · exact a3 h) hm
    refine ⟨some q, s2.kept (Keeps.setCell _ _ _) (fun k hk e => ?_), ?_, ?_⟩
    · have e' : k = w.heap.size := e
      rcases HSA.out.fp k hk with h | h
      · have := HSA.out.old k h
        omega
      · exact HSA.out.q3.1 (by omega)
    · refine ((HKP1.out.mono (T := (· ∈ R.fp)) (fun k _ h => by rw [h]; simp [Rep.fp])).trans ((Keeps.drew (fun _ => False) w1).mono (T := fun k => k ∈ C1 ∨ k = q) (fun _ _ h => h.elim) |>.tr HK2.out (fun _ h => h)) (fun k hk h => ?_)).st (.inl (Nat.le_refl _)) _
      rcases h with h | h
      · have := (HO1.out k h).2.1; omega
      · rcases HSA.out.new with e | ⟨e, h1⟩
        · rw [h]
          exact (fp_split R).mem_iff.2 (List.mem_cons_of_mem _ (List.mem_append_left _ (by simp [pcOf, e])))
        · omega
    · rcases HSA.out.new with e | ⟨e, h1⟩
      · exact .inl e.symm
      · exact .inr ⟨q, rfl, by omega⟩
  have hb := cell_of_heap hE2 0
  generalize w2.setCell ⟨w.heap.size, 0, none⟩ (.int .i64 0) = W3 at hpost hb
  simp at hb
  simp [Leaves, settle, results, Tryz.results14, go_sem, hb]
  exact hpost

set_option maxRecDepth 100000 in
set_option maxHeartbeats 4000000 in
theorem start_new (R : Rep) (full : Bool) (a b : Int) (w : World) (h : StoreAt w R) (g : Good R) (hr : Rises R.keys) (hl : R.keys.length ≤ 200000000000) (hc4 : R.copyings.length ≤ 4)
    (hj : judgeI (decide (R.floor ≤ b) && decide (b ≤ R.now)) (decide (R.floor ≤ a) && decide (a ≤ R.now)) R.copyings.length (tellL R.keys (versOf R.hist) (Cop.new full a b)).length (Cop.new full a b) = 0) (hs1 : 0 ≤ R.started) (hs2 : R.started < 1152921504606846976) (hn : look R.copyings (R.started + 1) = none) (hcm : R.cm = none) :
    Calls Tryz.prog 14 #[.pointer (some ⟨R.sb, 0, none⟩), .bool full, .int .i64 a, .int .i64 b] w fun e w' => e = .returned (.tuple #[.int .i64 (R.started + 1), .int .i64 0]) ∧ StartPost R (Cop.new full a b) w w' := by
  have hmf : ∀ (fn : Fn) (first cap : Array Value) (w : World), (Instr.makeFunc fn first cap).run Tryz.prog w = .ok (.func fn first cap) w := fun _ _ _ _ => rfl
  have HJ : Hid (∀ W, Keeps (fun _ => False) w W → Calls Tryz.prog 44 #[.pointer (some ⟨R.sb, 0, none⟩), .agg #[.bool full, .int .i64 a, .int .i64 b, .bool false, .string ByteArray.empty, .int .u32 0, .int .i64 0]] W fun e w' => e = .returned (.int .i64 0) ∧ Keeps (fun _ => False) W w') := fun W hW => by
    have := judge2_any R (Cop.new full a b) W (h.kept hW (fun _ _ h => h)) g hr hl hc4
    rw [show (Cop.new full a b).to = b from rfl, show (Cop.new full a b).from' = a from rfl, hj] at this
    exact this
  have hlt := h.lt
  have HWR : Hid (IntKind.i64.wrap (R.started + 1) = R.started + 1) := IntWalk.i64_in _ ⟨by omega, by omega⟩
  have HLK : Hid (look R.copyings (R.started + 1) = none) := hn
  have HST := hid h
  have HCM := hid hcm
  have hflt := fp_lt h
  have hem := eqMapC_none
  have hmm := @run_makeMap Tryz.prog
  have c6 : Hid (∀ W, Keeps (fun _ => False) w W → W.cell? ⟨R.sb, 6, none⟩ = some (.map none)) := fun W hW => ((h.kept hW (fun _ _ h => h)).cell 6).trans (by rw [← hcm]; rfl)
  clear h g hr hl hc4 hj hcm hn
  go_enter_defers Tryz.func14, Tryz.ntmps14
  go_wp2_with fail
  refine (HJ.out _ ((((Keeps.refl (fun _ => False) w).al _).al _).al _)).mono ?_
  rintro e wj ⟨rfl, k0⟩
  have kwj : Keeps (fun _ => False) w wj := ((((Keeps.refl (fun _ => False) w).al _).al _).al _).tr k0 (fun _ h => h)
  have hj0 : wj.heap[w.heap.size]? = some (.cells #[.int .i64 0] 34 (0, 0)) := ((k0.block w.heap.size (by simp; omega) (fun h => h)).trans (Below.heap_alloc _ _ _ (by simp; omega))).trans ((Below.heap_alloc _ _ _ (by simp)).trans (heap_new w _))
  have hj2 : wj.heap[w.heap.size + 1 + 1]? = some (.cells #[.bool full, .int .i64 a, .int .i64 b, .bool false, .string ByteArray.empty, .int .u32 0, .int .i64 0] 95 (0, 0)) := by
    have := heap_new ((w.alloc (.cells #[.int .i64 0] 34)).alloc (.cells #[.slice none 0 0] 67)) (.cells #[.bool full, .int .i64 a, .int .i64 b, .bool false, .string ByteArray.empty, .int .u32 0, .int .i64 0] 95)
    rw [show ((w.alloc (.cells #[.int .i64 0] 34)).alloc (.cells #[.slice none 0 0] 67)).heap.size = w.heap.size + 1 + 1 by simp] at this
    exact (k0.block (w.heap.size + 1 + 1) (by simp) (fun h => h)).trans this
  have hjc : Chg wj (w.heap.size + 1) [] [w.heap.size + 1] := ((chg_new w (.cells #[.int .i64 0] 34)).kept (Keeps.alloc (fun _ => False) _ _) (fun _ _ h => h)).kept k0 (fun _ _ h => h)
  have hjz : w.heap.size + 3 ≤ wj.heap.size := by have := k0.size; simp at this; omega
  have d6 := c6.out _ kwj
  have hWm := HST.out.kept (kwj.al (.map #[] 0)) (fun _ _ h => h)
  have HAS := hid (assign_cops (w.heap.size + 1) [] [w.heap.size + 1] R.sb 6 none (some wj.heap.size) (wj.alloc (.map #[] 0)) (hjc.kept (Keeps.alloc (fun _ => False) _ _) (fun _ _ h => h)) (c6.out _ (kwj.al _)) (hWm.frozen 6) (by simp; omega) (by simp))
  have HWM := hid hWm
  have HJ0 := hid hj0
  have HJ2 := hid hj2
  have HKJ := hid kwj
  clear k0 kwj c6 hj0 hj2 hWm hjc
  go_wp2_with (go_at_call 45; go_must (refine (HAS.out).mono ?_; rintro e w0 ⟨rfl, fs0, C0, hf0, hC0, hk0, hC0', hb0⟩; have HB0 := hid hb0; clear hb0))
  obtain ⟨q, hq⟩ : ∃ q, q = wj.heap.size := ⟨_, rfl⟩
  have HSA : Hid (StaAt R (Cop.new full a b) q fs0 C0 w w0) := by
    have hq0 : MapAt (Value.int .i64) (wj.alloc (.map #[] 0)) wj.heap.size [] := MapAt.made (Value.int .i64) wj
    have hqf : wj.heap.size ∉ R.fp := fun hf => by have := hflt _ hf; omega
    have hout : ∀ k ∈ C0, k = w.heap.size + 1 ∨ wj.heap.size + 1 ≤ k := fun k hk => by
      rcases hC0' k hk with h' | h'
      · simp at h'; exact .inl h'
      · simp at h'; exact .inr h'
    subst hq
    refine ⟨HWM.out.copsMade HCM.out hk0 (fun k hk hf => by have := hflt k hf; simp at hk; omega) hq0 (by simp; omega) hqf HB0.out, hC0, fun k hk => ?_, ?_, ?_, ?_, by rw [hf0]; simp, .inr ⟨HCM.out, by omega⟩, hflt⟩
    · have hl0 := hC0.lt k hk
      rcases hout k hk with h' | h'
      · exact ⟨fun hf => by have := hflt k hf; omega, by omega, by omega, by omega, hl0⟩
      · exact ⟨fun hf => by have := hflt k hf; omega, by omega, by omega, by omega, hl0⟩
    · exact ((HKJ.out.al _).mono (fun _ _ h => h.elim)).trans hk0 (fun k hk h => by
        rcases h with h | h
        · simp at h; omega
        · exact h)
    · exact ((hk0.block w.heap.size (by simp; omega) (by rintro (hc | hc); (simp at hc); omega)).trans (Below.heap_alloc _ _ _ (by omega))).trans HJ0.out
    · exact ((hk0.block (w.heap.size + 1 + 1) (by simp; omega) (by rintro (hc | hc); (simp at hc); omega)).trans (Below.heap_alloc _ _ _ (by omega))).trans HJ2.out
  rw [← hq] at *
  clear hC0 hk0 hC0' HB0 HAS HWM d6 hjz hf0
  go_wp2_with fail
  obtain ⟨n0, hn0⟩ : ∃ n0, n0 = R.started := ⟨_, rfl⟩
  have HA := hid (assign_int (w.heap.size + 1) fs0 C0 R.sb 5 R.started (IntKind.i64.wrap (R.started + 1)) w0.drew (HSA.out.chg.kept (Keeps.drew (fun _ => False) _) (fun _ _ h => h)) ((HSA.out.st.kept (Keeps.drew (fun _ => False) _) (fun _ _ h => h)).cell 5) ((HSA.out.st.kept (Keeps.drew (fun _ => False) _) (fun _ _ h => h)).frozen 5) (fun hc => (HSA.out.out _ hc).1 (by simp [Rep.fp])) (by have := HSA.out.few; omega))
  have k5 : w0.cell? ⟨R.sb, 5, none⟩ = some (.int .i64 R.started) := HSA.out.st.cell 5
  refine wp_normal ?_
  go_region_with (go_at_call 35; refine (HA.out).mono ?_; rintro e w1 ⟨rfl, fs1, C1, hf1, hC1, hk1, hC1', hb1⟩; rw [HWR.out] at hb1; have HB1 := hid hb1; clear hb1)
  obtain ⟨s1, o1, kp1, e1, x1⟩ := HSA.out.numbered ((Keeps.drew (fun _ => False) w0 |>.mono (fun _ _ h => h.elim)).tr hk1 (fun _ h => h)) hC1 (fun k hk => hC1' k hk) HB1.out
  have g5 : w1.cell? ⟨R.sb, 5, none⟩ = some (.int .i64 (R.started + 1)) := s1.cell 5
  have g6 : w1.cell? ⟨R.sb, 6, none⟩ = some (.map (some q)) := s1.cell 6
  have gM : MapAt (Value.int .i64) w1 q (R.copyings.map fun p => (p.1, p.2.val)) := s1.works.copyMap
  have hqs := HSA.out.qsb
  have HSB : Hid (¬ (R.sb ∈ C1 ∨ R.sb = q)) := fun h' => h'.elim (fun hc => (o1 _ hc).1 (by simp [Rep.fp])) (fun e => hqs e)
  have HXB : Hid (¬ (w.heap.size + 1 + 1 ∈ C1 ∨ w.heap.size + 1 + 1 = q)) := fun h' => h'.elim (fun hc => (o1 _ hc).2.2.2.1 rfl) (fun e => HSA.out.q3.2 e.symm)
  have HE := hid (enter_cop (w.heap.size + 1) fs1 C1 q (R.started + 1) _ ((look R.copyings (R.started + 1)).getD Cop.zero) (Cop.new full a b) w1.drew (hC1.kept (Keeps.drew (fun _ => False) _) (fun _ _ h => h)) (gM.kept (Keeps.drew (fun _ => False) _) (fun h => h)) (cops_look _ _) (fun hc => (o1 _ hc).2.2.1 rfl) (by have := HSA.out.few; rw [hf1]; omega))
  have z0 := cell_of_heap x1 0
  have z1 := cell_of_heap x1 1
  have z2 := cell_of_heap x1 2
  have z3 := cell_of_heap x1 3
  have z4 := cell_of_heap x1 4
  have z5 := cell_of_heap x1 5
  have z6 := cell_of_heap x1 6
  simp [Cop.new] at z0 z1 z2 z3 z4 z5 z6
  replace z4 : w1.cell? ⟨w.heap.size + 1 + 1, 4, none⟩ = some (.string { data := #[] }) := z4
  have HX1 := hid x1
  have HS1 := hid s1
  have HO1 := hid o1
  have HKP1 := hid kp1
  have HE1 := hid e1
  clear x1 s1 o1 kp1 e1 gM k5 hk1 hC1' HA
  simp only [Cop.val, Cop.new] at HE
  go_wp2_with fail
  go_region_held3 (fun W => W.cell? ⟨R.sb, 5, none⟩ = some (.int .i64 (R.started + 1)) ∧ W.cell? ⟨R.sb, 6, none⟩ = some (.map (some q)) ∧ W.cell? ⟨w.heap.size + 1 + 1, 0, none⟩ = some (.bool full) ∧ W.cell? ⟨w.heap.size + 1 + 1, 1, none⟩ = some (.int .i64 a) ∧ W.cell? ⟨w.heap.size + 1 + 1, 2, none⟩ = some (.int .i64 b) ∧ W.cell? ⟨w.heap.size + 1 + 1, 3, none⟩ = some (.bool false) ∧ W.cell? ⟨w.heap.size + 1 + 1, 4, none⟩ = some (.string { data := #[] }) ∧ W.cell? ⟨w.heap.size + 1 + 1, 5, none⟩ = some (.int .u32 0) ∧ W.cell? ⟨w.heap.size + 1 + 1, 6, none⟩ = some (.int .i64 0)) (go_keep) (first | (go_at_call 46; refine (HE.out).mono ?_; rintro e w2 ⟨rfl, fs2, C2, hf2, hC2, hk2, hC2', hm2⟩; have q5 := hk2.cell (p := ⟨R.sb, 5, none⟩) ((Keeps.drew (fun _ => False) w1).cell g5 (fun h => h)) HSB.out; have q6 := hk2.cell (p := ⟨R.sb, 6, none⟩) ((Keeps.drew (fun _ => False) w1).cell g6 (fun h => h)) HSB.out; have r0 := hk2.cell (p := ⟨w.heap.size + 1 + 1, 0, none⟩) ((Keeps.drew (fun _ => False) w1).cell z0 (fun h => h)) HXB.out; have r1 := hk2.cell (p := ⟨w.heap.size + 1 + 1, 1, none⟩) ((Keeps.drew (fun _ => False) w1).cell z1 (fun h => h)) HXB.out; have r2 := hk2.cell (p := ⟨w.heap.size + 1 + 1, 2, none⟩) ((Keeps.drew (fun _ => False) w1).cell z2 (fun h => h)) HXB.out; have r3 := hk2.cell (p := ⟨w.heap.size + 1 + 1, 3, none⟩) ((Keeps.drew (fun _ => False) w1).cell z3 (fun h => h)) HXB.out; have r4 := hk2.cell (p := ⟨w.heap.size + 1 + 1, 4, none⟩) ((Keeps.drew (fun _ => False) w1).cell z4 (fun h => h)) HXB.out; have r5 := hk2.cell (p := ⟨w.heap.size + 1 + 1, 5, none⟩) ((Keeps.drew (fun _ => False) w1).cell z5 (fun h => h)) HXB.out; have r6 := hk2.cell (p := ⟨w.heap.size + 1 + 1, 6, none⟩) ((Keeps.drew (fun _ => False) w1).cell z6 (fun h => h)) HXB.out))
  have hE0 : w2.heap[w.heap.size]? = some (.cells #[.int .i64 0] 34 (0, 0)) := by
    rw [hk2.block w.heap.size (by have := (Array.getElem?_eq_some_iff.1 HE1.out).1; exact this) (by rintro (hc | hc); exact absurd (HO1.out _ hc).2.1 (by omega); exact HSA.out.q3.1 hc.symm)]
    exact HE1.out
  have y0 : w2.cell? ⟨w.heap.size, 0, none⟩ = some (.int .i64 0) := cell_of_heap hE0 0
  have y1 : w2.frozen? ⟨w.heap.size, 0, none⟩ = false := frozen_of_heap hE0 0
  have HE0 := hid hE0
  have HM2 := hid hm2
  have HK2 := hid hk2
  clear r0 r1 r2 r3 r4 r5 r6 q6
  clear hE0 hm2 hk2 z0 z1 z2 z3 z4 z5 z6 g5 g6 HE
  go_wp2
  refine leaves_cons (f := 43) (args := #[.pointer (some ⟨w.heap.size + 1, 0, none⟩), .pointer (some ⟨w.heap.size, 0, none⟩)]) (by simp) (by simp [go_sem]) ?_
  have hE2 := heap_setCell_same (i := 0) HE0.out (.int .i64 0)
  refine (start1_ok (w.heap.size + 1) w.heap.size _ ?_).mono ?_
  · exact cell_of_heap hE2 0
  rintro e u' w'' ⟨rfl, rfl, rfl⟩
  have hpost : StartPost R (Cop.new full a b) w (w2.setCell ⟨w.heap.size, 0, none⟩ (.int .i64 0)) := by
    have hm : MapAt (Value.int .i64) w2 q (put (R.copyings.map fun p => (p.1, p.2.val)) (R.started + 1) (Cop.new full a b).val) := HM2.out
    rw [cops_put, put_none HLK.out] at hm
    have s2 := (HS1.out.kept (Keeps.drew (fun _ => False) _) (fun _ _ h => h)).coped (b := q) rfl HK2.out (fun k hk hf => by
      obtain ⟨a1, a2, a3, a4, a5⟩ := HO1.out k hk
      rcases HSA.out.fp k hf with h | h
      · exact a1 h
      · exact a3 h) hm
    refine ⟨some q, s2.kept (Keeps.setCell _ _ _) (fun k hk e => ?_), ?_, ?_⟩
    · have e' : k = w.heap.size := e
      rcases HSA.out.fp k hk with h | h
      · have := HSA.out.old k h
        omega
      · exact HSA.out.q3.1 (by omega)
    · refine ((HKP1.out.mono (T := (· ∈ R.fp)) (fun k _ h => by rw [h]; simp [Rep.fp])).trans ((Keeps.drew (fun _ => False) w1).mono (T := fun k => k ∈ C1 ∨ k = q) (fun _ _ h => h.elim) |>.tr HK2.out (fun _ h => h)) (fun k hk h => ?_)).st (.inl (Nat.le_refl _)) _
      rcases h with h | h
      · have := (HO1.out k h).2.1; omega
      · rcases HSA.out.new with e | ⟨e, h1⟩
        · rw [h]
          exact (fp_split R).mem_iff.2 (List.mem_cons_of_mem _ (List.mem_append_left _ (by simp [pcOf, e])))
        · omega
    · rcases HSA.out.new with e | ⟨e, h1⟩
      · exact .inl e.symm
      · exact .inr ⟨q, rfl, by omega⟩
  have hb := cell_of_heap hE2 0
  generalize w2.setCell ⟨w.heap.size, 0, none⟩ (.int .i64 0) = W3 at hpost hb
  simp at hb
  simp [Leaves, settle, results, Tryz.results14, go_sem, hb]
  exact hpost

end Go.Proofs.YtgianpccgcjmjaaGreatDoor
