import Derived.Test.YtkpaiaddikpdoaaGreatDoorM06

/- Write, walked. -/
namespace Go.Proofs.YtkpaiaddikpdoaaGreatDoor
open Go.RowKit Go.Shelf

attribute [local go_sem] Oper.semAt_some

/-- what Write says -/
def WrPost (ok : Bool) (s : List UInt8) (w : World) (e : Ending) (w' : World) : Prop := (if ok = true then e = .returned (.tuple #[.string (ofL s), .nilIface]) else ∃ t v, JErr w t v ∧ e = .returned (.tuple #[.string ⟨#[]⟩, .iface t v])) ∧ Keeps (fun _ => False) w w'

theorem judge_facts {full : Bool} {a b : Int} {l : List RecB} (h : judgeB full a b l = true) : (0 ≤ a ∧ a ≤ 1000000000) ∧ (0 ≤ b ∧ b ≤ 1000000000) ∧ l.length ≤ 1000 ∧ Small l := by
  unfold judgeB at h
  simp only [Bool.and_eq_true, decide_eq_true_eq] at h
  obtain ⟨⟨h1, h2⟩, h3⟩ := h
  unfold fitB stateB at h1
  simp only [Bool.and_eq_true, decide_eq_true_eq] at h1
  refine ⟨h1.1.1, h1.1.2, h2, fun r hr => ?_⟩
  obtain ⟨k, hk, rfl⟩ := List.mem_iff_getElem.1 hr
  have h4 := okTo_mono (show k + 1 ≤ l.length by omega) h3
  rw [okTo_next hk, Bool.and_eq_true] at h4
  have h5 := h4.2
  unfold okRec at h5
  simp only [Bool.and_eq_true] at h5
  obtain ⟨⟨⟨h6, h7⟩, _⟩, _⟩ := h5
  simp [keyB] at h6
  simp [valB] at h7
  omega

set_option maxRecDepth 100000 in
set_option maxHeartbeats 2000000 in
theorem write_bad (full : Bool) (a b : Int) (oa : Option Addr) (cap : Nat) (l : List RecB) (w : World) (hr : RecIn w oa l) (hl : l.length ≤ maxLen) (hs : ∀ r ∈ l, r.key.size ≤ maxLen ∧ r.value.size ≤ maxLen) (he : ∀ g, 2 ≤ g → g ≤ 6 → ErrAt w g) (hj : judgeB full a b l = false) :
    Calls Tryz.prog 17 #[.agg #[.bool full, .int .i64 a, .int .i64 b, .slice oa l.length cap]] w (WrPost false [] w) := by
  have ka := Keeps.alloc (fun _ => False) w (.cells #[.bool full, .int .i64 a, .int .i64 b, .slice oa l.length cap] 34)
  have HQ : Hid (∀ t v, JErr (w.alloc (.cells #[.bool full, .int .i64 a, .int .i64 b, .slice oa l.length cap] 34)) t v → JErr w t v) := fun t v h => by
    obtain ⟨g, hg, hc⟩ := h
    obtain ⟨t', v', h'⟩ := he g hg.1 hg.2
    have := ka.cell h' (fun h => h)
    rw [this] at hc
    exact ⟨g, hg, h'.trans hc⟩
  have HJ := hid (judge_any full a b oa cap l _ (hr.kept ka) hl hs (fun g h1 h2 => (he g h1 h2).kept ka))
  rw [hj] at HJ
  clear hr hl hs he hj ka
  go_enter Tryz.func17, Tryz.ntmps17
  go_wp2_with fail
  refine HJ.out.mono ?_
  rintro e w1 ⟨h1, k1⟩
  obtain ⟨t, v, hj, rfl⟩ : ∃ t v, JErr _ t v ∧ e = .returned (.iface t v) := h1
  have HV := hid (HQ.out t v hj)
  clear HQ hj
  clear HJ
  go_wp2
  go_ret2
  exact ⟨⟨t, v, HV.out, rfl⟩, ((Keeps.refl _ w).al _).tr k1 (fun _ h => h)⟩

end Go.Proofs.YtkpaiaddikpdoaaGreatDoor

/- Write of a right stream, walked. -/
namespace Go.Proofs.YtkpaiaddikpdoaaGreatDoor
open Go.RowKit Go.Shelf

attribute [local go_sem] Oper.semAt_some

theorem bld_new (B tb : Nat) (w : World) (hB : B ≤ tb) (h : w.heap[tb]? = some (.cells #[.pointer none, .slice none 0 0] 88 (0, 0))) : Bld B w tb [] := by
  refine .inl ⟨hB, .slice none 0 0, h, ⟨rfl, .inl ⟨rfl, rfl⟩⟩, by simp [Value.ownBlock]⟩

theorem text_all (full : Bool) (a b : Nat) (r : List Rec) : (headL full a b ++ blocksL r) ++ tailL (ovL 0 (headL full a b ++ blocksL r)) r.length = streamL ⟨full, a, b, r⟩ := by
  have e : bodyL ⟨full, a, b, r⟩ = (headL full a b ++ blocksL r) ++ (numL 0 ++ numL r.length) := by simp only [bodyL, List.append_assoc]
  unfold streamL tailL checkL
  rw [e, ovL_append (c := 0) (headL full a b ++ blocksL r) (numL 0 ++ numL r.length)]
  simp only [List.append_assoc]

theorem WrAt.kept {B wb tb : Nat} {w5 W W' : World} {out : List UInt8} {n : Nat} {S : Nat → Prop} (h : WrAt B wb tb w5 out n W) (hk : Keeps S W W') (h1 : wb < w5.heap.size) (h2 : tb < w5.heap.size) (hS : ∀ k, S k → w5.heap.size ≤ k ∧ ¬ TypeIs W k 5) : WrAt B wb tb w5 out n W' := by
  obtain ⟨q1, q2, q3⟩ := h
  refine ⟨(hk.block wb (Array.getElem?_eq_some_iff.1 q1).1 (fun hs => by have := (hS _ hs).1; omega)).trans q1, q2.kept hk (fun hs => by have := (hS _ hs).1; omega) (fun k ht hs => (hS _ hs).2 ht), q3.trans hk (fun k hk5 hs => by have := (hS _ hs).1; omega)⟩

theorem wr_own {B wb tb : Nat} {w5 : World} {f : List Nat → List UInt8} {g : List Nat → Nat} (h1 : wb < w5.heap.size) (h2 : tb < w5.heap.size) : OwnFrom w5.heap.size (fun pre W => WrAt B wb tb w5 (f pre) (g pre) W) := by
  intro pre W W' row hs hg hr
  refine hs.kept (Keeps.grown hg) h1 h2 (fun k e => ?_)
  obtain ⟨e1, o, ho, hc⟩ := hr k e.symm
  refine ⟨e1, ?_⟩
  rintro ⟨cur, hcur⟩
  rw [hcur] at ho
  cases ho
  cases hc

theorem wr_step {B wb tb pa pb n c : Nat} {t1 t2 : TypeId} {w5 W W1 W2 : World} {out blk : List UInt8} (h1 : wb < w5.heap.size) (h2 : tb < w5.heap.size) (hne : wb ≠ tb) (ha : TypeIs w5 pa t1) (ht1 : t1 ≠ 5) (hb : TypeIs w5 pb t2) (ht2 : t2 ≠ 5) (ha1 : pa ≠ wb ∧ pa ≠ tb) (hb1 : pb ≠ wb ∧ pb ≠ tb)
    (hI : WrAt B wb tb w5 out n W) (q1 : W1.heap[wb]? = some (.cells #[.int .u32 (ovL (ovL 0 out) blk : Nat), .int .i64 ((n + c : Nat) : Int)] 84 (0, 0))) (k1 : Keeps (· = wb) W W1) (q2 : Bld B W2 tb (out ++ blk)) (k2 : Keeps (BldS B tb W1) W1 W2) :
    KeepsFrom w5.heap.size W W2 ∧ KpM [pa, pb] W W2 ∧ WrAt B wb tb w5 (out ++ blk) (n + c) W2 := by
  obtain ⟨p1, p2, p3⟩ := hI
  have hsz := p3.size
  have same : ∀ (k : Nat) (o : Obj), W.heap[k]? = some o → k ≠ wb → k ≠ tb → (∀ cur, o ≠ .cells cur 5 (0, 0)) → W2.heap[k]? = some o := fun k o ho e1 e2 e3 => by
    have x1 : W1.heap[k]? = some o := (k1.block k (Array.getElem?_eq_some_iff.1 ho).1 e1).trans ho
    refine (k2.block k (Array.getElem?_eq_some_iff.1 x1).1 ?_).trans x1
    rintro ⟨_, e | ⟨cur, e⟩⟩
    · exact e2 e
    · rw [x1] at e
      cases e
      exact e3 _ rfl
  have box : ∀ (k : Nat) (t : TypeId), TypeIs w5 k t → t ≠ 5 → k ≠ wb ∧ k ≠ tb → W2.heap[k]? = W.heap[k]? := fun k t ht htn e => by
    obtain ⟨cur, hc⟩ := ht
    have x : W.heap[k]? = some (.cells cur t (0, 0)) := (p3.block k (Array.getElem?_eq_some_iff.1 hc).1 (by
      rintro (e' | ⟨_, e' | e'⟩)
      · exact e.1 e'
      · exact e.2 e'
      · exact TypeIs.ne ⟨cur, hc⟩ htn e')).trans hc
    rw [x]
    exact same k _ x e.1 e.2 (fun cur' e' => by cases e'; exact htn rfl)
  refine ⟨⟨Nat.le_trans k1.size k2.size, fun k o hBk hko hc => same k o hko (by omega) (by omega) (fun cur e => by rw [e] at hc; cases hc)⟩, ⟨Nat.le_trans k1.size k2.size, fun k hk => ?_⟩, ?_, q2, ?_⟩
  · rcases List.mem_cons.1 hk with rfl | hk
    · exact box _ t1 ha ht1 ha1
    · have e : k = pb := by simpa using hk
      rw [e]
      exact box _ t2 hb ht2 hb1
  · rw [ovL_append]
    refine (k2.block wb (Array.getElem?_eq_some_iff.1 q1).1 ?_).trans q1
    rintro ⟨_, e | e⟩
    · exact hne e
    · exact TypeIs.ne ⟨_, q1⟩ (by decide) e
  · exact (p3.trans k1 (fun k _ e => .inl e)).bld k2

theorem write_four {w w1 w3 w4 : World} {cs : Array Value} {x y o3 o4 : Value} {hd : Value} (hz : w.heap.size + 1 ≤ w1.heap.size) (k2 : Keeps (fun _ => False) (w.alloc (.cells cs 34)) ((w1.alloc (.cells #[x, y] 84)).alloc (.cells #[o3, o4] 88)))
    (b2 : ((w1.alloc (.cells #[x, y] 84)).alloc (.cells #[o3, o4] 88)).heap[w.heap.size]? = some (.cells cs 34 (0, 0))) (hw3 : w3.heap[w1.heap.size]? = some (.cells #[hd, y] 84 (0, 0))) (k3 : Keeps (· = w1.heap.size) ((w1.alloc (.cells #[x, y] 84)).alloc (.cells #[o3, o4] 88)) w3)
    (k4 : Keeps (BldS w.heap.size (w1.heap.size + 1) w3) w3 w4) :
    w4.heap[w1.heap.size]? = some (.cells #[hd, y] 84 (0, 0)) ∧ w4.heap[w.heap.size]? = some (.cells cs 34 (0, 0)) ∧ Keeps (fun _ => False) w w4 := by
  have x3 : w3.heap[w.heap.size]? = some (.cells cs 34 (0, 0)) := (k3.block _ (Array.getElem?_eq_some_iff.1 b2).1 (by show ¬ (_ = _); omega)).trans b2
  refine ⟨(k4.block _ (Array.getElem?_eq_some_iff.1 hw3).1 ?_).trans hw3, (k4.block _ (Array.getElem?_eq_some_iff.1 x3).1 ?_).trans x3, ?_⟩
  · rintro ⟨_, e | e⟩
    · omega
    · exact TypeIs.ne ⟨_, hw3⟩ (by decide) e
  · rintro ⟨_, e | e⟩
    · omega
    · exact TypeIs.ne ⟨_, x3⟩ (by decide) e
  · refine ((((Keeps.refl (fun _ => False) w).al _).tr k2 (fun _ h => h)).trans k3 (fun k hk e => ?_)).trans k4 (fun k hk e => ?_)
    · have e' : k = w1.heap.size := e
      omega
    · have := e.1
      omega

set_option maxRecDepth 100000 in
set_option maxHeartbeats 2000000 in
theorem write_good (full : Bool) (a b : Nat) (oa : Option Addr) (cap : Nat) (l : List RecB) (w : World) (hr : RecIn w oa l) (hlc : l.length ≤ cap) (hcm : cap ≤ maxLen) (he : ∀ g, 2 ≤ g → g ≤ 6 → ErrAt w g) (ht : TurnsAt w) (hj : judgeB full a b l = true) :
    Calls Tryz.prog 17 #[.agg #[.bool full, .int .i64 (a : Nat), .int .i64 (b : Nat), .slice oa l.length cap]] w (WrPost true (streamL ⟨full, a, b, l.map RecB.rec_⟩) w) := by
  obtain ⟨ha, hb, hl, hsm⟩ := judge_facts hj
  have ka := Keeps.alloc (fun _ => False) w (.cells #[.bool full, .int .i64 (a : Nat), .int .i64 (b : Nat), .slice oa l.length cap] 34)
  have HJ : Hid (Calls Tryz.prog 33 #[.agg #[.bool full, .int .i64 (a : Nat), .int .i64 (b : Nat), .slice oa l.length cap]] (w.alloc (.cells #[.bool full, .int .i64 (a : Nat), .int .i64 (b : Nat), .slice oa l.length cap] 34)) fun e w' => e = .returned .nilIface ∧ Keeps (fun _ => False) (w.alloc (.cells #[.bool full, .int .i64 (a : Nat), .int .i64 (b : Nat), .slice oa l.length cap] 34)) w') := by
    refine (judge_any full a b oa cap l _ (hr.kept ka) (by unfold maxLen; omega) (fun r hr => by have := hsm r hr; unfold maxLen; omega) (fun g h1 h2 => (he g h1 h2).kept ka)).mono ?_
    rintro e w' ⟨h1, h2⟩
    rw [hj] at h1
    exact ⟨h1, h2⟩
  have HR := hid hr
  have HT := hid ht
  have HSM := hid hsm
  have HLC := hid hlc
  have HCM := hid hcm
  have HL := hid hl
  have HAB : Hid (a < 9223372036854775808 ∧ b < 9223372036854775808) := hid (by omega)
  have HAB2 : Hid (a < 34359738368 ∧ b < 34359738368) := hid (by omega)
  clear hr ht hsm he hj ka ha hb hlc hcm hl
  refine (callsIn_wide (n := 8)).1 ?_
  refine callsIn_of_wp_marks Tryz.func17 rfl trivial ?_ rfl
  simp only [Tryz.ntmps17, List.size_toArray, List.length_cons, List.length_nil, Nat.reduceAdd, Nat.reduceSub, Array.replicate_succ, Array.replicate_zero, List.push_toArray, List.append_toArray, List.nil_append, List.cons_append]
  have HHD : Hid (∀ W : World, ∀ wb, TurnsAt W → W.heap[wb]? = some (.cells #[.int .u32 0, .int .i64 0] 84 (0, 0)) → Calls Tryz.prog 35 #[.pointer (some ⟨wb, 0, none⟩), .bool full, .int .i64 (a : Nat), .int .i64 (b : Nat)] W fun e w' => e = .returned (.string (ofL (headL full a b))) ∧ w'.heap[wb]? = some (.cells #[.int .u32 (ovL 0 (headL full a b) : Nat), .int .i64 ((0 : Nat) : Int)] 84 (0, 0)) ∧ Keeps (· = wb) W w') := fun W wb h1 h2 =>
    head_any wb 0 #[.int .u32 0, .int .i64 0] 84 full a b 0 W h2 rfl (by omega) HAB.out.1 HAB.out.2 h1
  have HHL : Hid ((ofL (headL full a b)).size ≤ 100) := by
    have n1 := numL_len 8 a (by have := HAB2.out.1; omega)
    have n2 := numL_len 8 b (by have := HAB2.out.2; omega)
    show _ ≤ _
    rw [ofL_size]
    unfold headL kindL
    split <;> simp <;> omega
  generalize hhd : headL full a b = hd at HHD HHL
  gi_wp2_with (first
    | (refine ⟨trivial, ?_⟩; gi_at_call 33; go_must (refine (callsIn_wide.2 HJ.out).mono ?_; rintro e w1 ⟨rfl, k1⟩; have k2 := (k1.al (.cells #[.int .u32 0, .int .i64 0] 84)).al (.cells #[.pointer none, .slice none 0 0] 88); have b2 := (k2.block w.heap.size (by simp) (fun h => h)).trans (heap_new w _); have c0 := cell_of_heap b2 0; have c1 := cell_of_heap b2 1; have c2 := cell_of_heap b2 2; simp at c0 c1 c2; have hz1 : w.heap.size + 1 ≤ w1.heap.size := (by have := k1.size; simp at this; omega); have HZ1 := hid hz1; have K2 := hid k2; have B2 := hid b2; clear k1 k2 b2 HJ hz1))
    | (refine ⟨trivial, ?_⟩; gi_at_call 35; go_must (refine (callsIn_wide.2 (HHD.out _ _ (HT.out.kept (((Keeps.refl (fun _ => False) w).al _).tr K2.out (fun _ h => h)) (fun h => h)) ((Below.heap_alloc _ _ _ (by simp)).trans (heap_new w1 _)))).mono ?_; rintro e w3 ⟨rfl, hw3, k3⟩; have hb3 : Bld w.heap.size w3 (w1.heap.size + 1) [] := bld_new _ _ _ (by have := HZ1.out; omega) ((k3.block (w1.heap.size + 1) (by simp) (by show ¬ (_ = _); omega)).trans (by have := heap_new (w1.alloc (.cells #[.int .u32 0, .int .i64 0] 84)) (.cells #[.pointer none, .slice none 0 0] 88); simpa using this)); have HW3 := hid hw3; have HB3 := hid hb3; have K3 := hid k3; clear hw3 hb3 k3 c0 c1 c2))
    | (refine ⟨trivial, ?_⟩; gi_at_call 34; go_must (refine (callsIn_wide.2 (writeString_any w.heap.size (w1.heap.size + 1) [] (ofL hd) w3 HB3.out (by have := HHL.out; simp; omega) (by have h1 := K3.out.size; have h2 := HZ1.out; simp at h1; omega))).mono ?_; rintro e w4 ⟨rfl, hb4, k4⟩; obtain ⟨hw4, hx4, kw4⟩ := write_four HZ1.out K2.out B2.out HW3.out K3.out k4; have c3 := cell_of_heap hx4 3; simp at c3; have HB4 := hid hb4; have HW4 := hid hw4; have HX4 := hid hx4; have KW4 := hid kw4; have HZ4 : Hid (w1.heap.size + 2 ≤ w4.heap.size) := (by have h1 := K3.out.size; have h2 := k4.size; simp at h1; show _ ≤ _; omega); clear hb4 k4 hw4 hx4 kw4 HB3 K3 HW3 K2 B2))
    | (refine ⟨trivial, ?_⟩; gi_at_call 36; go_must (refine (callsIn_wide.2 (chunk_any oa l.length cap w4)).mono ?_; rintro e w5 ⟨rfl, rfl⟩)))
  obtain ⟨w5, hw5⟩ : ∃ w5, (w4.alloc (.cells #[.slice oa l.length cap] 32)).alloc (.cells #[.int .i64 4] 3) = w5 := ⟨_, rfl⟩
  rw [hw5]
  have k5 : Keeps (fun _ => False) w4 w5 := by rw [← hw5]; exact ((Keeps.refl _ w4).al _).al _
  have pA : w5.heap[w4.heap.size]? = some (.cells #[.slice oa l.length cap] 32 (0, 0)) := by rw [← hw5]; exact (Below.heap_alloc _ _ _ (by simp)).trans (heap_new w4 _)
  have pB : w5.heap[w4.heap.size + 1]? = some (.cells #[.int .i64 4] 3 (0, 0)) := by
    rw [← hw5]
    have := heap_new (w4.alloc (.cells #[.slice oa l.length cap] 32)) (.cells #[.int .i64 4] 3)
    simpa using this
  have hz5 : w5.heap.size = w4.heap.size + 2 := by rw [← hw5]; simp
  have hz4 := HZ4.out
  have hz1 := HZ1.out
  clear hw5
  have h0 : WrAt w.heap.size w1.heap.size (w1.heap.size + 1) w5 (hd ++ partsL l []) (partsN l []) w5 := by
    refine ⟨(k5.block _ (Array.getElem?_eq_some_iff.1 HW4.out).1 (fun h => h)).trans (by rw [HW4.out]; simp [partsL, partsN]), ?_, Keeps.refl _ _⟩
    have := HB4.out.kept k5 (fun h => h) (fun _ _ h => h)
    simpa [partsL, ofL] using this
  have hoa : l.length = 0 ∨ ∃ g off, oa = some ⟨g, off, none⟩ := by
    rcases Nat.eq_zero_or_pos l.length with e | e
    · exact .inl e
    · obtain ⟨g, off, e, _⟩ := HR.out 0 e
      exact .inr ⟨g, off, e⟩
  have hseq := chunk1_all w4.heap.size (w4.heap.size + 1) oa l.length cap w5 pA pB HL.out HLC.out HCM.out hoa
  rw [show (fun x : Nat => #[chunkV oa l.length x]) = fun x => #[.slice (chunkA oa x) (chunkL l x).length (chunkN l.length x)] from funext fun x => by rw [chunkV_eq]] at hseq
  have K5 := hid (KW4.out.tr k5 (fun _ h => h))
  have PA := hid pA
  have PB := hid pB
  clear k5 pA pB hoa HW4 HB4 HX4 KW4 c3
  refine wpIn_range_all (α := Nat) rfl (by omega) (gf := 58) (lb := #[.pointer (some ⟨w4.heap.size, 0, none⟩), .pointer (some ⟨w4.heap.size + 1, 0, none⟩)]) rfl trivial (enters_of Tryz.func58 (by kernel_rfl) rfl)
      hseq ?cs (fun h k => ⟨Nat.le_trans h.1 k.1, fun j hj => (k.2 j hj).trans (h.2 j hj)⟩) ?kb (fun _ => rfl) (fun pre W => WrAt w.heap.size w1.heap.size (w1.heap.size + 1) w5 (hd ++ partsL l pre) (partsN l pre) W)
      (wr_own (by omega) (by omega)) (fun pre A B hC h => h.kept hC (by omega) (by omega) (fun _ h => h.elim)) h0 ?act ?assign ?body ?done
  case cs =>
    rintro A B k hC hk ⟨o, ho, _⟩
    exact hC.block k (Array.getElem?_eq_some_iff.1 ho).1 (fun h => h)
  case kb =>
    intro W k o' hk
    exact ⟨by simp, fun j hj => World.putObj_heap_other (by
      rcases List.mem_cons.1 hj with rfl | hj
      · omega
      · have e : j = w4.heap.size + 1 := by simpa using hj
        omega)⟩
  case act => exact (fun x => { tmps := #[Value.agg #[.bool full, .int .i64 (a : Nat), .int .i64 (b : Nat), .slice oa l.length cap], .pointer (some ⟨w.heap.size, 0, none⟩), .string ⟨#[]⟩, .nilIface, .nilIface, .pointer (some ⟨w1.heap.size, 0, none⟩), .pointer (some ⟨w1.heap.size + 1, 0, none⟩), .slice (chunkA oa x) (chunkL l x).length (chunkN l.length x), .agg #[.bool full, .int .i64 (a : Nat), .int .i64 (b : Nat), .slice oa l.length cap], .nilIface, .nilIface, .bool false, undef, .pointer (some ⟨w.heap.size, 0, none⟩), .bool full, .pointer (some ⟨w.heap.size, 1, none⟩), .int .i64 (a : Nat), .pointer (some ⟨w.heap.size, 2, none⟩), .int .i64 (b : Nat), .string (ofL hd), .tuple #[.int .i64 (ofL hd).size, .nilIface], .pointer (some ⟨w.heap.size, 3, none⟩), .slice oa l.length cap, .func (.func 58) #[] #[.pointer (some ⟨w4.heap.size, 0, none⟩), .pointer (some ⟨w4.heap.size + 1, 0, none⟩)], .slice (chunkA oa x) (chunkL l x).length (chunkN l.length x), undef, undef, undef, undef, undef, undef], defers := [] })
  case assign =>
    intro l' x W K hK
    have ez : ∀ (t : Array Value) (v : Value), (#[24].zip #[v]).foldl (fun t (p, v) => t.setIfInBounds p v) t = t.setIfInBounds 24 v := fun t v => by simp [Array.zip]
    simp only [ez]
    gi_wp2
    exact hK
  case body =>
    intro l' pre x W hI hlt
    have kW : Keeps (fun _ => False) w W := K5.out.trans hI.2.2 (fun k hk e => by
      rcases e with e | e
      · omega
      · have := e.1; omega)
    have hzW := hI.2.2.size
    obtain ⟨hp1, hp2⟩ := parts_len HSM.out pre
    have hl := HL.out
    have hbk := block_any w1.heap.size 0 _ _ (ovL 0 (hd ++ partsL l pre)) (partsN l pre) (chunkA oa x) (chunkN l.length x) (chunkL l x) W hI.1 rfl rfl (ovL_lt _ _) (by omega) (by have := chunk_four l x; omega) ((HR.out.kept kW).chunk x) (chunk_small HSM.out x) (HT.out.kept kW (fun h => h))
    have hbl := block_len (chunk_small HSM.out x) (chunk_four l x)
    have hst : ∀ W1 W2, W1.heap[w1.heap.size]? = some (.cells #[.int .u32 (ovL (ovL 0 (hd ++ partsL l pre)) (blockL ((chunkL l x).map RecB.rec_)) : Nat), .int .i64 ((partsN l pre + (chunkL l x).length : Nat) : Int)] 84 (0, 0)) → Keeps (· = w1.heap.size) W W1 → Bld w.heap.size W2 (w1.heap.size + 1) ((hd ++ partsL l pre) ++ blockL ((chunkL l x).map RecB.rec_)) → Keeps (BldS w.heap.size (w1.heap.size + 1) W1) W1 W2 → KeepsFrom w5.heap.size W W2 ∧ KpM [w4.heap.size, w4.heap.size + 1] W W2 ∧ WrAt w.heap.size w1.heap.size (w1.heap.size + 1) w5 (hd ++ partsL l (pre ++ [x])) (partsN l (pre ++ [x])) W2 := fun W1 W2 q1 k1 q2 k2 => by
      rw [partsL_next, partsN_next, ← List.append_assoc]
      exact wr_step (by omega) (by omega) (by omega) ⟨_, PA.out⟩ (by decide) ⟨_, PB.out⟩ (by decide) (by omega) (by omega) hI q1 k1 q2 k2
    have hol : (hd ++ partsL l pre).length ≤ 10000000 := by
      have := HHL.out
      rw [ofL_size] at this
      rw [List.length_append]
      omega
    have HI := hid hI
    have HST := hid hst
    have HBK := hid hbk
    have HOL := hid hol
    have HBL := hid hbl
    have HZW := hid hzW
    clear hI hst hbk hol hbl hp1 hp2 hlt hl kW hzW hseq h0
    generalize blockL ((chunkL l x).map RecB.rec_) = blk at HST HBK HBL
    generalize partsN l pre = n at HST HBK HI
    generalize hd ++ partsL l pre = out at HST HBK HI HOL
    have HWS : Hid (∀ W1, Keeps (· = w1.heap.size) W W1 → Calls Tryz.prog 34 #[.pointer (some ⟨w1.heap.size + 1, 0, none⟩), .string (ofL blk)] W1 fun e w' => e = .returned (.tuple #[.int .i64 (ofL blk).size, .nilIface]) ∧ Bld w.heap.size w' (w1.heap.size + 1) (out ++ blk) ∧ Keeps (BldS w.heap.size (w1.heap.size + 1) W1) W1 w') := fun W1 k1 => by
      have hb1 : Bld w.heap.size W1 (w1.heap.size + 1) out := HI.out.2.1.kept k1 (by show ¬ (_ = _); omega) (fun k ht e => by
        have e' : k = w1.heap.size := e
        rw [e'] at ht
        exact TypeIs.ne ⟨_, HI.out.1⟩ (by decide) ht)
      have hz := k1.size
      have hzw := HZW.out
      have := writeString_any w.heap.size (w1.heap.size + 1) out (ofL blk) W1 hb1 (by rw [ofL_size]; have h1 := HOL.out; have h2 := HBL.out; omega) (by omega)
      rwa [ofL_list] at this
    gi_wp2_with (first
      | (refine ⟨trivial, ?_⟩; gi_at_call 37; go_must (refine (CallsIn.inRound l' (callsIn_wide.2 HBK.out)).mono ?_; rintro e W1 ⟨rfl, r1, k1⟩))
      | (refine ⟨trivial, ?_⟩; gi_at_call 34; go_must (refine (CallsIn.inRound l' (callsIn_wide.2 (HWS.out W1 k1))).mono ?_; rintro e W2 ⟨rfl, r2, k2⟩)))
    exact HST.out W1 W2 r1 k1 r2 k2
  case done =>
    rintro D xs W hD rfl hI hK
    obtain ⟨e1, e2⟩ := parts_all l.length l (Nat.le_refl _)
    rw [e1, e2] at hI
    have hbl : (blocksL (l.map RecB.rec_)).length ≤ 10000000 := by
      rw [← e1]
      have := (parts_len HSM.out (List.range ((l.length + 3) / 4))).1
      have hl := HL.out
      rw [List.length_range] at this
      omega
    have hol : (hd ++ blocksL (l.map RecB.rec_)).length ≤ 10000100 := by
      have := HHL.out
      rw [ofL_size] at this
      rw [List.length_append]
      omega
    have kW : Keeps (fun _ => False) w W := K5.out.trans hI.2.2 (fun k hk e => by
      rcases e with e | e
      · omega
      · have := e.1; omega)
    have htx := text_all full a b (l.map RecB.rec_)
    rw [List.length_map, hhd] at htx
    have hl := HL.out
    have htl := tail_any w1.heap.size 0 _ _ (ovL 0 (hd ++ blocksL (l.map RecB.rec_))) l.length W hI.1 rfl rfl (ovL_lt _ _) (by omega) (HT.out.kept kW (fun h => h))
    have hn : (tailL (ovL 0 (hd ++ blocksL (l.map RecB.rec_))) l.length).length ≤ 100 := by
      have n1 := numL_len 8 0 (by omega)
      have n2 := numL_len 8 l.length (by omega)
      unfold tailL sumL
      simp only [List.length_append, List.length_cons, List.length_nil]
      omega
    have HI := hid hI
    have HTL := hid htl
    have HTX := hid htx
    have HN := hid hn
    have HOL := hid hol
    have HKW := hid kW
    have HK := hid hK
    have HD := hid hD
    have hne : (hd ++ blocksL (l.map RecB.rec_)) ++ tailL (ovL 0 (hd ++ blocksL (l.map RecB.rec_))) l.length ≠ [] := by
      unfold tailL sumL
      simp
    have HNE := hid hne
    have HZW := hid hI.2.2.size
    clear hI htl htx hn hol hbl e1 e2 kW hl hK hD hne hseq h0
    generalize tailL (ovL 0 (hd ++ blocksL (l.map RecB.rec_))) l.length = tl at HTL HTX HN HNE
    generalize hd ++ blocksL (l.map RecB.rec_) = out at HTL HTX HN HI HOL HNE
    have HWS : Hid (∀ W1, Keeps (fun _ => False) W W1 → Calls Tryz.prog 34 #[.pointer (some ⟨w1.heap.size + 1, 0, none⟩), .string (ofL tl)] W1 fun e w' => e = .returned (.tuple #[.int .i64 (ofL tl).size, .nilIface]) ∧ Bld w.heap.size w' (w1.heap.size + 1) (out ++ tl) ∧ Keeps (BldS w.heap.size (w1.heap.size + 1) W1) W1 w') := fun W1 k1 => by
      have hb1 : Bld w.heap.size W1 (w1.heap.size + 1) out := HI.out.2.1.kept k1 (fun h => h) (fun k ht e => e)
      have hz := k1.size
      have hzw := HZW.out
      have := writeString_any w.heap.size (w1.heap.size + 1) out (ofL tl) W1 hb1 (by rw [ofL_size]; have h1 := HOL.out; have h2 := HN.out; omega) (by omega)
      rwa [ofL_list] at this
    have keptD : ∀ (A B : World), A.heap[D]? = some (.deferred (some [])) → Keeps (BldS w.heap.size (w1.heap.size + 1) A) A B → B.heap[D]? = some (.deferred (some [])) := fun A B hA hk => by
      have hD := HD.out
      refine (hk.block D (Array.getElem?_eq_some_iff.1 hA).1 ?_).trans hA
      rintro ⟨_, e | ⟨cur, e⟩⟩
      · omega
      · rw [hA] at e
        cases e
    have HKD := hid keptD
    clear keptD
    gi_wp2_with (first
      | (refine ⟨trivial, ?_⟩; gi_at_call 38; go_must (refine (callsIn_wide.2 HTL.out).mono ?_; rintro e W1 ⟨rfl, k1⟩))
      | (refine ⟨trivial, ?_⟩; gi_at_call 34; go_must (refine (callsIn_wide.2 (HWS.out W1 k1)).mono ?_; rintro e W2 ⟨rfl, r2, k2⟩))
      | (refine ⟨trivial, ?_⟩; gi_at_call 39; go_must (refine (callsIn_wide.2 (string_any w.heap.size (w1.heap.size + 1) _ W2 r2 HNE.out)).mono ?_; rintro e W3 ⟨rfl, k3⟩)))
    have hK3 : W3.heap[D]? = some (.deferred (some [])) := HKD.out W2 W3 (HKD.out W1 W2 ((k1.block D (Array.getElem?_eq_some_iff.1 HK.out).1 (fun h => h)).trans HK.out) k2) k3
    refine ⟨by simp, .inl ⟨_, _, rfl, run_takeDeferred hK3, ?_⟩⟩
    refine ⟨_, results_tmp2 rfl _ _ _, ?_⟩
    refine ⟨by rw [if_pos rfl, ← HTX.out]; rfl, ?_⟩
    have kp := Keeps.grown (grownBy_putObj' W3 D (.deferred none))
    refine (((HKW.out.tr k1 (fun _ h => h)).trans k2 (fun k hk e => ?_)).trans k3 (fun k hk e => ?_)).trans kp (fun k hk e => ?_)
    · have := e.1; omega
    · have := e.1; omega
    · have hD := HD.out
      simp only [Option.some.injEq] at e
      omega

end Go.Proofs.YtkpaiaddikpdoaaGreatDoor

/- annalsref: Pieces. -/
namespace Go.Proofs.YtkpaiaddikpdoaaGreatDoor
open Go.RowKit Go.Shelf

attribute [local go_sem] Oper.semAt_some

/-- texts, one behind the other -/
def catT : List ByteArray → ByteArray := List.foldl (· ++ ·) ⟨#[]⟩
theorem catT_snoc (l : List ByteArray) (b : ByteArray) : catT (l ++ [b]) = catT l ++ b := by unfold catT; rw [List.foldl_append]; rfl
theorem catT_from (l : List ByteArray) : ∀ a : ByteArray, List.foldl (· ++ ·) a l = a ++ catT l := by
  induction l with
  | nil => intro a; exact (ByteArray.append_empty (b := a)).symm
  | cons b l ih =>
    intro a
    rw [List.foldl_cons, ih]
    unfold catT
    rw [List.foldl_cons, ih (⟨#[]⟩ ++ b)]
    have e : (⟨#[]⟩ : ByteArray) ++ b = b := ByteArray.empty_append
    rw [e, ByteArray.append_assoc]
    rfl
theorem catT_cons (b : ByteArray) (l : List ByteArray) : catT (b :: l) = b ++ catT l := by
  have e : (⟨#[]⟩ : ByteArray) ++ b = b := ByteArray.empty_append
  show List.foldl (· ++ ·) (⟨#[]⟩ ++ b) l = _
  rw [e, catT_from]
theorem catT_append (a b : List ByteArray) : catT (a ++ b) = catT a ++ catT b := by
  unfold catT
  rw [List.foldl_append, catT_from]
  rfl

/-- all blocks -/
theorem blocksT_cat (l : List RecB) : catT (blocksT l ((l.length + 3) / 4)) = ofL (blocksL (l.map RecB.rec_)) := by
  have h := (parts_all l.length l (Nat.le_refl _)).1
  rw [← h]
  have gen : ∀ n, catT (blocksT l n) = ofL (partsL l (List.range n)) := by
    intro n
    induction n with
    | zero => rfl
    | succ n ih => rw [blocksT_next, catT_snoc, ih, List.range_succ, partsL_next, ← ofL_append]; rfl
  exact gen _

/-- the pieces of a stream: head, blocks, the rest -/
def piecesT (full : Bool) (a b : Nat) (l : List RecB) : List ByteArray := ofL (headL full a b) :: blocksT l ((l.length + 3) / 4) ++ [ofL (tailL (ovL 0 (headL full a b ++ blocksL (l.map RecB.rec_))) l.length)]

theorem pieces_all (full : Bool) (a b : Nat) (l : List RecB) : catT (piecesT full a b l) = ofL (streamL ⟨full, a, b, l.map RecB.rec_⟩) := by
  unfold piecesT
  rw [catT_snoc, catT_cons, blocksT_cat, ofL_append, ofL_append]
  have := text_all full a b (l.map RecB.rec_)
  rw [List.length_map] at this
  rw [this]

/-- nothing appended -/
theorem run_append_nothing (W : World) (base : Option Addr) (n c : Nat) (h : n ≤ c) : (Builtin.append_ #[23, 23] 23 #[.slice base n c, .slice none 0 0]).run Tryz.prog W = .ok (.slice base n c) W := by
  obtain ⟨i0, hi, hz0, hz1, hz2⟩ := info_parts Tryz.infoTxt
  cases base <;> simp [Builtin.append_, run_underlying Tryz.underlying23, sizeOf, typeInfo, hi, Builtin.lenOf, run_firstCells_none, storeCells, h]

theorem catT_take {l : List ByteArray} {k : Nat} {b : ByteArray} (h : l[k]? = some b) : catT (l.take (k + 1)) = catT (l.take k) ++ b := by
  obtain ⟨hk, rfl⟩ := List.getElem?_eq_some_iff.1 h
  rw [List.take_succ_eq_append_getElem hk, catT_snoc]

theorem catT_size_le {l : List ByteArray} (m : Nat) (h : ∀ b ∈ l, b.size ≤ m) : ∀ k, (catT (l.take k)).size ≤ k * m
  | 0 => by simp [catT]; rfl
  | k + 1 => by
    cases hx : l[k]? with
    | none =>
      have hl : l.length ≤ k := List.getElem?_eq_none_iff.1 hx
      rw [List.take_of_length_le (by omega)]
      have := catT_size_le m h k
      rw [List.take_of_length_le hl] at this
      rw [Nat.add_mul]
      omega
    | some b =>
      rw [catT_take hx, ByteArray.size_append, Nat.add_mul]
      have h1 := catT_size_le m h k
      have h2 := h b (List.mem_of_getElem? hx)
      omega

theorem txt_at {w W : World} {g cap k : Nat} {l : List ByteArray} {b : ByteArray} (h : Row w 9 1 (.slice (some ⟨g, 0, none⟩) l.length cap) l.length (l.flatMap txtCells)) (hW : Keeps (fun _ => False) w W) (hb : l[k]? = some b) : W.cell? ⟨g, k, none⟩ = some (.string b) := by
  obtain ⟨hk, rfl⟩ := List.getElem?_eq_some_iff.1 hb
  have := (h.kept hW (fun _ _ h => h)).cellAt k (by omega)
  rw [this]
  have gen : ∀ (l : List ByteArray) (k : Nat) (hk : k < l.length), (l.flatMap txtCells)[k]? = some (.string l[k]) := by
    intro l
    induction l with
    | nil => intro k hk; simp at hk
    | cons x l ih =>
      intro k hk
      cases k with
      | zero => rfl
      | succ k => simpa [txtCells] using ih k (by simpa using hk)
  exact gen l k hk

end Go.Proofs.YtkpaiaddikpdoaaGreatDoor
