import Derived.Test.YtpagenipflmlfaaGreatDoorM13

/- Write: the chunks of a stream, and what its Builder and its Writer hold. -/

namespace Go.Proofs.YtpagenipflmlfaaGreatDoor

open Go.RowKit Go.Shelf

def chunkL (l : List RecB) (x : Nat) : List RecB := (l.drop (4 * x)).take 4

theorem chunkL_len (l : List RecB) (x : Nat) : (chunkL l x).length = chunkN l.length x := by
  unfold chunkL chunkN
  rw [List.length_take, List.length_drop]

theorem chunkL_next (l : List RecB) (x : Nat) : chunkL l (x + 1) = chunkL (l.drop 4) x := by
  unfold chunkL
  rw [List.drop_drop]
  congr 2
  omega

def chunkA (oa : Option Addr) (x : Nat) : Option Addr := match oa with
  | some ⟨g, off, none⟩ => some ⟨g, off + 4 * x * 3, none⟩
  | o => o

theorem chunkV_eq (oa : Option Addr) (l : List RecB) (x : Nat) : chunkV oa l.length x = .slice (chunkA oa x) (chunkL l x).length (chunkN l.length x) := by
  rw [chunkL_len]
  rcases oa with _ | ⟨g, off, _ | s⟩ <;> rfl

theorem RecIn.chunk {w : World} {oa : Option Addr} {l : List RecB} (h : RecIn w oa l) (x : Nat) : RecIn w (chunkA oa x) (chunkL l x) := fun i hi => by
  have hi2 : 4 * x + i < l.length := by
    rw [chunkL_len] at hi
    unfold chunkN at hi
    omega
  obtain ⟨g, off, rfl, h1, h2, h3⟩ := h (4 * x + i) hi2
  have e : (chunkL l x)[i] = l[4 * x + i] := by
    simp [chunkL]
  rw [e]
  refine ⟨g, off + 4 * x * 3, rfl, ?_, ?_, ?_⟩
  · rw [show off + 4 * x * 3 + i * 3 = off + (4 * x + i) * 3 by omega]; exact h1
  · rw [show off + 4 * x * 3 + i * 3 = off + (4 * x + i) * 3 by omega]; exact h2
  · rw [show off + 4 * x * 3 + i * 3 = off + (4 * x + i) * 3 by omega]; exact h3

/-- the text of the blocks so far, and how many records are in them -/
def partsL (l : List RecB) (pre : List Nat) : List UInt8 := pre.flatMap fun x => blockL ((chunkL l x).map RecB.rec_)

def partsN (l : List RecB) (pre : List Nat) : Nat := (pre.map fun x => (chunkL l x).length).sum

theorem parts_all : ∀ (n : Nat) (l : List RecB), l.length ≤ n → partsL l (List.range ((l.length + 3) / 4)) = blocksL (l.map RecB.rec_) ∧ partsN l (List.range ((l.length + 3) / 4)) = l.length
  | 0, l, h => by
    obtain rfl : l = [] := List.eq_nil_of_length_eq_zero (by omega)
    constructor
    · rw [List.map_nil, blocksL_nil]
      rfl
    · rfl
  | n + 1, l, h => by
    by_cases e : l = []
    · subst e
      constructor
      · rw [List.map_nil, blocksL_nil]
        rfl
      · rfl
    · have hl : 0 < l.length := List.length_pos_iff.2 e
      have hd : (l.drop 4).length = l.length - 4 := List.length_drop ..
      obtain ⟨h1, h2⟩ := parts_all n (l.drop 4) (by omega)
      have hr : (l.length + 3) / 4 = ((l.drop 4).length + 3) / 4 + 1 := by omega
      have e0 : chunkL l 0 = l.take 4 := by simp [chunkL]
      unfold partsL at *
      unfold partsN at *
      rw [hr, List.range_succ_eq_map, List.flatMap_cons, List.flatMap_map, List.map_cons, List.map_map, List.sum_cons]
      simp only [Function.comp_def, Nat.succ_eq_add_one, chunkL_next]
      rw [h1, h2, e0]
      constructor
      · have e3 : blocksL (l.map RecB.rec_) = blockL ((l.map RecB.rec_).take 4) ++ blocksL ((l.map RecB.rec_).drop 4) := by
          rw [blocksL_more (by simpa using e)]
        rw [e3, List.map_take, List.map_drop]
      · rw [hd, List.length_take]
        omega

theorem partsL_next (l : List RecB) (pre : List Nat) (x : Nat) : partsL l (pre ++ [x]) = partsL l pre ++ blockL ((chunkL l x).map RecB.rec_) := by simp [partsL]

theorem partsN_next (l : List RecB) (pre : List Nat) (x : Nat) : partsN l (pre ++ [x]) = partsN l pre + (chunkL l x).length := by simp [partsN]

theorem chunk_small {l : List RecB} (h : Small l) (x : Nat) : Small (chunkL l x) := fun r hr => h r (List.mem_of_mem_drop (List.mem_of_mem_take hr))

theorem chunk_four (l : List RecB) (x : Nat) : (chunkL l x).length ≤ 4 := by rw [chunkL_len]; unfold chunkN; omega

theorem block_len {l : List RecB} (h : Small l) (h4 : l.length ≤ 4) : (blockL (l.map RecB.rec_)).length ≤ 10000 := by
  have := partL_len h (by omega) l.length (Nat.le_refl _)
  have e : partL l l.length = blockB (l.map RecB.rec_) := by
    unfold partL blockB
    rw [List.take_length, List.length_map]
  rw [e] at this
  unfold blockL
  rw [List.length_append, checkL_length]
  omega

theorem parts_len {l : List RecB} (h : Small l) : ∀ (pre : List Nat), (partsL l pre).length ≤ pre.length * 10000 ∧ partsN l pre ≤ pre.length * 4
  | [] => by simp [partsL, partsN]
  | x :: pre => by
    obtain ⟨h1, h2⟩ := parts_len h pre
    have h3 := block_len (chunk_small h x) (chunk_four l x)
    have h4 := chunk_four l x
    have e1 : partsL l (x :: pre) = blockL ((chunkL l x).map RecB.rec_) ++ partsL l pre := by simp [partsL]
    have e2 : partsN l (x :: pre) = (chunkL l x).length + partsN l pre := by simp [partsN]
    rw [e1, e2, List.length_append, List.length_cons]
    omega

/-- the Writer and the Builder, when this much has been written -/
def WrAt (B wb tb : Nat) (w5 : World) (out : List UInt8) (count : Nat) (W : World) : Prop :=
  W.heap[wb]? = some (.cells #[.int .u32 (ovL 0 out : Nat), .int .i64 (count : Nat)] 127 (0, 0)) ∧ Bld B W tb out ∧ Keeps (fun k => k = wb ∨ BldS B tb w5 k) w5 W

theorem Bld.kept {B tb : Nat} {w w' : World} {l : List UInt8} {S : Nat → Prop} (h : Bld B w tb l) (hk : Keeps S w w') (h1 : ¬ S tb) (h2 : ∀ k, TypeIs w k 5 → ¬ S k) : Bld B w' tb l := by
  have main : ∀ p, Lib.BuilderAt 192 5 B tb p (Lib.byteCells l) w → Lib.BuilderAt 192 5 B tb p (Lib.byteCells l) w' := by
    rintro p ⟨hB, v, hbk, hown, hne⟩
    refine ⟨hB, v, (hk.block tb (Array.getElem?_eq_some_iff.1 hbk).1 h1).trans hbk, ⟨hown.1, ?_⟩, hne⟩
    rcases hown.2 with h | ⟨g, cap, cur, rfl, hg, hh, r⟩
    · exact .inl h
    · exact .inr ⟨g, cap, cur, rfl, hg, (hk.block g (Array.getElem?_eq_some_iff.1 hh).1 (h2 g ⟨cur, hh⟩)).trans hh, r⟩
  exact h.imp (main _) (main _)

/-- what a Builder turns of an older world -/
theorem Keeps.bld {B wb tb : Nat} {w5 W W' : World} (h : Keeps (fun k => k = wb ∨ BldS B tb w5 k) w5 W) (hk : Keeps (BldS B tb W) W W') : Keeps (fun k => k = wb ∨ BldS B tb w5 k) w5 W' :=
  h.trans hk (fun k hk5 hs => by
    by_cases e : k = wb ∨ BldS B tb w5 k
    · exact e
    · have hb := h.block k hk5 e
      refine .inr ⟨hs.1, hs.2.imp id ?_⟩
      rintro ⟨cur, hc⟩
      exact ⟨cur, by rw [← hb]; exact hc⟩)

end Go.Proofs.YtpagenipflmlfaaGreatDoor

/- Write, walked. -/

namespace Go.Proofs.YtpagenipflmlfaaGreatDoor

open Go.RowKit Go.Shelf

attribute [local go_sem] Oper.semAt_some

/-- what Write says -/
def WrPost (ok : Bool) (s : List UInt8) (w : World) (e : Ending) (w' : World) : Prop := (if ok = true then e = .returned (.tuple #[.string (ofL s), .nilIface]) else ∃ t v, JErr w t v ∧ e = .returned (.tuple #[.string ⟨#[]⟩, .iface t v])) ∧ Keeps (fun _ => False) w w'

theorem judge_facts {full : Bool} {a b : Int} {l : List RecB} (h : judgeB full a b l = true) : (0 ≤ a ∧ a ≤ 1000000000) ∧ (0 ≤ b ∧ b ≤ 1000000000) ∧ l.length ≤ 1000 ∧ Small l := by
  unfold judgeB at h
  simp only [Bool.and_eq_true, decide_eq_true_eq] at h
  obtain ⟨⟨h1, h2⟩, h3⟩ := h
  unfold fitB stateB at h1
  simp only [Bool.and_eq_true, decide_eq_true_eq] at h1
  refine ⟨h1.1.1, h1.1.2, h2, fun r hr => ?_⟩
  obtain ⟨k, hk, rfl⟩ := List.mem_iff_getElem.1 hr
  have h4 := okTo_mono (show k + 1 ≤ l.length by omega) h3
  rw [okTo_next hk, Bool.and_eq_true] at h4
  have h5 := h4.2
  unfold okRec at h5
  simp only [Bool.and_eq_true] at h5
  obtain ⟨⟨⟨h6, h7⟩, _⟩, _⟩ := h5
  simp [keyB] at h6
  simp [valB] at h7
  omega

set_option maxRecDepth 100000 in
set_option maxHeartbeats 2000000 in
theorem write_bad (full : Bool) (a b : Int) (oa : Option Addr) (cap : Nat) (l : List RecB) (w : World) (hr : RecIn w oa l) (hl : l.length ≤ maxLen) (hs : ∀ r ∈ l, r.key.size ≤ maxLen ∧ r.value.size ≤ maxLen) (he : ∀ g, 3 ≤ g → g ≤ 7 → ErrAt w g) (hj : judgeB full a b l = false) :
    Calls Tryz.prog 75 #[.agg #[.bool full, .int .i64 a, .int .i64 b, .slice oa l.length cap]] w (WrPost false [] w) := by
  have ka := Keeps.alloc (fun _ => False) w (.cells #[.bool full, .int .i64 a, .int .i64 b, .slice oa l.length cap] 84)
  have HQ : Hid (∀ t v, JErr (w.alloc (.cells #[.bool full, .int .i64 a, .int .i64 b, .slice oa l.length cap] 84)) t v → JErr w t v) := fun t v h => by
    obtain ⟨g, hg, hc⟩ := h
    obtain ⟨t', v', h'⟩ := he g hg.1 hg.2
    have := ka.cell h' (fun h => h)
    rw [this] at hc
    exact ⟨g, hg, h'.trans hc⟩
  have HJ := hid (judge_any full a b oa cap l _ (hr.kept ka) hl hs (fun g h1 h2 => (he g h1 h2).kept ka))
  rw [hj] at HJ
  clear hr hl hs he hj ka
  go_enter Tryz.func75, Tryz.ntmps75
  go_wp2_with fail
  refine HJ.out.mono ?_
  rintro e w1 ⟨h1, k1⟩
  obtain ⟨t, v, hj, rfl⟩ : ∃ t v, JErr _ t v ∧ e = .returned (.iface t v) := h1
  have HV := hid (HQ.out t v hj)
  clear HQ hj
  clear HJ
  go_wp2
  go_ret2
  exact ⟨⟨t, v, HV.out, rfl⟩, ((Keeps.refl _ w).al _).tr k1 (fun _ h => h)⟩

end Go.Proofs.YtpagenipflmlfaaGreatDoor

/- Write of a right stream, walked. -/

namespace Go.Proofs.YtpagenipflmlfaaGreatDoor

open Go.RowKit Go.Shelf

attribute [local go_sem] Oper.semAt_some

theorem bld_new (B tb : Nat) (w : World) (hB : B ≤ tb) (h : w.heap[tb]? = some (.cells #[.pointer none, .slice none 0 0] 192 (0, 0))) : Bld B w tb [] := by
  refine .inl ⟨hB, .slice none 0 0, h, ⟨rfl, .inl ⟨rfl, rfl⟩⟩, by simp [Value.ownBlock]⟩

theorem text_all (full : Bool) (a b : Nat) (r : List Rec) : (headL full a b ++ blocksL r) ++ tailL (ovL 0 (headL full a b ++ blocksL r)) r.length = streamL ⟨full, a, b, r⟩ := by
  have e : bodyL ⟨full, a, b, r⟩ = (headL full a b ++ blocksL r) ++ (numL 0 ++ numL r.length) := by simp only [bodyL, List.append_assoc]
  unfold streamL tailL checkL
  rw [e, ovL_append (c := 0) (headL full a b ++ blocksL r) (numL 0 ++ numL r.length)]
  simp only [List.append_assoc]

theorem WrAt.kept {B wb tb : Nat} {w5 W W' : World} {out : List UInt8} {n : Nat} {S : Nat → Prop} (h : WrAt B wb tb w5 out n W) (hk : Keeps S W W') (h1 : wb < w5.heap.size) (h2 : tb < w5.heap.size) (hS : ∀ k, S k → w5.heap.size ≤ k ∧ ¬ TypeIs W k 5) : WrAt B wb tb w5 out n W' := by
  obtain ⟨q1, q2, q3⟩ := h
  refine ⟨(hk.block wb (Array.getElem?_eq_some_iff.1 q1).1 (fun hs => by have := (hS _ hs).1; omega)).trans q1, q2.kept hk (fun hs => by have := (hS _ hs).1; omega) (fun k ht hs => (hS _ hs).2 ht), q3.trans hk (fun k hk5 hs => by have := (hS _ hs).1; omega)⟩

theorem wr_own {B wb tb : Nat} {w5 : World} {f : List Nat → List UInt8} {g : List Nat → Nat} (h1 : wb < w5.heap.size) (h2 : tb < w5.heap.size) : OwnFrom w5.heap.size (fun pre W => WrAt B wb tb w5 (f pre) (g pre) W) := by
  intro pre W W' row hs hg hr
  refine hs.kept (Keeps.grown hg) h1 h2 (fun k e => ?_)
  obtain ⟨e1, o, ho, hc⟩ := hr k e.symm
  refine ⟨e1, ?_⟩
  rintro ⟨cur, hcur⟩
  rw [hcur] at ho
  cases ho
  cases hc

theorem wr_step {B wb tb pa pb n c : Nat} {t1 t2 : TypeId} {w5 W W1 W2 : World} {out blk : List UInt8} (h1 : wb < w5.heap.size) (h2 : tb < w5.heap.size) (hne : wb ≠ tb) (ha : TypeIs w5 pa t1) (ht1 : t1 ≠ 5) (hb : TypeIs w5 pb t2) (ht2 : t2 ≠ 5) (ha1 : pa ≠ wb ∧ pa ≠ tb) (hb1 : pb ≠ wb ∧ pb ≠ tb)
    (hI : WrAt B wb tb w5 out n W) (q1 : W1.heap[wb]? = some (.cells #[.int .u32 (ovL (ovL 0 out) blk : Nat), .int .i64 ((n + c : Nat) : Int)] 127 (0, 0))) (k1 : Keeps (· = wb) W W1) (q2 : Bld B W2 tb (out ++ blk)) (k2 : Keeps (BldS B tb W1) W1 W2) :
    KeepsFrom w5.heap.size W W2 ∧ KpM [pa, pb] W W2 ∧ WrAt B wb tb w5 (out ++ blk) (n + c) W2 := by
  obtain ⟨p1, p2, p3⟩ := hI
  have hsz := p3.size
  have same : ∀ (k : Nat) (o : Obj), W.heap[k]? = some o → k ≠ wb → k ≠ tb → (∀ cur, o ≠ .cells cur 5 (0, 0)) → W2.heap[k]? = some o := fun k o ho e1 e2 e3 => by
    have x1 : W1.heap[k]? = some o := (k1.block k (Array.getElem?_eq_some_iff.1 ho).1 e1).trans ho
    refine (k2.block k (Array.getElem?_eq_some_iff.1 x1).1 ?_).trans x1
    rintro ⟨_, e | ⟨cur, e⟩⟩
    · exact e2 e
    · rw [x1] at e
      cases e
      exact e3 _ rfl
  have box : ∀ (k : Nat) (t : TypeId), TypeIs w5 k t → t ≠ 5 → k ≠ wb ∧ k ≠ tb → W2.heap[k]? = W.heap[k]? := fun k t ht htn e => by
    obtain ⟨cur, hc⟩ := ht
    have x : W.heap[k]? = some (.cells cur t (0, 0)) := (p3.block k (Array.getElem?_eq_some_iff.1 hc).1 (by
      rintro (e' | ⟨_, e' | e'⟩)
      · exact e.1 e'
      · exact e.2 e'
      · exact TypeIs.ne ⟨cur, hc⟩ htn e')).trans hc
    rw [x]
    exact same k _ x e.1 e.2 (fun cur' e' => by cases e'; exact htn rfl)
  refine ⟨⟨Nat.le_trans k1.size k2.size, fun k o hBk hko hc => same k o hko (by omega) (by omega) (fun cur e => by rw [e] at hc; cases hc)⟩, ⟨Nat.le_trans k1.size k2.size, fun k hk => ?_⟩, ?_, q2, ?_⟩
  · rcases List.mem_cons.1 hk with rfl | hk
    · exact box _ t1 ha ht1 ha1
    · have e : k = pb := by simpa using hk
      rw [e]
      exact box _ t2 hb ht2 hb1
  · rw [ovL_append]
    refine (k2.block wb (Array.getElem?_eq_some_iff.1 q1).1 ?_).trans q1
    rintro ⟨_, e | e⟩
    · exact hne e
    · exact TypeIs.ne ⟨_, q1⟩ (by decide) e
  · exact (p3.trans k1 (fun k _ e => .inl e)).bld k2

theorem write_four {w w1 w3 w4 : World} {cs : Array Value} {x y o3 o4 : Value} {hd : Value} (hz : w.heap.size + 1 ≤ w1.heap.size) (k2 : Keeps (fun _ => False) (w.alloc (.cells cs 84)) ((w1.alloc (.cells #[x, y] 127)).alloc (.cells #[o3, o4] 192)))
    (b2 : ((w1.alloc (.cells #[x, y] 127)).alloc (.cells #[o3, o4] 192)).heap[w.heap.size]? = some (.cells cs 84 (0, 0))) (hw3 : w3.heap[w1.heap.size]? = some (.cells #[hd, y] 127 (0, 0))) (k3 : Keeps (· = w1.heap.size) ((w1.alloc (.cells #[x, y] 127)).alloc (.cells #[o3, o4] 192)) w3)
    (k4 : Keeps (BldS w.heap.size (w1.heap.size + 1) w3) w3 w4) :
    w4.heap[w1.heap.size]? = some (.cells #[hd, y] 127 (0, 0)) ∧ w4.heap[w.heap.size]? = some (.cells cs 84 (0, 0)) ∧ Keeps (fun _ => False) w w4 := by
  have x3 : w3.heap[w.heap.size]? = some (.cells cs 84 (0, 0)) := (k3.block _ (Array.getElem?_eq_some_iff.1 b2).1 (by show ¬ (_ = _); omega)).trans b2
  refine ⟨(k4.block _ (Array.getElem?_eq_some_iff.1 hw3).1 ?_).trans hw3, (k4.block _ (Array.getElem?_eq_some_iff.1 x3).1 ?_).trans x3, ?_⟩
  · rintro ⟨_, e | e⟩
    · omega
    · exact TypeIs.ne ⟨_, hw3⟩ (by decide) e
  · rintro ⟨_, e | e⟩
    · omega
    · exact TypeIs.ne ⟨_, x3⟩ (by decide) e
  · refine ((((Keeps.refl (fun _ => False) w).al _).tr k2 (fun _ h => h)).trans k3 (fun k hk e => ?_)).trans k4 (fun k hk e => ?_)
    · have e' : k = w1.heap.size := e
      omega
    · have := e.1
      omega

set_option maxRecDepth 100000 in
set_option maxHeartbeats 2000000 in
theorem write_good (full : Bool) (a b : Nat) (oa : Option Addr) (cap : Nat) (l : List RecB) (w : World) (hr : RecIn w oa l) (hlc : l.length ≤ cap) (hcm : cap ≤ maxLen) (he : ∀ g, 3 ≤ g → g ≤ 7 → ErrAt w g) (ht : TurnsAt w) (hj : judgeB full a b l = true) :
    Calls Tryz.prog 75 #[.agg #[.bool full, .int .i64 (a : Nat), .int .i64 (b : Nat), .slice oa l.length cap]] w (WrPost true (streamL ⟨full, a, b, l.map RecB.rec_⟩) w) := by
  obtain ⟨ha, hb, hl, hsm⟩ := judge_facts hj
  have ka := Keeps.alloc (fun _ => False) w (.cells #[.bool full, .int .i64 (a : Nat), .int .i64 (b : Nat), .slice oa l.length cap] 84)
  have HJ : Hid (Calls Tryz.prog 114 #[.agg #[.bool full, .int .i64 (a : Nat), .int .i64 (b : Nat), .slice oa l.length cap]] (w.alloc (.cells #[.bool full, .int .i64 (a : Nat), .int .i64 (b : Nat), .slice oa l.length cap] 84)) fun e w' => e = .returned .nilIface ∧ Keeps (fun _ => False) (w.alloc (.cells #[.bool full, .int .i64 (a : Nat), .int .i64 (b : Nat), .slice oa l.length cap] 84)) w') := by
    refine (judge_any full a b oa cap l _ (hr.kept ka) (by unfold maxLen; omega) (fun r hr => by have := hsm r hr; unfold maxLen; omega) (fun g h1 h2 => (he g h1 h2).kept ka)).mono ?_
    rintro e w' ⟨h1, h2⟩
    rw [hj] at h1
    exact ⟨h1, h2⟩
  have HR := hid hr
  have HT := hid ht
  have HSM := hid hsm
  have HLC := hid hlc
  have HCM := hid hcm
  have HL := hid hl
  have HAB : Hid (a < 9223372036854775808 ∧ b < 9223372036854775808) := hid (by omega)
  have HAB2 : Hid (a < 34359738368 ∧ b < 34359738368) := hid (by omega)
  clear hr ht hsm he hj ka ha hb hlc hcm hl
  refine (callsIn_wide (n := 8)).1 ?_
  refine callsIn_of_wp_marks Tryz.func75 rfl trivial ?_ rfl
  simp only [Tryz.ntmps75, List.size_toArray, List.length_cons, List.length_nil, Nat.reduceAdd, Nat.reduceSub, Array.replicate_succ, Array.replicate_zero, List.push_toArray, List.append_toArray, List.nil_append, List.cons_append]
  have HHD : Hid (∀ W : World, ∀ wb, TurnsAt W → W.heap[wb]? = some (.cells #[.int .u32 0, .int .i64 0] 127 (0, 0)) → Calls Tryz.prog 98 #[.pointer (some ⟨wb, 0, none⟩), .bool full, .int .i64 (a : Nat), .int .i64 (b : Nat)] W fun e w' => e = .returned (.string (ofL (headL full a b))) ∧ w'.heap[wb]? = some (.cells #[.int .u32 (ovL 0 (headL full a b) : Nat), .int .i64 ((0 : Nat) : Int)] 127 (0, 0)) ∧ Keeps (· = wb) W w') := fun W wb h1 h2 =>
    head_any wb 0 #[.int .u32 0, .int .i64 0] 127 full a b 0 W h2 rfl (by omega) HAB.out.1 HAB.out.2 h1
  have HHL : Hid ((ofL (headL full a b)).size ≤ 100) := by
    have n1 := numL_len 8 a (by have := HAB2.out.1; omega)
    have n2 := numL_len 8 b (by have := HAB2.out.2; omega)
    show _ ≤ _
    rw [ofL_size]
    unfold headL kindL
    split <;> simp <;> omega
  generalize hhd : headL full a b = hd at HHD HHL
  gi_wp2_with (first
    | (refine ⟨trivial, ?_⟩; gi_at_call 114; go_must (refine (callsIn_wide.2 HJ.out).mono ?_; rintro e w1 ⟨rfl, k1⟩; have k2 := (k1.al (.cells #[.int .u32 0, .int .i64 0] 127)).al (.cells #[.pointer none, .slice none 0 0] 192); have b2 := (k2.block w.heap.size (by simp) (fun h => h)).trans (heap_new w _); have c0 := cell_of_heap b2 0; have c1 := cell_of_heap b2 1; have c2 := cell_of_heap b2 2; simp at c0 c1 c2; have hz1 : w.heap.size + 1 ≤ w1.heap.size := (by have := k1.size; simp at this; omega); have HZ1 := hid hz1; have K2 := hid k2; have B2 := hid b2; clear k1 k2 b2 HJ hz1))
    | (refine ⟨trivial, ?_⟩; gi_at_call 98; go_must (refine (callsIn_wide.2 (HHD.out _ _ (HT.out.kept (((Keeps.refl (fun _ => False) w).al _).tr K2.out (fun _ h => h)) (fun h => h)) ((Below.heap_alloc _ _ _ (by simp)).trans (heap_new w1 _)))).mono ?_; rintro e w3 ⟨rfl, hw3, k3⟩; have hb3 : Bld w.heap.size w3 (w1.heap.size + 1) [] := bld_new _ _ _ (by have := HZ1.out; omega) ((k3.block (w1.heap.size + 1) (by simp) (by show ¬ (_ = _); omega)).trans (by have := heap_new (w1.alloc (.cells #[.int .u32 0, .int .i64 0] 127)) (.cells #[.pointer none, .slice none 0 0] 192); simpa using this)); have HW3 := hid hw3; have HB3 := hid hb3; have K3 := hid k3; clear hw3 hb3 k3 c0 c1 c2))
    | (refine ⟨trivial, ?_⟩; gi_at_call 115; go_must (refine (callsIn_wide.2 (writeString_any w.heap.size (w1.heap.size + 1) [] (ofL hd) w3 HB3.out (by have := HHL.out; simp; omega) (by have h1 := K3.out.size; have h2 := HZ1.out; simp at h1; omega))).mono ?_; rintro e w4 ⟨rfl, hb4, k4⟩; obtain ⟨hw4, hx4, kw4⟩ := write_four HZ1.out K2.out B2.out HW3.out K3.out k4; have c3 := cell_of_heap hx4 3; simp at c3; have HB4 := hid hb4; have HW4 := hid hw4; have HX4 := hid hx4; have KW4 := hid kw4; have HZ4 : Hid (w1.heap.size + 2 ≤ w4.heap.size) := (by have h1 := K3.out.size; have h2 := k4.size; simp at h1; show _ ≤ _; omega); clear hb4 k4 hw4 hx4 kw4 HB3 K3 HW3 K2 B2))
    | (refine ⟨trivial, ?_⟩; gi_at_call 116; go_must (refine (callsIn_wide.2 (chunk_any oa l.length cap w4)).mono ?_; rintro e w5 ⟨rfl, rfl⟩)))
  obtain ⟨w5, hw5⟩ : ∃ w5, (w4.alloc (.cells #[.slice oa l.length cap] 82)).alloc (.cells #[.int .i64 4] 3) = w5 := ⟨_, rfl⟩
  rw [hw5]
  have k5 : Keeps (fun _ => False) w4 w5 := by rw [← hw5]; exact ((Keeps.refl _ w4).al _).al _
  have pA : w5.heap[w4.heap.size]? = some (.cells #[.slice oa l.length cap] 82 (0, 0)) := by rw [← hw5]; exact (Below.heap_alloc _ _ _ (by simp)).trans (heap_new w4 _)
  have pB : w5.heap[w4.heap.size + 1]? = some (.cells #[.int .i64 4] 3 (0, 0)) := by
    rw [← hw5]
    have := heap_new (w4.alloc (.cells #[.slice oa l.length cap] 82)) (.cells #[.int .i64 4] 3)
    simpa using this
  have hz5 : w5.heap.size = w4.heap.size + 2 := by rw [← hw5]; simp
  have hz4 := HZ4.out
  have hz1 := HZ1.out
  clear hw5
  have h0 : WrAt w.heap.size w1.heap.size (w1.heap.size + 1) w5 (hd ++ partsL l []) (partsN l []) w5 := by
    refine ⟨(k5.block _ (Array.getElem?_eq_some_iff.1 HW4.out).1 (fun h => h)).trans (by rw [HW4.out]; simp [partsL, partsN]), ?_, Keeps.refl _ _⟩
    have := HB4.out.kept k5 (fun h => h) (fun _ _ h => h)
    simpa [partsL, ofL] using this
  have hoa : l.length = 0 ∨ ∃ g off, oa = some ⟨g, off, none⟩ := by
    rcases Nat.eq_zero_or_pos l.length with e | e
    · exact .inl e
    · obtain ⟨g, off, e, _⟩ := HR.out 0 e
      exact .inr ⟨g, off, e⟩
  have hseq := chunk1_all w4.heap.size (w4.heap.size + 1) oa l.length cap w5 pA pB HL.out HLC.out HCM.out hoa
  rw [show (fun x : Nat => #[chunkV oa l.length x]) = fun x => #[.slice (chunkA oa x) (chunkL l x).length (chunkN l.length x)] from funext fun x => by rw [chunkV_eq]] at hseq
  have K5 := hid (KW4.out.tr k5 (fun _ h => h))
  have PA := hid pA
  have PB := hid pB
  clear k5 pA pB hoa HW4 HB4 HX4 KW4 c3
  refine wpIn_range_all (α := Nat) rfl (by omega) (gf := 146) (lb := #[.pointer (some ⟨w4.heap.size, 0, none⟩), .pointer (some ⟨w4.heap.size + 1, 0, none⟩)]) rfl trivial (enters_of Tryz.func146 (by kernel_rfl) rfl)
      hseq ?cs (fun h k => ⟨Nat.le_trans h.1 k.1, fun j hj => (k.2 j hj).trans (h.2 j hj)⟩) ?kb (fun _ => rfl) (fun pre W => WrAt w.heap.size w1.heap.size (w1.heap.size + 1) w5 (hd ++ partsL l pre) (partsN l pre) W)
      (wr_own (by omega) (by omega)) (fun pre A B hC h => h.kept hC (by omega) (by omega) (fun _ h => h.elim)) h0 ?act ?assign ?body ?done
  case cs =>
    rintro A B k hC hk ⟨o, ho, _⟩
    exact hC.block k (Array.getElem?_eq_some_iff.1 ho).1 (fun h => h)
  case kb =>
    intro W k o' hk
    exact ⟨by simp, fun j hj => World.putObj_heap_other (by
      rcases List.mem_cons.1 hj with rfl | hj
      · omega
      · have e : j = w4.heap.size + 1 := by simpa using hj
        omega)⟩
  case act => exact (fun x => { tmps := #[Value.agg #[.bool full, .int .i64 (a : Nat), .int .i64 (b : Nat), .slice oa l.length cap], .pointer (some ⟨w.heap.size, 0, none⟩), .string ⟨#[]⟩, .nilIface, .nilIface, .pointer (some ⟨w1.heap.size, 0, none⟩), .pointer (some ⟨w1.heap.size + 1, 0, none⟩), .slice (chunkA oa x) (chunkL l x).length (chunkN l.length x), .agg #[.bool full, .int .i64 (a : Nat), .int .i64 (b : Nat), .slice oa l.length cap], .nilIface, .nilIface, .bool false, undef, .pointer (some ⟨w.heap.size, 0, none⟩), .bool full, .pointer (some ⟨w.heap.size, 1, none⟩), .int .i64 (a : Nat), .pointer (some ⟨w.heap.size, 2, none⟩), .int .i64 (b : Nat), .string (ofL hd), .tuple #[.int .i64 (ofL hd).size, .nilIface], .pointer (some ⟨w.heap.size, 3, none⟩), .slice oa l.length cap, .func (.func 146) #[] #[.pointer (some ⟨w4.heap.size, 0, none⟩), .pointer (some ⟨w4.heap.size + 1, 0, none⟩)], .slice (chunkA oa x) (chunkL l x).length (chunkN l.length x), undef, undef, undef, undef, undef, undef], defers := [] })
  case assign =>
    intro l' x W K hK
    have ez : ∀ (t : Array Value) (v : Value), (#[24].zip #[v]).foldl (fun t (p, v) => t.setIfInBounds p v) t = t.setIfInBounds 24 v := fun t v => by simp [Array.zip]
    simp only [ez]
    gi_wp2
    exact hK
  case body =>
    intro l' pre x W hI hlt
    have kW : Keeps (fun _ => False) w W := K5.out.trans hI.2.2 (fun k hk e => by
      rcases e with e | e
      · omega
      · have := e.1; omega)
    have hzW := hI.2.2.size
    obtain ⟨hp1, hp2⟩ := parts_len HSM.out pre
    have hl := HL.out
    have hbk := block_any w1.heap.size 0 _ _ (ovL 0 (hd ++ partsL l pre)) (partsN l pre) (chunkA oa x) (chunkN l.length x) (chunkL l x) W hI.1 rfl rfl (ovL_lt _ _) (by omega) (by have := chunk_four l x; omega) ((HR.out.kept kW).chunk x) (chunk_small HSM.out x) (HT.out.kept kW (fun h => h))
    have hbl := block_len (chunk_small HSM.out x) (chunk_four l x)
    have hst : ∀ W1 W2, W1.heap[w1.heap.size]? = some (.cells #[.int .u32 (ovL (ovL 0 (hd ++ partsL l pre)) (blockL ((chunkL l x).map RecB.rec_)) : Nat), .int .i64 ((partsN l pre + (chunkL l x).length : Nat) : Int)] 127 (0, 0)) → Keeps (· = w1.heap.size) W W1 → Bld w.heap.size W2 (w1.heap.size + 1) ((hd ++ partsL l pre) ++ blockL ((chunkL l x).map RecB.rec_)) → Keeps (BldS w.heap.size (w1.heap.size + 1) W1) W1 W2 → KeepsFrom w5.heap.size W W2 ∧ KpM [w4.heap.size, w4.heap.size + 1] W W2 ∧ WrAt w.heap.size w1.heap.size (w1.heap.size + 1) w5 (hd ++ partsL l (pre ++ [x])) (partsN l (pre ++ [x])) W2 := fun W1 W2 q1 k1 q2 k2 => by
      rw [partsL_next, partsN_next, ← List.append_assoc]
      exact wr_step (by omega) (by omega) (by omega) ⟨_, PA.out⟩ (by decide) ⟨_, PB.out⟩ (by decide) (by omega) (by omega) hI q1 k1 q2 k2
    have hol : (hd ++ partsL l pre).length ≤ 10000000 := by
      have := HHL.out
      rw [ofL_size] at this
      rw [List.length_append]
      omega
    have HI := hid hI
    have HST := hid hst
    have HBK := hid hbk
    have HOL := hid hol
    have HBL := hid hbl
    have HZW := hid hzW
    clear hI hst hbk hol hbl hp1 hp2 hlt hl kW hzW hseq h0
    generalize blockL ((chunkL l x).map RecB.rec_) = blk at HST HBK HBL
    generalize partsN l pre = n at HST HBK HI
    generalize hd ++ partsL l pre = out at HST HBK HI HOL
    have HWS : Hid (∀ W1, Keeps (· = w1.heap.size) W W1 → Calls Tryz.prog 115 #[.pointer (some ⟨w1.heap.size + 1, 0, none⟩), .string (ofL blk)] W1 fun e w' => e = .returned (.tuple #[.int .i64 (ofL blk).size, .nilIface]) ∧ Bld w.heap.size w' (w1.heap.size + 1) (out ++ blk) ∧ Keeps (BldS w.heap.size (w1.heap.size + 1) W1) W1 w') := fun W1 k1 => by
      have hb1 : Bld w.heap.size W1 (w1.heap.size + 1) out := HI.out.2.1.kept k1 (by show ¬ (_ = _); omega) (fun k ht e => by
        have e' : k = w1.heap.size := e
        rw [e'] at ht
        exact TypeIs.ne ⟨_, HI.out.1⟩ (by decide) ht)
      have hz := k1.size
      have hzw := HZW.out
      have := writeString_any w.heap.size (w1.heap.size + 1) out (ofL blk) W1 hb1 (by rw [ofL_size]; have h1 := HOL.out; have h2 := HBL.out; omega) (by omega)
      rwa [ofL_list] at this
    gi_wp2_with (first
      | (refine ⟨trivial, ?_⟩; gi_at_call 100; go_must (refine (CallsIn.inRound l' (callsIn_wide.2 HBK.out)).mono ?_; rintro e W1 ⟨rfl, r1, k1⟩))
      | (refine ⟨trivial, ?_⟩; gi_at_call 115; go_must (refine (CallsIn.inRound l' (callsIn_wide.2 (HWS.out W1 k1))).mono ?_; rintro e W2 ⟨rfl, r2, k2⟩)))
    exact HST.out W1 W2 r1 k1 r2 k2
  case done =>
    rintro D xs W hD rfl hI hK
    obtain ⟨e1, e2⟩ := parts_all l.length l (Nat.le_refl _)
    rw [e1, e2] at hI
    have hbl : (blocksL (l.map RecB.rec_)).length ≤ 10000000 := by
      rw [← e1]
      have := (parts_len HSM.out (List.range ((l.length + 3) / 4))).1
      have hl := HL.out
      rw [List.length_range] at this
      omega
    have hol : (hd ++ blocksL (l.map RecB.rec_)).length ≤ 10000100 := by
      have := HHL.out
      rw [ofL_size] at this
      rw [List.length_append]
      omega
    have kW : Keeps (fun _ => False) w W := K5.out.trans hI.2.2 (fun k hk e => by
      rcases e with e | e
      · omega
      · have := e.1; omega)
    have htx := text_all full a b (l.map RecB.rec_)
    rw [List.length_map, hhd] at htx
    have hl := HL.out
    have htl := tail_any w1.heap.size 0 _ _ (ovL 0 (hd ++ blocksL (l.map RecB.rec_))) l.length W hI.1 rfl rfl (ovL_lt _ _) (by omega) (HT.out.kept kW (fun h => h))
    have hn : (tailL (ovL 0 (hd ++ blocksL (l.map RecB.rec_))) l.length).length ≤ 100 := by
      have n1 := numL_len 8 0 (by omega)
      have n2 := numL_len 8 l.length (by omega)
      unfold tailL sumL
      simp only [List.length_append, List.length_cons, List.length_nil]
      omega
    have HI := hid hI
    have HTL := hid htl
    have HTX := hid htx
    have HN := hid hn
    have HOL := hid hol
    have HKW := hid kW
    have HK := hid hK
    have HD := hid hD
    have hne : (hd ++ blocksL (l.map RecB.rec_)) ++ tailL (ovL 0 (hd ++ blocksL (l.map RecB.rec_))) l.length ≠ [] := by
      unfold tailL sumL
      simp
    have HNE := hid hne
    have HZW := hid hI.2.2.size
    clear hI htl htx hn hol hbl e1 e2 kW hl hK hD hne hseq h0
    generalize tailL (ovL 0 (hd ++ blocksL (l.map RecB.rec_))) l.length = tl at HTL HTX HN HNE
    generalize hd ++ blocksL (l.map RecB.rec_) = out at HTL HTX HN HI HOL HNE
    have HWS : Hid (∀ W1, Keeps (fun _ => False) W W1 → Calls Tryz.prog 115 #[.pointer (some ⟨w1.heap.size + 1, 0, none⟩), .string (ofL tl)] W1 fun e w' => e = .returned (.tuple #[.int .i64 (ofL tl).size, .nilIface]) ∧ Bld w.heap.size w' (w1.heap.size + 1) (out ++ tl) ∧ Keeps (BldS w.heap.size (w1.heap.size + 1) W1) W1 w') := fun W1 k1 => by
      have hb1 : Bld w.heap.size W1 (w1.heap.size + 1) out := HI.out.2.1.kept k1 (fun h => h) (fun k ht e => e)
      have hz := k1.size
      have hzw := HZW.out
      have := writeString_any w.heap.size (w1.heap.size + 1) out (ofL tl) W1 hb1 (by rw [ofL_size]; have h1 := HOL.out; have h2 := HN.out; omega) (by omega)
      rwa [ofL_list] at this
    have keptD : ∀ (A B : World), A.heap[D]? = some (.deferred (some [])) → Keeps (BldS w.heap.size (w1.heap.size + 1) A) A B → B.heap[D]? = some (.deferred (some [])) := fun A B hA hk => by
      have hD := HD.out
      refine (hk.block D (Array.getElem?_eq_some_iff.1 hA).1 ?_).trans hA
      rintro ⟨_, e | ⟨cur, e⟩⟩
      · omega
      · rw [hA] at e
        cases e
    have HKD := hid keptD
    clear keptD
    gi_wp2_with (first
      | (refine ⟨trivial, ?_⟩; gi_at_call 99; go_must (refine (callsIn_wide.2 HTL.out).mono ?_; rintro e W1 ⟨rfl, k1⟩))
      | (refine ⟨trivial, ?_⟩; gi_at_call 115; go_must (refine (callsIn_wide.2 (HWS.out W1 k1)).mono ?_; rintro e W2 ⟨rfl, r2, k2⟩))
      | (refine ⟨trivial, ?_⟩; gi_at_call 117; go_must (refine (callsIn_wide.2 (string_any w.heap.size (w1.heap.size + 1) _ W2 r2 HNE.out)).mono ?_; rintro e W3 ⟨rfl, k3⟩)))
    have hK3 : W3.heap[D]? = some (.deferred (some [])) := HKD.out W2 W3 (HKD.out W1 W2 ((k1.block D (Array.getElem?_eq_some_iff.1 HK.out).1 (fun h => h)).trans HK.out) k2) k3
    refine ⟨by simp, .inl ⟨_, _, rfl, run_takeDeferred hK3, ?_⟩⟩
    refine ⟨_, results_tmp2 rfl _ _ _, ?_⟩
    refine ⟨by rw [if_pos rfl, ← HTX.out]; rfl, ?_⟩
    have kp := Keeps.grown (grownBy_putObj' W3 D (.deferred none))
    refine (((HKW.out.tr k1 (fun _ h => h)).trans k2 (fun k hk e => ?_)).trans k3 (fun k hk e => ?_)).trans kp (fun k hk e => ?_)
    · have := e.1; omega
    · have := e.1; omega
    · have hD := HD.out
      simp only [Option.some.injEq] at e
      omega

end Go.Proofs.YtpagenipflmlfaaGreatDoor

/- Texts of streams, read with the place of what is wrong first: pure. -/

namespace Go.Proofs.YtpagenipflmlfaaGreatDoor

/-- what reading comes to: how much was left where what is wrong begins; or what was read, and the rest -/
abbrev Rd (α : Type) : Type := Nat ⊕ (α × List UInt8)

abbrev Rd.bad {α : Type} (left : Nat) : Rd α := .inl left

abbrev Rd.ok {α : Type} (a : α) (rest : List UInt8) : Rd α := .inr (a, rest)

def Rd.bind {α β : Type} (x : Rd α) (f : α → List UInt8 → Rd β) : Rd β :=
  match x with
  | .inl k => .bad k
  | .inr (a, r) => f a r

theorem Rd.bind_ok {α β : Type} (a : α) (r : List UInt8) (f : α → List UInt8 → Rd β) : (Rd.ok a r).bind f = f a r := rfl

def takeR (n : Nat) (l : List UInt8) : Rd (List UInt8) := if n ≤ l.length then .ok (l.take n) (l.drop n) else .bad l.length

def nrR (l : List UInt8) : Rd Nat :=
  match numAt l with
  | none => .bad l.length
  | some x => .ok x.1 (l.drop x.2)

def bndR (least most : Nat) (l : List UInt8) : Rd Nat := (nrR l).bind fun n r => if least ≤ n ∧ n ≤ most then .ok n r else .bad l.length

def valR (key : List UInt8) (size : Nat) (l : List UInt8) : Rd Rec :=
  if size = 0 then .ok ⟨key, [], true⟩ l else (takeR (size - 1) l).bind fun v r => .ok ⟨key, v, false⟩ r

def recR (ahead : List UInt8) (l : List UInt8) : Rd Rec :=
  (bndR 0 ahead.length l).bind fun c l1 => (bndR (1 - c) (10 - c) l1).bind fun m l2 => (takeR m l2).bind fun rest l3 =>
    (bndR 0 41 l3).bind fun s l4 => valR (ahead.take c ++ rest) s l4

def recsR : Nat → List UInt8 → List UInt8 → Rd (List Rec)
  | 0, _, l => .ok [] l
  | n + 1, ahead, l => (recR ahead l).bind fun r l1 => (recsR n r.key l1).bind fun x l2 => .ok (r :: x) l2

/-- behind a block's records: its check -/
def endR (l : List UInt8) (x : List Rec) (l2 : List UInt8) : Rd (List Rec) :=
  (takeR 4 l2).bind fun s l3 => if s = checkL (l.take (l.length - l2.length)) then .ok x l3 else .bad l2.length

/-- a block; no records: there are no more -/
def blockR (l : List UInt8) : Rd (List Rec) :=
  (bndR 0 4 l).bind fun n l1 => if n = 0 then .ok [] l1 else (recsR n [] l1).bind fun x l2 => endR l x l2

def blocksR : Nat → List Rec → List UInt8 → Rd (List Rec)
  | 0, acc, l => .ok acc l
  | f + 1, acc, l => (blockR l).bind fun b l1 => if b = [] then .ok acc l1 else blocksR f (acc ++ b) l1

def kindR (l : List UInt8) : Rd Bool :=
  (takeR 4 l).bind fun x r => if x = kindL true then .ok true r else if x = kindL false then .ok false r else .bad l.length

def tailR (n : Nat) (l : List UInt8) : Rd Unit :=
  (nrR l).bind fun m r => if m = n then (if r = [] then .ok () r else .bad r.length) else .bad l.length

def coreR (l : List UInt8) : Rd Str :=
  (kindR l).bind fun k l1 => (nrR l1).bind fun a l2 => (nrR l2).bind fun b l3 => (blocksR (l.length + 1) [] l3).bind fun x l4 =>
    (tailR x.length l4).bind fun _ l5 => .ok ⟨k, a, b, x⟩ l5

theorem takeR_append (a r : List UInt8) : takeR a.length (a ++ r) = .ok a r := by simp [takeR]

theorem nrR_num {m : Nat} (h : m < 34359738368) (r : List UInt8) : nrR (numL m ++ r) = .ok m r := by simp [nrR, numAt_num h]

theorem bndR_num {m least most : Nat} (h : m < 34359738368) (h1 : least ≤ m) (h2 : m ≤ most) (r : List UInt8) : bndR least most (numL m ++ r) = .ok m r := by simp [bndR, nrR_num h, h1, h2, Rd.bind]

theorem recR_rec {ahead : List UInt8} {r : Rec} (ha : ahead.length ≤ 10) (h : r.ok) (t : List UInt8) : recR ahead (recL ahead r ++ t) = .ok r t := by
  obtain ⟨h1, h2, h3, h4⟩ := h
  obtain ⟨c1, c2⟩ := common_le ahead r.key
  have c3 := common_take ahead r.key
  have e : (r.key.drop (common ahead r.key)).length = r.key.length - common ahead r.key := by simp
  have hk : ahead.take (common ahead r.key) ++ r.key.drop (common ahead r.key) = r.key := by rw [c3, List.take_append_drop]
  simp only [recR, recL, List.append_assoc]
  generalize common ahead r.key = c at *
  rw [bndR_num (by omega) (by omega) c1, Rd.bind_ok]
  rw [bndR_num (by omega) (by omega) (by omega), Rd.bind_ok]
  rw [← e, takeR_append, Rd.bind_ok]
  obtain ⟨key, value, gone⟩ := r
  cases gone with
  | true =>
    have hv : value = [] := h4 rfl
    subst hv
    simp only [tailOf, if_true]
    rw [bndR_num (by omega) (by omega) (by omega), Rd.bind_ok]
    simp only [valR, if_true]
    rw [hk]
  | false =>
    simp only [tailOf, Bool.false_eq_true, if_false, List.append_assoc]
    simp only at h3
    rw [bndR_num (by omega) (by omega) (by omega), Rd.bind_ok]
    simp only [valR]
    rw [if_neg (by omega), Nat.add_sub_cancel_left, takeR_append, Rd.bind_ok, hk]

theorem recsR_recs : ∀ (rs : List Rec) (ahead t : List UInt8), ahead.length ≤ 10 → (∀ r ∈ rs, r.ok) → recsR rs.length ahead (recsL ahead rs ++ t) = .ok rs t
  | [], ahead, t, _, _ => by simp [recsR, recsL]
  | r :: rs, ahead, t, ha, h => by
    have hr := h r (by simp)
    simp only [List.length_cons, recsR, recsL, List.append_assoc]
    rw [recR_rec ha hr, Rd.bind_ok, recsR_recs rs r.key t hr.2.1 (fun r hr => h r (by simp [hr])), Rd.bind_ok]

theorem blockR_block {rs : List Rec} (h0 : rs ≠ []) (h4 : rs.length ≤ 4) (h : ∀ r ∈ rs, r.ok) (t : List UInt8) : blockR (blockL rs ++ t) = .ok rs t := by
  have hl := List.length_pos_iff.2 h0
  simp only [blockR, blockL, blockB, List.append_assoc]
  rw [bndR_num (by omega) (by omega) h4, Rd.bind_ok]
  rw [if_neg (by omega), recsR_recs rs [] _ (by simp) h, Rd.bind_ok]
  simp only [endR]
  rw [← checkL_length (numL rs.length ++ recsL [] rs), takeR_append, Rd.bind_ok]
  rw [if_pos]
  congr 1
  have e : ∀ a b c : List UInt8, (a ++ (b ++ c)).length - c.length = (a ++ b).length := by intro a b c; simp; omega
  rw [e, ← List.append_assoc, List.take_left]

theorem blockR_end (t : List UInt8) : blockR (numL 0 ++ t) = .ok [] t := by
  simp only [blockR]
  rw [bndR_num (by omega) (by omega) (by omega), Rd.bind_ok]
  rfl

theorem blocksR_blocks : ∀ (f : Nat) (acc rs : List Rec) (t : List UInt8), rs.length < f → (∀ r ∈ rs, r.ok) → blocksR f acc (blocksL rs ++ (numL 0 ++ t)) = .ok (acc ++ rs) t
  | 0, _, _, _, h, _ => by omega
  | f + 1, acc, rs, t, hf, h => by
    by_cases h0 : rs = []
    · subst h0
      rw [blocksL_nil]
      simp only [List.nil_append, blocksR]
      rw [blockR_end, Rd.bind_ok, if_pos rfl]
      simp
    · have hl := List.length_pos_iff.2 h0
      have hne : rs.take 4 ≠ [] := by intro e; have := congrArg List.length e; rw [List.length_take, List.length_nil] at this; omega
      rw [blocksL_more h0]
      simp only [List.append_assoc, blocksR]
      rw [blockR_block hne (by simp; omega) (fun r hr => h r (List.mem_of_mem_take hr)), Rd.bind_ok, if_neg hne]
      rw [blocksR_blocks f (acc ++ rs.take 4) (rs.drop 4) t (by simp; omega) (fun r hr => h r (List.mem_of_mem_drop hr))]
      simp

theorem coreR_body {x : Str} (h : x.ok) : coreR (bodyL x) = .ok x [] := by
  obtain ⟨h1, h2, h3, h4⟩ := h
  have hb := blocksL_length _ x.recs (Nat.le_refl _)
  have hlen : x.recs.length < (bodyL x).length + 1 := by simp only [bodyL, List.length_append]; omega
  have ek : ∀ t, kindR (kindL x.full ++ t) = .ok x.full t := by
    intro t
    cases x.full <;> simp [kindR, kindL, takeR, Rd.bind]
  unfold coreR
  rw [show kindR (bodyL x) = .ok x.full (numL x.a ++ (numL x.b ++ (blocksL x.recs ++ (numL 0 ++ numL x.recs.length)))) by
    simp only [bodyL, headL, List.append_assoc]
    exact ek _]
  rw [Rd.bind_ok, nrR_num h1, Rd.bind_ok, nrR_num h2, Rd.bind_ok, blocksR_blocks _ _ _ _ hlen h4, Rd.bind_ok]
  have := nrR_num h3 []
  rw [List.append_nil] at this
  simp only [tailR, List.nil_append]
  rw [this]
  simp [Rd.bind]

end Go.Proofs.YtpagenipflmlfaaGreatDoor

/- A reader: take. -/

namespace Go.Proofs.YtpagenipflmlfaaGreatDoor

open Go.RowKit Go.Shelf

/-- the reader at a place of its text -/
def RdAt (w : World) (rb : Nat) (text : ByteArray) (at_ count : Nat) (rv : Value) : Prop := w.heap[rb]? = some (.cells #[.string text, .int .i64 (at_ : Nat), .int .i64 (count : Nat), rv] 177 (0, 0))

/-- what is left of a text -/
def restL (text : ByteArray) (at_ : Nat) : List UInt8 := text.data.toList.drop at_

theorem restL_len (text : ByteArray) (at_ : Nat) : (restL text at_).length = text.size - at_ := by
  unfold restL ByteArray.size
  rw [List.length_drop, Array.length_toList]

/-- the errors that are no other check -/
def NoSum (g : Nat) : Prop := g ≤ 15 ∧ g ≠ 0 ∧ g ≠ 2 ∧ g ≠ 8

def ErrsAt (w : World) : Prop := ∀ g, NoSum g → ErrAt w g

/-- a fault at a place -/
def Flt (w w' : World) (v : Value) (place : Nat) : Prop := ∃ b t u g, v = .iface 173 (.pointer (some ⟨b, 0, none⟩)) ∧ w.heap.size ≤ b ∧ w'.heap[b]? = some (.cells #[.int .i64 (place : Nat), .iface t u] 175 (0, 0)) ∧ NoSum g ∧ w.cell? ⟨g, 0, none⟩ = some (.iface t u)

/-- what a reading function leaves -/
def RdPost {α : Type} (enc : α → Value) (zero : Value) (rb : Nat) (text : ByteArray) (count : Nat) (rv : Value) (x : Rd α) (w : World) (e : Ending) (w' : World) : Prop := match x with
  | .inl left => (∃ v, e = .returned (.tuple #[zero, v]) ∧ Flt w w' v (text.size - left)) ∧ Keeps (· = rb) w w'
  | .inr (a, rest) => e = .returned (.tuple #[enc a, .nilIface]) ∧ RdAt w' rb text (text.size - rest.length) count rv ∧ Keeps (· = rb) w w'

theorem extract_rest (s : ByteArray) (i n : Nat) : s.extract i (i + n) = ofL ((restL s i).take n) := by
  unfold restL ofL
  apply ByteArray.ext
  apply Array.ext'
  simp [ByteArray.data_extract, Array.toList_extract, List.extract_eq_take_drop]

set_option maxRecDepth 100000 in
set_option maxHeartbeats 1000000 in
theorem take_any (rb : Nat) (text : ByteArray) (at_ count n : Nat) (rv : Value) (w : World) (h : RdAt w rb text at_ count rv) (hat : at_ ≤ text.size) (hts : text.size ≤ 1000000000000) (hn : n ≤ 1000000000000) (he : ErrsAt w) :
    Calls Tryz.prog 155 #[.pointer (some ⟨rb, 0, none⟩), .int .i64 (n : Nat)] w (RdPost (fun l => .string (ofL l)) (.string ⟨#[]⟩) rb text count rv (takeR n (restL text at_)) w) := by
  have c0 : w.cell? ⟨rb, 0, none⟩ = some (.string text) := cell_of_heap h 0
  have c1 : w.cell? ⟨rb, 1, none⟩ = some (.int .i64 (at_ : Nat)) := cell_of_heap h 1
  have f1 : w.frozen? ⟨rb, 1, none⟩ = false := frozen_of_heap h 1
  have HB := hid h
  have hlen := restL_len text at_
  by_cases hfit : n ≤ text.size - at_
  · have e : takeR n (restL text at_) = .ok ((restL text at_).take n) ((restL text at_).drop n) := by unfold takeR; rw [if_pos (by omega)]
    have hex := extract_rest text at_ n
    have hp : text.size - ((restL text at_).drop n).length = at_ + n := by rw [List.length_drop, hlen]; omega
    rw [e]
    have HF : Hid (RdAt (w.setCell ⟨rb, 1, none⟩ (.int .i64 ((at_ : Int) + n))) rb text (text.size - ((restL text at_).drop n).length) count rv) := by
      show _ = _
      rw [heap_setCell_same HB.out, hp]
      simp
    have HX := hid hex
    clear e hp hex hlen h he
    go_enter Tryz.func155, Tryz.ntmps155
    go_wp2
    go_region
    go_wp2
    go_region
    go_wp2
    go_ret2
    refine ⟨?_, HF.out, ((Keeps.setCell w ⟨rb, 1, none⟩ (.int .i64 ((at_ : Int) + n))).dr).dr⟩
    show _ = Ending.returned (.tuple #[.string (ofL ((restL text at_).take n)), .nilIface])
    rw [← HX.out]
    rfl
  · have e : takeR n (restL text at_) = .bad (restL text at_).length := by unfold takeR; rw [if_neg (by omega)]
    rw [e, hlen]
    obtain ⟨t, u, g10⟩ := he 10 (by unfold NoSum; omega)
    have hp : text.size - (text.size - at_) = at_ := by omega
    have HG := hid g10
    have HP := hid hp
    clear e hlen h he hp
    go_enter Tryz.func155, Tryz.ntmps155
    go_wp2
    go_region
    go_wp2
    go_region
    go_wp2
    go_ret2
    refine ⟨⟨_, rfl, _, t, u, 10, rfl, ?_, ?_, (by unfold NoSum; omega), HG.out⟩, ?_⟩
    · simp
    · rw [HP.out]
      exact heap_new _ _
    · exact ((((Keeps.refl _ w).dr).dr).al _)

end Go.Proofs.YtpagenipflmlfaaGreatDoor

/- A reader: number. -/

namespace Go.Proofs.YtpagenipflmlfaaGreatDoor

open Go.RowKit Go.Shelf

theorem and127 {d : Nat} (hd : d < 256) : bits BinOp.and IntKind.u8 (d : Int) 127 = ((d % 128 : Nat) : Int) := by
  have h := bits_mask .u8 8 (by simp [IntKind.bits]) (fun n h0 h1 => wraps_u8 n h0 h1) 7 (by omega) (d : Int) (by omega) (by omega)
  simpa using h

/-- between two digits of a number -/
structure NumAt (rest : List UInt8) (k acc : Nat) : Prop where
  five : k ≤ 5
  len : k ≤ rest.length
  low : acc < 128 ^ k
  same : numAt rest = numFrom (5 - k) k acc (rest.drop k)

theorem NumAt.cut {rest : List UInt8} {k acc : Nat} (h : NumAt rest k acc) (hl : rest.length = k) : nrR rest = .bad rest.length := by
  unfold nrR
  rw [h.same, List.drop_eq_nil_of_le (by omega)]
  cases 5 - k <;> rfl

theorem NumAt.full {rest : List UInt8} {acc : Nat} (h : NumAt rest 5 acc) : nrR rest = .bad rest.length := by
  unfold nrR
  rw [h.same]
  rfl

theorem NumAt.digit {rest : List UInt8} {k acc : Nat} (h : NumAt rest k acc) (hk : k < 5) (hl : k < rest.length) :
    numAt rest = if rest[k].toNat < 128 then (if rest[k].toNat = 0 ∧ 0 < k then none else some (acc + rest[k].toNat * 128 ^ k, k + 1)) else numFrom (5 - (k + 1)) (k + 1) (acc + (rest[k].toNat - 128) * 128 ^ k) (rest.drop (k + 1)) := by
  rw [h.same, List.drop_eq_getElem_cons hl, show 5 - k = 5 - (k + 1) + 1 by omega]
  rfl

theorem NumAt.zero {rest : List UInt8} {k acc : Nat} (h : NumAt rest k acc) (hk : k < 5) (hl : k < rest.length) (hd : rest[k].toNat = 0) (h0 : 0 < k) : nrR rest = .bad rest.length := by
  unfold nrR
  rw [h.digit hk hl, if_pos (by omega), if_pos ⟨hd, h0⟩]

theorem NumAt.last {rest : List UInt8} {k acc : Nat} (h : NumAt rest k acc) (hk : k < 5) (hl : k < rest.length) (hd : rest[k].toNat < 128) (h0 : ¬ (rest[k].toNat = 0 ∧ 0 < k)) : nrR rest = .ok (acc + rest[k].toNat * 128 ^ k) (rest.drop (k + 1)) := by
  unfold nrR
  rw [h.digit hk hl, if_pos hd, if_neg h0]

theorem NumAt.next {rest : List UInt8} {k acc : Nat} (h : NumAt rest k acc) (hk : k < 5) (hl : k < rest.length) (hd : ¬ rest[k].toNat < 128) : NumAt rest (k + 1) (acc + (rest[k].toNat - 128) * 128 ^ k) := by
  refine ⟨by omega, hl, ?_, ?_⟩
  · have h1 := h.low
    have h2 : rest[k].toNat < 256 := UInt8.toNat_lt _
    have h3 : (rest[k].toNat - 128) * 128 ^ k ≤ 127 * 128 ^ k := Nat.mul_le_mul_right _ (by omega)
    rw [Nat.pow_succ]
    omega
  · rw [h.digit hk hl, if_neg hd]

end Go.Proofs.YtpagenipflmlfaaGreatDoor
