import Derived.Test.YtpagenipflmlfaaGreatDoorM15
import Derived.Laws.ResultCell
import Derived.Deep.RegionLaw

/- A reader: record. -/

namespace Go.Proofs.YtpagenipflmlfaaGreatDoor

open Go.RowKit Go.Shelf

def recV (r : Rec) : Value := .agg #[.string (ofL r.key), .string (ofL r.value), .bool r.gone]

def recZ : Value := .agg #[.string ⟨#[]⟩, .string ⟨#[]⟩, .bool false]

theorem max_i64 (a b : Int) (W : World) : (Builtin.max_ #[3, 3] 3 #[.int .i64 a, .int .i64 b]).run Tryz.prog W = .ok (.int .i64 (max a b)) W := by
  by_cases h : b ≤ a
  · rw [Int.max_eq_left h]
    simp [Builtin.max_, Builtin.max2]
    omega
  · rw [Int.max_eq_right (by omega)]
    simp [Builtin.max_, Builtin.max2]
    omega

/-- the block of the result, and what a call has left of it -/
theorem recq_cells {w w1 : World} {rb : Nat} {x y z : Value} (hz : rb < w.heap.size) (k : Keeps (· = rb) (w.alloc (.cells #[x, y, z] 147)) w1) : w1.heap[w.heap.size]? = some (.cells #[x, y, z] 147 (0, 0)) :=
  (k.block w.heap.size (by simp) (fun e => by have e' : w.heap.size = rb := e; omega)).trans (heap_new w _)

/-- an error, handed on -/
theorem rec_bad {α : Type} {enc : α → Value} {zero : Value} {rb count b left g : Nat} {text : ByteArray} {rv : Value} {w w0 w1 wz : World} {t : TypeId} {u : Value} (he : ErrsAt w) (hrb : 16 ≤ rb) (k0 : Keeps (· = rb) w w0) (hq : w.heap.size < w0.heap.size)
    (hf : w0.heap.size ≤ b ∧ w1.heap[b]? = some (.cells #[.int .i64 ((text.size - left : Nat) : Int), .iface t u] 175 (0, 0)) ∧ NoSum g ∧ w0.cell? ⟨g, 0, none⟩ = some (.iface t u)) (k1 : Keeps (· = rb) w0 w1) (kz : Keeps (· = w.heap.size) w1 wz) :
    RdPost enc zero rb text count rv (.bad left) w (.returned (.tuple #[zero, .iface 173 (.pointer (some ⟨b, 0, none⟩))])) wz := by
  obtain ⟨h1, h2, hg, hc⟩ := hf
  have hc0 : w.cell? ⟨g, 0, none⟩ = some (.iface t u) := by
    obtain ⟨t', u', h'⟩ := he g hg
    have hlt : g < 16 := by unfold NoSum at hg; omega
    have := k0.cell h' (fun e => by have e' : g = rb := e; omega)
    rw [this] at hc
    rw [h']
    exact hc
  refine ⟨⟨_, rfl, b, t, u, g, rfl, by omega, (kz.block b (Array.getElem?_eq_some_iff.1 h2).1 (fun e => by have e' : b = w.heap.size := e; omega)).trans h2, hg, hc0⟩, ?_⟩
  exact (k0.trans k1 (fun _ _ e => e)).trans kz (fun k hk e => by have e' : k = w.heap.size := e; omega)

theorem three_set (w1 : World) (q : Nat) (x y z : Value) : Keeps (· = q) w1 (((w1.setCell ⟨q, 0, none⟩ x).setCell ⟨q, 1, none⟩ y).setCell ⟨q, 2, none⟩ z) :=
  ((Keeps.setCell w1 ⟨q, 0, none⟩ x).trans (Keeps.setCell _ ⟨q, 1, none⟩ y) (fun _ _ e => e)).trans (Keeps.setCell _ ⟨q, 2, none⟩ z) (fun _ _ e => e)

theorem three_new {w1 : World} {q : Nat} {t : TypeId} {a b c : Value} (h : w1.heap[q]? = some (.cells #[a, b, c] t (0, 0))) (x y z : Value) : (((w1.setCell ⟨q, 0, none⟩ x).setCell ⟨q, 1, none⟩ y).setCell ⟨q, 2, none⟩ z).heap[q]? = some (.cells #[x, y, z] t (0, 0)) := by
  have h1 : (w1.setCell ⟨q, 0, none⟩ x).heap[q]? = some (.cells #[x, b, c] t (0, 0)) := by rw [heap_setCell_same h]; simp
  have h2 : ((w1.setCell ⟨q, 0, none⟩ x).setCell ⟨q, 1, none⟩ y).heap[q]? = some (.cells #[x, y, c] t (0, 0)) := by rw [heap_setCell_same h1]; simp
  rw [heap_setCell_same h2]
  simp

/-- the new record, in whatever order it was made -/
structure RecNew (w3 : World) (key : ByteArray) (xb : Nat) (W5 : World) : Prop where
  ge : w3.heap.size ≤ xb
  cells : W5.heap[xb]? = some (.cells #[.string key, .string ⟨#[]⟩, .bool false] 147 (0, 0))
  keep : Keeps (fun _ => False) w3 W5

theorem recNew1 {w3 w4 : World} (key : ByteArray) (k4 : Keeps (fun _ => False) w3.drew w4) : RecNew w3 key w4.heap.size (w4.alloc (.cells #[.string key, .string ⟨#[]⟩, .bool false] 147)) :=
  ⟨k4.size, heap_new w4 _, ((Keeps.drew (fun _ => False) w3).tr k4 (fun _ h => h)).al _⟩

theorem recNew2 {w3 w4 : World} {a b c : Value} (key : ByteArray) (k4 : Keeps (fun _ => False) (w3.alloc (.cells #[a, b, c] 147)).drew w4) : RecNew w3 key w3.heap.size (((w4.setCell ⟨w3.heap.size, 0, none⟩ (.string key)).setCell ⟨w3.heap.size, 1, none⟩ (.string ⟨#[]⟩)).setCell ⟨w3.heap.size, 2, none⟩ (.bool false)) := by
  have n : w4.heap[w3.heap.size]? = some (.cells #[a, b, c] 147 (0, 0)) := (k4.block w3.heap.size (by simp) (fun h => h)).trans (heap_new w3 _)
  refine ⟨Nat.le_refl _, three_new n _ _ _, ?_⟩
  exact ((((Keeps.refl (fun _ => False) w3).al _).dr).tr k4 (fun _ h => h)).trans (three_set w4 w3.heap.size _ _ _) (fun k hk e => by have e' : k = w3.heap.size := e; omega)

theorem rec_good {rb count q xb : Nat} {text : ByteArray} {rv : Value} {w w6 wz : World} {r : Rec} {l4 : List UInt8} (hq : q = w.heap.size) (hx : w.heap.size ≤ xb) (hz : rb < w.heap.size) (k : Keeps (· = rb) w w6) (r6 : RdAt w6 rb text (text.size - l4.length) count rv) (kz : Keeps (fun k => k = q ∨ k = xb) w6 wz) :
    RdPost recV recZ rb text count rv (.ok r l4) w (.returned (.tuple #[recV r, .nilIface])) wz := by
  subst hq
  refine ⟨rfl, (kz.block rb (Array.getElem?_eq_some_iff.1 r6).1 (by rintro (e | e) <;> omega)).trans r6, k.trans kz (fun i hi e => by rcases e with e | e <;> omega)⟩

theorem key_extract (ahead : ByteArray) (c : Nat) (x : List UInt8) : ahead.extract 0 c ++ ofL x = ofL (ahead.data.toList.take c ++ x) := by
  have := extract_rest ahead 0 c
  rw [Nat.zero_add] at this
  rw [this, ofL_append]
  rfl

set_option maxRecDepth 100000 in
set_option maxHeartbeats 4000000 in
theorem rrecord_any (rb : Nat) (text : ByteArray) (l : List UInt8) (count : Nat) (rv : Value) (ahead : ByteArray) (w : World) (h : RdL w rb text l count rv) (hts : text.size ≤ 1000000000000) (hrb : 16 ≤ rb) (ha : ahead.size ≤ 10) :
    Calls Tryz.prog 157 #[.pointer (some ⟨rb, 0, none⟩), .string ahead] w (RdPost recV recZ rb text count rv (recR ahead.data.toList l) w) := by
  have k0 := Keeps.alloc (fun _ => False) w (.cells #[.string ⟨#[]⟩, .string ⟨#[]⟩, .bool false] 147)
  have h0 := h.kept k0
  have hn := h0.bounded 0 ahead.size hts hrb
  have hz := (Array.getElem?_eq_some_iff.1 h.2.1).1
  have hq : w.heap.size < (w.alloc (.cells #[.string ⟨#[]⟩, .string ⟨#[]⟩, .bool false] 147)).heap.size := by simp
  have HN := hid hn
  have HZ := hid hz
  have HTS := hid hts
  have HRB := hid hrb
  have HH := hid h
  have H0 := hid h0
  have HQ := hid hq
  have K0 : Hid (Keeps (· = rb) w (w.alloc (.cells #[.string ⟨#[]⟩, .string ⟨#[]⟩, .bool false] 147))) := k0.mono (fun _ _ h => h.elim)
  have HA := hid ha
  have HR : Hid (recR ahead.data.toList l = (bndR 0 ahead.size l).bind fun c l1 => (bndR (1 - c) (10 - c) l1).bind fun m l2 => (takeR m l2).bind fun rest l3 => (bndR 0 41 l3).bind fun s l4 => valR (ahead.data.toList.take c ++ rest) s l4) := hid rfl
  generalize recR ahead.data.toList l = res at *
  clear hn h hts hrb k0 hz h0 hq ha
  go_enter Tryz.func157, Tryz.ntmps157
  go_wp2_with fail
  refine HN.out.mono ?_
  clear HN
  rcases hx1 : bndR 0 ahead.size l with left | ⟨c, l1⟩
  · rintro e w1 ⟨⟨v, rfl, b, t, u, g, rfl, hf⟩, k1⟩
    have e : res = .bad left := by rw [HR.out, hx1]; rfl
    subst e
    have d := recq_cells HZ.out k1
    have d0 := cell_of_heap d 0
    have d1 := cell_of_heap d 1
    have d2 := cell_of_heap d 2
    have f0 := frozen_of_heap d 0
    have f1 := frozen_of_heap d 1
    have f2 := frozen_of_heap d 2
    simp at d0 d1 d2
    have HF := hid hf
    have K1 := hid k1
    clear hf k1 d
    go_wp2
    refine bodyPost_ret (v := .tuple #[recZ, .iface 173 (.pointer (some ⟨b, 0, none⟩))]) ?_ rfl ?_
    · unfold recZ
      rw [results_cell_tmp rfl]
      go_simp
    · exact rec_bad HH.out.2.2 HRB.out K0.out HQ.out HF.out K1.out (three_set w1 _ _ _ _)
  · rintro e w1 ⟨rfl, r1, k1⟩
    obtain ⟨p1, -, hc, -⟩ := H0.out.1.bnd hx1
    have R1 := hid (H0.out.on HRB.out p1 r1 k1)
    have hc10 : (c : Int) ≤ 10 := by have := HA.out; omega
    have d := recq_cells HZ.out k1
    have D1 := hid d
    have K1 : Hid (Keeps (· = rb) w w1) := K0.out.trans k1 (fun _ _ e => e)
    have HQ1 : Hid (w.heap.size < w1.heap.size) := Nat.lt_of_lt_of_le HQ.out k1.size
    have hmax : ∀ W, (Builtin.max_ #[3, 3] 3 #[.int .i64 0, .int .i64 (1 - (c : Int))]).run Tryz.prog W = .ok (.int .i64 ((1 - c : Nat) : Int)) W := fun W => by
      rw [max_i64]
      congr 3
      omega
    have HN2 : Hid (Calls Tryz.prog 156 #[.pointer (some ⟨rb, 0, none⟩), .int .i64 ((1 - c : Nat) : Int), .int .i64 (10 - (c : Int))] w1 (RdPost (fun n : Nat => .int .i64 (n : Int)) (.int .i64 0) rb text count rv (bndR (1 - c) (10 - c) l1) w1)) := by
      have := R1.out.bounded (1 - c) (10 - c) HTS.out HRB.out
      rwa [show ((10 - c : Nat) : Int) = 10 - (c : Int) by omega] at this
    have HR1 : Hid (res = (bndR (1 - c) (10 - c) l1).bind fun m l2 => (takeR m l2).bind fun rest l3 => (bndR 0 41 l3).bind fun s l4 => valR (ahead.data.toList.take c ++ rest) s l4) := by show _ = _; rw [HR.out, hx1]; rfl
    have HC := hid hc
    clear HR hx1 r1 k1 p1 d hc K0 HQ H0
    go_wp2_with fail
    refine HN2.out.mono ?_
    clear HN2 hmax
    rcases hx2 : bndR (1 - c) (10 - c) l1 with left | ⟨m, l2⟩
    · rintro e w2 ⟨⟨v, rfl, b, t, u, g, rfl, hf⟩, k1⟩
      have e : res = .bad left := by rw [HR1.out, hx2]; rfl
      subst e
      have d := (k1.block _ (Array.getElem?_eq_some_iff.1 D1.out).1 (fun e => by have e' : w.heap.size = rb := e; have := HZ.out; omega)).trans D1.out
      have d0 := cell_of_heap d 0
      have d1 := cell_of_heap d 1
      have d2 := cell_of_heap d 2
      have f0 := frozen_of_heap d 0
      have f1 := frozen_of_heap d 1
      have f2 := frozen_of_heap d 2
      simp at d0 d1 d2
      have HF := hid hf
      have KK := hid k1
      clear hf k1 d
      go_wp2
      refine bodyPost_ret (v := .tuple #[recZ, .iface 173 (.pointer (some ⟨b, 0, none⟩))]) ?_ rfl ?_
      · unfold recZ
        rw [results_cell_tmp rfl]
        go_simp
      · exact rec_bad HH.out.2.2 HRB.out K1.out HQ1.out HF.out KK.out (three_set w2 _ _ _ _)
    · rintro e w2 ⟨rfl, r2, k2⟩
      obtain ⟨p2, hm1, hm2, -⟩ := R1.out.1.bnd hx2
      have R2 := hid (R1.out.on HRB.out p2 r2 k2)
      have D2 := hid ((k2.block _ (Array.getElem?_eq_some_iff.1 D1.out).1 (fun e => by have e' : w.heap.size = rb := e; have := HZ.out; omega)).trans D1.out)
      have K2 : Hid (Keeps (· = rb) w w2) := K1.out.trans k2 (fun _ _ e => e)
      have HQ2 : Hid (w.heap.size < w2.heap.size) := Nat.lt_of_lt_of_le HQ1.out k2.size
      have HN3 := hid (R2.out.take m HTS.out (by omega))
      have HR2 : Hid (res = (takeR m l2).bind fun rest l3 => (bndR 0 41 l3).bind fun s l4 => valR (ahead.data.toList.take c ++ rest) s l4) := by show _ = _; rw [HR1.out, hx2]; rfl
      have HM := hid (And.intro hm1 hm2)
      clear HR1 hx2 r2 k2 p2 hm1 hm2 K1 HQ1 R1 D1
      go_wp2_with fail
      refine HN3.out.mono ?_
      clear HN3
      rcases hx3 : takeR m l2 with left | ⟨x, l3⟩
      · rintro e w3 ⟨⟨v, rfl, b, t, u, g, rfl, hf⟩, k1⟩
        have e : res = .bad left := by rw [HR2.out, hx3]; rfl
        subst e
        have d := (k1.block _ (Array.getElem?_eq_some_iff.1 D2.out).1 (fun e => by have e' : w.heap.size = rb := e; have := HZ.out; omega)).trans D2.out
        have d0 := cell_of_heap d 0
        have d1 := cell_of_heap d 1
        have d2 := cell_of_heap d 2
        have f0 := frozen_of_heap d 0
        have f1 := frozen_of_heap d 1
        have f2 := frozen_of_heap d 2
        simp at d0 d1 d2
        have HF := hid hf
        have KK := hid k1
        clear hf k1 d
        go_wp2
        refine bodyPost_ret (v := .tuple #[recZ, .iface 173 (.pointer (some ⟨b, 0, none⟩))]) ?_ rfl ?_
        · unfold recZ
          rw [results_cell_tmp rfl]
          go_simp
        · exact rec_bad HH.out.2.2 HRB.out K2.out HQ2.out HF.out KK.out (three_set w3 _ _ _ _)
      · rintro e w3 ⟨rfl, r3, k3⟩
        obtain ⟨p3, hxl, -⟩ := R2.out.1.take hx3
        have R3 := hid (R2.out.on HRB.out p3 r3 k3)
        have D3 := hid ((k3.block _ (Array.getElem?_eq_some_iff.1 D2.out).1 (fun e => by have e' : w.heap.size = rb := e; have := HZ.out; omega)).trans D2.out)
        have K3 : Hid (Keeps (· = rb) w w3) := K2.out.trans k3 (fun _ _ e => e)
        have HQ3 : Hid (w.heap.size < w3.heap.size) := Nat.lt_of_lt_of_le HQ2.out k3.size
        have HR3 : Hid (res = (bndR 0 41 l3).bind fun s l4 => valR (ahead.data.toList.take c ++ x) s l4) := by show _ = _; rw [HR2.out, hx3]; rfl
        have hx10 : (ofL x).size ≤ 10 := by rw [ofL_size, hxl]; have := HM.out; omega
        have hcs : (c : Int) ≤ ahead.size := by have := HC.out; omega
        clear HR2 hx3 r3 k3 p3 K2 HQ2 R2 D2 hxl
        have hadd : ∀ W, (Op.stringOp .add (ahead.extract 0 c) (ofL x)).run Tryz.prog W = .ok (.string (ahead.extract 0 c ++ ofL x)) W := fun W => run_string_add_sum W _ _ (by rw [ByteArray.size_extract]; have := HA.out; omega)
        have HCL := hid (fun W => clone_any (ofL x) W (by omega))
        go_wp2_with fail
        go_region_with (go_at_call 83; refine (HCL.out _).mono ?_; rintro e w4 ⟨rfl, k4⟩; (try (have n4 := (k4.block w3.heap.size (by simp) (fun h => h)).trans (heap_new w3.drew _); have m0 := cell_of_heap n4 0; have m1 := cell_of_heap n4 1; have m2 := cell_of_heap n4 2; have q0 := frozen_of_heap n4 0; have q1 := frozen_of_heap n4 1; have q2 := frozen_of_heap n4 2; simp at m0 m1 m2; clear n4)))
        all_goals first
          | (have HNW := hid (recNew1 (w3 := w3) (ahead.extract 0 c ++ ofL x) k4); generalize w4.alloc (.cells #[.string (ahead.extract 0 c ++ ofL x), .string ⟨#[]⟩, .bool false] 147) = W5 at HNW ⊢)
          | (have HNW := hid (recNew2 (w3 := w3) (ahead.extract 0 c ++ ofL x) k4); generalize ((w4.setCell ⟨w3.heap.size, 0, none⟩ (.string (ahead.extract 0 c ++ ofL x))).setCell ⟨w3.heap.size, 1, none⟩ (.string ⟨#[]⟩)).setCell ⟨w3.heap.size, 2, none⟩ (.bool false) = W5 at HNW ⊢)
        all_goals
          have R5 := hid (R3.out.kept HNW.out.keep)
          have HN4 := hid (R5.out.bounded 0 41 HTS.out HRB.out)
          have D5 := hid ((HNW.out.keep.block _ (Array.getElem?_eq_some_iff.1 D3.out).1 (fun h => h)).trans D3.out)
          have K5 : Hid (Keeps (· = rb) w W5) := K3.out.trans HNW.out.keep (fun _ _ h => False.elim h)
          have HQ5 : Hid (w.heap.size < W5.heap.size) := Nat.lt_of_lt_of_le HQ3.out HNW.out.keep.size
          clear k4 hadd HCL R3 D3
          go_wp2_with fail
          refine HN4.out.mono ?_
          clear HN4
          have hqx : w.heap.size < w3.heap.size := HQ3.out
          have hgx := HNW.out.ge
          have hrx := HZ.out
          rcases hx4 : bndR 0 41 l3 with left | ⟨sz, l4⟩
          · rintro e w6 ⟨⟨v, rfl, b, t, u, g, rfl, hf⟩, k1⟩
            have e : res = .bad left := by rw [HR3.out, hx4]; rfl
            subst e
            have d := (k1.block _ (Array.getElem?_eq_some_iff.1 D5.out).1 (fun e => by have e' : w.heap.size = rb := e; omega)).trans D5.out
            have d0 := cell_of_heap d 0
            have d1 := cell_of_heap d 1
            have d2 := cell_of_heap d 2
            have f0 := frozen_of_heap d 0
            have f1 := frozen_of_heap d 1
            have f2 := frozen_of_heap d 2
            simp at d0 d1 d2
            have HF := hid hf
            have KK := hid k1
            clear hf k1 d hqx hgx hrx
            go_wp2
            refine bodyPost_ret (v := .tuple #[recZ, .iface 173 (.pointer (some ⟨b, 0, none⟩))]) ?_ rfl ?_
            · unfold recZ
              rw [results_cell_tmp rfl]
              go_simp
            · exact rec_bad HH.out.2.2 HRB.out K5.out HQ5.out HF.out KK.out (three_set w6 _ _ _ _)
          · rintro e w6 ⟨rfl, r6, k6⟩
            obtain ⟨p6, -, hs41, -⟩ := R5.out.1.bnd hx4
            have hs41I : (sz : Int) ≤ 41 := by omega
            have d := (k6.block _ (Array.getElem?_eq_some_iff.1 D5.out).1 (fun e => by have e' : w.heap.size = rb := e; omega)).trans D5.out
            have xd := (k6.block _ (Array.getElem?_eq_some_iff.1 HNW.out.cells).1 (fun e => by have e' : _ = rb := e; omega)).trans HNW.out.cells
            have R6 := hid (R5.out.on HRB.out p6 r6 k6)
            have K6 : Hid (Keeps (· = rb) w w6) := K5.out.trans k6 (fun _ _ e => e)
            have HQ6 : Hid (w.heap.size < w6.heap.size) := Nat.lt_of_lt_of_le HQ5.out k6.size
            have D6 := hid d
            have X6 := hid xd
            have hre : res = valR (ahead.data.toList.take c ++ x) sz l4 := by rw [HR3.out, hx4]; rfl
            have HRE := hid hre
            clear hx4 r6 k6 p6 hre hs41 HR3
            by_cases hs0 : sz = 0
            · subst hs0
              have d0 := cell_of_heap d 0
              have d1 := cell_of_heap d 1
              have d2 := cell_of_heap d 2
              have f0 := frozen_of_heap d 0
              have f1 := frozen_of_heap d 1
              have f2 := frozen_of_heap d 2
              have x0 := cell_of_heap xd 0
              have x1 := cell_of_heap xd 1
              have x2 := cell_of_heap xd 2
              have y2 := frozen_of_heap xd 2
              simp at d0 d1 d2 x0 x1 x2
              clear d xd
              go_wp2
              have e : res = .ok ⟨ahead.data.toList.take c ++ x, [], true⟩ l4 := by rw [HRE.out]; unfold valR; rw [if_pos rfl]
              refine bodyPost_ret (v := .tuple #[recV ⟨ahead.data.toList.take c ++ x, [], true⟩, .nilIface]) ?_ rfl ?_
              · show _ = Result.ok (Value.tuple #[.agg #[.string (ofL (ahead.data.toList.take c ++ x)), .string ⟨#[]⟩, .bool true], .nilIface]) _
                rw [← key_extract, results_cell_tmp rfl]
                go_simp
              · rw [e]
                refine rec_good rfl ?_ HZ.out K6.out R6.out.2.1 (((Keeps.setCell _ _ _).mono (fun _ _ e => .inr e)).trans (three_set _ _ _ _ _) (fun _ _ e => .inl e))
                exact Nat.le_trans (Nat.le_of_lt hqx) hgx
            · have hs0I : ¬ (sz : Int) = 0 := by omega
              have hs0B : ((sz : Int) == 0) = false := by rw [beq_eq_false_iff_ne]; exact hs0I
              have hs1I : (1 : Int) ≤ sz := by omega
              have HN5 : Hid (Calls Tryz.prog 155 #[.pointer (some ⟨rb, 0, none⟩), .int .i64 ((sz : Int) - 1)] w6 (RdPost (fun l => .string (ofL l)) (.string ⟨#[]⟩) rb text count rv (takeR (sz - 1) l4) w6)) := by
                have := R6.out.take (sz - 1) HTS.out (by omega)
                rwa [show ((sz - 1 : Nat) : Int) = (sz : Int) - 1 by omega] at this
              have HRV : Hid (res = (takeR (sz - 1) l4).bind fun v r => .ok ⟨ahead.data.toList.take c ++ x, v, false⟩ r) := by show _ = _; rw [HRE.out]; unfold valR; rw [if_neg hs0]
              have HS41 : Hid (sz ≤ 41) := by show _ ≤ _; omega
              clear d xd hs0 HRE
              go_wp2_with fail
              refine HN5.out.mono ?_
              clear HN5
              rcases hx5 : takeR (sz - 1) l4 with left | ⟨y, l5⟩
              · rintro e w7 ⟨⟨v, rfl, b, t, u, g, rfl, hf⟩, k1⟩
                have e : res = .bad left := by rw [HRV.out, hx5]; rfl
                subst e
                have d := (k1.block _ (Array.getElem?_eq_some_iff.1 D6.out).1 (fun e => by have e' : w.heap.size = rb := e; omega)).trans D6.out
                have d0 := cell_of_heap d 0
                have d1 := cell_of_heap d 1
                have d2 := cell_of_heap d 2
                have f0 := frozen_of_heap d 0
                have f1 := frozen_of_heap d 1
                have f2 := frozen_of_heap d 2
                simp at d0 d1 d2
                have HF := hid hf
                have KK := hid k1
                clear hf k1 d hqx hgx hrx
                go_wp2
                refine bodyPost_ret (v := .tuple #[recZ, .iface 173 (.pointer (some ⟨b, 0, none⟩))]) ?_ rfl ?_
                · unfold recZ
                  rw [results_cell_tmp rfl]
                  go_simp
                · exact rec_bad HH.out.2.2 HRB.out K6.out HQ6.out HF.out KK.out (three_set w7 _ _ _ _)
              · rintro e w7 ⟨rfl, r7, k7⟩
                obtain ⟨p7, hyl, -⟩ := R6.out.1.take hx5
                have HRW : Hid (res = .ok ⟨ahead.data.toList.take c ++ x, y, false⟩ l5) := by show _ = _; rw [HRV.out, hx5]; rfl
                have hd7 := (k7.block _ (Array.getElem?_eq_some_iff.1 D6.out).1 (fun e => by have e' : w.heap.size = rb := e; omega)).trans D6.out
                have hx7 := (k7.block _ (Array.getElem?_eq_some_iff.1 X6.out).1 (fun e => by have e' : _ = rb := e; omega)).trans X6.out
                have K7 : Hid (Keeps (· = rb) w w7) := K6.out.trans k7 (fun _ _ e => e)
                have R7 := hid r7
                have HD7 := hid hd7
                have HX7 := hid hx7
                have HCL := hid (clone_any (ofL y) w7 (by rw [ofL_size, hyl]; have := HS41.out; omega))
                clear hx5 r7 k7 p7 hyl HRV D6 X6 hd7 hx7
                go_wp2_with (go_at_call 83; go_must (refine HCL.out.mono ?_; rintro e w8 ⟨rfl, k8⟩; have d := (k8.block _ (Array.getElem?_eq_some_iff.1 HD7.out).1 (fun h => h)).trans HD7.out; have xd := (k8.block _ (Array.getElem?_eq_some_iff.1 HX7.out).1 (fun h => h)).trans HX7.out; have d0 := cell_of_heap d 0; have d1 := cell_of_heap d 1; have d2 := cell_of_heap d 2; have f0 := frozen_of_heap d 0; have f1 := frozen_of_heap d 1; have f2 := frozen_of_heap d 2; have x0 := cell_of_heap xd 0; have x1 := cell_of_heap xd 1; have x2 := cell_of_heap xd 2; have y1 := frozen_of_heap xd 1; simp at d0 d1 d2 x0 x1 x2; have K8 := hid k8; clear d xd k8))
                refine bodyPost_ret (v := .tuple #[recV ⟨ahead.data.toList.take c ++ x, y, false⟩, .nilIface]) ?_ rfl ?_
                · show _ = Result.ok (Value.tuple #[.agg #[.string (ofL (ahead.data.toList.take c ++ x)), .string (ofL y), .bool false], .nilIface]) _
                  rw [← key_extract, results_cell_tmp rfl]
                  go_simp
                · rw [HRW.out]
                  refine rec_good rfl ?_ HZ.out (K7.out.trans K8.out (fun _ _ h => False.elim h)) ((K8.out.block rb (Array.getElem?_eq_some_iff.1 R7.out).1 (fun h => h)).trans R7.out) (((Keeps.setCell _ _ _).mono (fun _ _ e => .inr e)).trans (three_set _ _ _ _ _) (fun _ _ e => .inl e))
                  exact Nat.le_trans (Nat.le_of_lt hqx) hgx

end Go.Proofs.YtpagenipflmlfaaGreatDoor

/- A reader: keep. -/

namespace Go.Proofs.YtpagenipflmlfaaGreatDoor

open Go.RowKit Go.Shelf

def recCs (l : List RecB) : List Value := l.flatMap RecB.cells

set_option maxRecDepth 100000 in
set_option maxHeartbeats 2000000 in
theorem keep_none (rb : Nat) (text : ByteArray) (at_ count : Nat) (oa : Option Addr) (n cap : Nat) (x : RecB) (w : World) (h : RdAt w rb text at_ count (.slice oa n cap)) (hc : count < 1000000000000) (hn : 1000 < n) :
    Calls Tryz.prog 158 #[.pointer (some ⟨rb, 0, none⟩), .agg #[.string x.key, .string x.value, .bool x.gone]] w fun e w' => e = .returned (.tuple #[]) ∧ RdAt w' rb text at_ (count + 1) (.slice oa n cap) ∧ Keeps (· = rb) w w' := by
  have hb : (w.alloc (.cells #[.string x.key, .string x.value, .bool x.gone] 147)).heap[rb]? = some (.cells #[.string text, .int .i64 (at_ : Nat), .int .i64 (count : Nat), .slice oa n cap] 177 (0, 0)) :=
    ((Keeps.alloc (fun _ => False) w _).block rb (Array.getElem?_eq_some_iff.1 h).1 (fun h => h)).trans h
  have c2 := cell_of_heap hb 2
  have c3 := cell_of_heap hb 3
  have f2 := frozen_of_heap hb 2
  simp at c2 c3
  have HB := hid hb
  have hcI : (count : Int) < 1000000000000 := by omega
  have hnI : ¬ (n : Int) ≤ 1000 := by omega
  clear h hb hc hn
  go_enter Tryz.func158, Tryz.ntmps158
  go_wp2
  go_end0
  refine ⟨rfl, ?_, ?_⟩
  · show _ = _
    rw [heap_setCell_same HB.out]
    simp
  · exact ((Keeps.refl _ w).al _).trans (Keeps.setCell _ _ _) (fun k _ e => e)

end Go.Proofs.YtpagenipflmlfaaGreatDoor

/- A reader: keep, with room. -/

namespace Go.Proofs.YtpagenipflmlfaaGreatDoor

open Go.RowKit Go.Shelf

set_option maxRecDepth 100000 in
set_option maxHeartbeats 2000000 in
theorem keep_some (rb : Nat) (text : ByteArray) (at_ count : Nat) (oa : Option Addr) (cap : Nat) (l : List RecB) (x : RecB) (w : World) (h : RdAt w rb text at_ count (.slice oa l.length cap)) (hr : Row w 147 3 (.slice oa l.length cap) l.length (recCs l)) (hc : count < 1000000000000) (hn : l.length ≤ 1000) :
    Calls Tryz.prog 158 #[.pointer (some ⟨rb, 0, none⟩), .agg #[.string x.key, .string x.value, .bool x.gone]] w fun e w' => e = .returned (.tuple #[]) ∧ ∃ g cap', RdAt w' rb text at_ (count + 1) (.slice (some ⟨g, 0, none⟩) (l.length + 1) cap') ∧ Row w' 147 3 (.slice (some ⟨g, 0, none⟩) (l.length + 1) cap') (l.length + 1) (recCs l ++ x.cells) ∧ Keeps (fun k => k = rb ∨ (Value.slice oa l.length cap).ownBlock = some k) w w' ∧ ((Value.slice oa l.length cap).ownBlock = some g ∨ w.heap.size ≤ g) := by
  obtain ⟨i0, hi, hz0, hz1, hz2⟩ := info_parts Tryz.infoRec
  obtain ⟨w1, hw1⟩ : ∃ w1, w.alloc (.cells #[.string x.key, .string x.value, .bool x.gone] 147) = w1 := ⟨_, rfl⟩
  have ka : Keeps (fun _ => False) w w1 := by rw [← hw1]; exact Keeps.alloc _ w _
  have hb : w1.heap[rb]? = some (.cells #[.string text, .int .i64 (at_ : Nat), .int .i64 (count : Nat), .slice oa l.length cap] 177 (0, 0)) := (ka.block rb (Array.getElem?_eq_some_iff.1 h).1 (fun h => h)).trans h
  have hx : w1.heap[w.heap.size]? = some (.cells #[.string x.key, .string x.value, .bool x.gone] 147 (0, 0)) := by rw [← hw1]; exact heap_new w _
  have hne : w.heap.size ≠ rb := by have := (Array.getElem?_eq_some_iff.1 h).1; omega
  obtain ⟨w2, hw2⟩ : ∃ w2, w1.setCell ⟨rb, 2, none⟩ (.int .i64 ((count : Int) + 1)) = w2 := ⟨_, rfl⟩
  have ks : Keeps (· = rb) w1 w2 := by rw [← hw2]; exact Keeps.setCell w1 ⟨rb, 2, none⟩ _
  have hb2 : w2.heap[rb]? = some (.cells #[.string text, .int .i64 (at_ : Nat), .int .i64 ((count : Int) + 1), .slice oa l.length cap] 177 (0, 0)) := by rw [← hw2, heap_setCell_same hb]; simp
  have hx2 : w2.heap[w.heap.size]? = some (.cells #[.string x.key, .string x.value, .bool x.gone] 147 (0, 0)) := (ks.block _ (Array.getElem?_eq_some_iff.1 hx).1 (fun e => hne e)).trans hx
  have hr2 : Row w2 147 3 (.slice oa l.length cap) l.length (recCs l) := (hr.kept ka (fun _ _ h => h)).kept ks (fun k hk e => (hr.typeIs hk).ne (e' := 177) (by decide) ⟨_, (show k = rb from e) ▸ h⟩)
  have c2 := cell_of_heap hb 2
  have c3 := cell_of_heap hb 3
  have f2 := frozen_of_heap hb 2
  have e3 := cell_of_heap hb2 3
  have x0 := cell_of_heap hx2 0
  have x1 := cell_of_heap hx2 1
  have x2 := cell_of_heap hx2 2
  simp at c2 c3 e3 x0 x1 x2
  rw [← hw1] at c2 c3 f2
  rw [← hw1] at hw2
  have HR2 := hid hr2
  have HB2 := hid hb2
  have HKA := hid ka
  have HKS := hid ks
  have HR := hid hr
  have HH := hid h
  have HN := hid hn
  have hcI : (count : Int) < 1000000000000 := by omega
  have hnI : (l.length : Int) ≤ 1000 := by omega
  have hne2 : TypeIs w2 rb 177 := ⟨_, hb2⟩
  have HTY := hid hne2
  have HW1 := hid hw1
  have HW2 := hid hw2
  have HE : Hid (w2.cell? ⟨rb, 3, none⟩ = some (.slice oa l.length cap) ∧ w2.cell? ⟨w.heap.size, 0, none⟩ = some (.string x.key) ∧ w2.cell? ⟨w.heap.size, 1, none⟩ = some (.string x.value) ∧ w2.cell? ⟨w.heap.size, 2, none⟩ = some (.bool x.gone)) := ⟨e3, x0, x1, x2⟩
  clear h hb hb2 hx hx2 hr hr2 hc hn ka ks hne2 hw1 hw2 e3 x0 x1 x2
  go_enter Tryz.func158, Tryz.ntmps158
  go_wp2
  rw [HW2.out]
  clear c2 c3 f2
  obtain ⟨e3, x0, x1, x2⟩ := HE.out
  have e4 := (Keeps.alloc (fun _ => False) w2 (.cells #[.string x.key, .string x.value, .bool x.gone] 147)).cell e3 (fun h => h)
  go_region_law ((refine step_append_row _ (by rfl) _ _ 82 (by rfl) 147 i0 _ 3 40 Tryz.underlying82 hi hz0 hz1 hz2 (by rfl) (.slice oa l.length cap) l.length _ (by rfl) (HR2.out.kept ((Keeps.refl (fun _ => False) w2).al _).dr (fun _ _ h => h)) ⟨w2.heap.size, 0, none⟩ 1 1 [.string x.key, .string x.value, .bool x.gone] (by rfl) (by rfl) (news_arr w2 #[.string x.key, .string x.value, .bool x.gone] _) (by simp [Value.oneCell']) (by have := HN.out; unfold maxLen; omega) (by have := HN.out; omega) ?_; intro v' w4 hown' hgrow _ hat; obtain ⟨g', cap', rfl⟩ := hown'.succ; have hb4 : w4.heap[rb]? = some (.cells #[.string text, .int .i64 (at_ : Nat), .int .i64 ((count : Int) + 1), .slice oa l.length cap] 177 (0, 0)) := ((Keeps.grown hgrow).block rb (Nat.lt_of_lt_of_le (Array.getElem?_eq_some_iff.1 HB2.out).1 (((Keeps.refl (fun _ => False) w2).al _).dr).size) (fun e => HTY.out.ne (e' := 147) (by decide) (HR2.out.typeIs e.symm))).trans (((((Keeps.refl (fun _ => False) w2).al _).dr).block rb (Array.getElem?_eq_some_iff.1 HB2.out).1 (fun h => h)).trans HB2.out); have q3 := cell_of_heap hb4 3; have r3 := frozen_of_heap hb4 3; simp at q3; have HB4 := hid hb4; have HO := hid hown'; have HGW := hid hgrow; have HA := hid hat; clear hb4 hown' hgrow hat))
  all_goals
    go_end0
    refine ⟨rfl, g', cap', ?_, ?_, ?_, ?_⟩
    · show _ = _
      rw [heap_setCell_same HB4.out]
      simp
    · exact HO.out.kept (Keeps.setCell w4 ⟨rb, 3, none⟩ _) (fun k hk e => (HO.out.typeIs hk).ne (e' := 177) (by decide) ⟨_, (show k = rb from e) ▸ HB4.out⟩)
    · exact (((((HKA.out.mono (T := fun k => k = rb ∨ (Value.slice oa l.length cap).ownBlock = some k) (fun _ _ h => False.elim h)).trans HKS.out (fun k _ e => .inl e)).al _).dr).trans (Keeps.grown HGW.out) (fun k _ e => .inr e.symm)).trans (Keeps.setCell w4 ⟨rb, 3, none⟩ _) (fun k _ e => .inl e)
    · rcases HA.out with e | e
      · left
        rw [← e]
        rfl
      · right
        have e' : g' = w2.heap.size + 1 := by simpa [Value.ownBlock] using e
        have h1 := HKA.out.size
        have h2 := HKS.out.size
        omega

end Go.Proofs.YtpagenipflmlfaaGreatDoor

/- A reader with the records that it has read: keep of any. -/

namespace Go.Proofs.YtpagenipflmlfaaGreatDoor

open Go.RowKit Go.Shelf

/-- the reader: what is left of its text, what it has read (it holds the first 1001 of them, in a block of its own, no older than B) -/
def RdrAt (B : Nat) (w : World) (rb : Nat) (text : ByteArray) (l : List UInt8) (all : List RecB) : Prop :=
  ∃ oa cap, RdL w rb text l all.length (.slice oa (all.take 1001).length cap) ∧ Row w 147 3 (.slice oa (all.take 1001).length cap) (all.take 1001).length (recCs (all.take 1001)) ∧ ∀ g, (Value.slice oa (all.take 1001).length cap).ownBlock = some g → B ≤ g

/-- what the reader's functions may turn: itself, and its block of records -/
def RdrS (B rb : Nat) (w : World) (k : Nat) : Prop := k = rb ∨ (B ≤ k ∧ TypeIs w k 147)

theorem take_snoc_small {all : List RecB} (x : RecB) (h : all.length ≤ 1000) : (all ++ [x]).take 1001 = all ++ [x] ∧ all.take 1001 = all :=
  ⟨List.take_of_length_le (by rw [List.length_append, List.length_singleton]; omega), List.take_of_length_le (by omega)⟩

theorem take_snoc_great {all : List RecB} (x : RecB) (h : 1000 < all.length) : (all ++ [x]).take 1001 = all.take 1001 := by
  rw [List.take_append_of_le_length (by omega)]

end Go.Proofs.YtpagenipflmlfaaGreatDoor

/- A reader with its records: record of any; what a record read is like. -/

namespace Go.Proofs.YtpagenipflmlfaaGreatDoor

open Go.RowKit Go.Shelf

theorem bind_eq_ok {α β : Type} {x : Rd α} {f : α → List UInt8 → Rd β} {b : β} {r : List UInt8} (h : x.bind f = .ok b r) : ∃ a r1, x = .ok a r1 ∧ f a r1 = .ok b r := by
  rcases x with k | ⟨a, r1⟩
  · cases h
  · exact ⟨a, r1, rfl, h⟩

theorem recR_fits {text : ByteArray} {ahead l l' : List UInt8} {r : Rec} (ha : ahead.length ≤ 10) (hp : Place text l) (h : recR ahead l = .ok r l') : Place text l' ∧ r.key.length ≤ 10 ∧ r.value.length ≤ 40 ∧ l'.length < l.length := by
  unfold recR at h
  obtain ⟨c, l1, h1, h⟩ := bind_eq_ok h
  obtain ⟨m, l2, h2, h⟩ := bind_eq_ok h
  obtain ⟨x, l3, h3, h⟩ := bind_eq_ok h
  obtain ⟨s, l4, h4, h⟩ := bind_eq_ok h
  obtain ⟨p1, -, c1, q1⟩ := hp.bnd h1
  obtain ⟨p2, -, c2, q2⟩ := p1.bnd h2
  obtain ⟨p3, c3, q3⟩ := p2.take h3
  obtain ⟨p4, -, c4, q4⟩ := p3.bnd h4
  have hk : (ahead.take c ++ x).length ≤ 10 := by
    rw [List.length_append, List.length_take]
    omega
  unfold valR at h
  by_cases hs : s = 0
  · rw [if_pos hs] at h
    cases h
    exact ⟨p4, hk, by simp, by omega⟩
  · rw [if_neg hs] at h
    obtain ⟨v, l5, h5, h⟩ := bind_eq_ok h
    obtain ⟨p5, c5, q5⟩ := p4.take h5
    cases h
    exact ⟨p5, hk, by simp only; omega, by omega⟩

theorem RdrAt.on {B rb : Nat} {text : ByteArray} {l r : List UInt8} {all : List RecB} {w w' : World} (hrb : 16 ≤ rb) {oa : Option Addr} {cap : Nat} (h1 : RdL w rb text l all.length (.slice oa (all.take 1001).length cap)) (h2 : Row w 147 3 (.slice oa (all.take 1001).length cap) (all.take 1001).length (recCs (all.take 1001))) (h3 : ∀ g, (Value.slice oa (all.take 1001).length cap).ownBlock = some g → B ≤ g)
    (hp : Place text r) (ha : RdAt w' rb text (text.size - r.length) all.length (.slice oa (all.take 1001).length cap)) (hk : Keeps (· = rb) w w') : RdrAt B w' rb text r all :=
  ⟨oa, cap, h1.on hrb hp ha hk, h2.kept hk (fun i hi e => (h2.typeIs hi).ne (e' := 177) (by decide) ⟨_, (show i = rb from e) ▸ h1.2.1⟩), h3⟩

end Go.Proofs.YtpagenipflmlfaaGreatDoor

/- A reader: block; what it leaves, and what a round of it keeps. -/

namespace Go.Proofs.YtpagenipflmlfaaGreatDoor

open Go.RowKit Go.Shelf

def recB (r : Rec) : RecB := ⟨ofL r.key, ofL r.value, r.gone⟩

def BlkPost (B rb : Nat) (text : ByteArray) (all : List RecB) (x : Rd (List Rec)) (w : World) (e : Ending) (w' : World) : Prop := match x with
  | .inl left => (∃ v, e = .returned (.tuple #[.bool false, v]) ∧ Flt w w' v (text.size - left)) ∧ Keeps (RdrS B rb w) w w'
  | .inr (b, rest) => e = .returned (.tuple #[.bool (!b.isEmpty), .nilIface]) ∧ RdrAt B w' rb text rest (all ++ b.map recB) ∧ Keeps (RdrS B rb w) w w'

theorem Keeps.rdr {B rb : Nat} {w w1 w2 : World} (h : Keeps (RdrS B rb w) w w1) (hk : Keeps (RdrS B rb w1) w1 w2) : Keeps (RdrS B rb w) w w2 :=
  h.trans hk (fun k hk0 hs => by
    by_cases e : RdrS B rb w k
    · exact e
    · have hb := h.block k hk0 e
      rcases hs with hs | ⟨hs, cur, hc⟩
      · exact .inl hs
      · exact .inr ⟨hs, cur, by rw [← hb]; exact hc⟩)

theorem Keeps.rdr1 {B rb : Nat} {w w1 : World} (h : Keeps (· = rb) w w1) : Keeps (RdrS B rb w) w w1 := h.mono (fun _ _ e => .inl e)

theorem Keeps.rdr0 {B rb : Nat} {w w1 : World} (h : Keeps (fun _ => False) w w1) : Keeps (RdrS B rb w) w w1 := h.mono (fun _ _ e => False.elim e)

theorem RdrAt.kept {B rb : Nat} {text : ByteArray} {l : List UInt8} {all : List RecB} {w w' : World} (h : RdrAt B w rb text l all) (hk : Keeps (fun _ => False) w w') : RdrAt B w' rb text l all := by
  obtain ⟨oa, cap, h1, h2, h3⟩ := h
  exact ⟨oa, cap, h1.kept hk, h2.kept hk (fun _ _ h => h), h3⟩

/-- a fault of a later call, told of an earlier world -/
theorem Flt.early {B rb : Nat} {w w1 w2 : World} {v : Value} {p : Nat} (h : Flt w1 w2 v p) (he : ErrsAt w) (hk : Keeps (RdrS B rb w) w w1) (h16 : 16 ≤ B) (hrb : 16 ≤ rb) : Flt w w2 v p := by
  obtain ⟨b, t, u, g, h1, h2, h3, h4, h5⟩ := h
  refine ⟨b, t, u, g, h1, Nat.le_trans hk.size h2, h3, h4, ?_⟩
  obtain ⟨t', u', h'⟩ := he g h4
  have hlt : g < 16 := by unfold NoSum at h4; omega
  have := hk.cell h' (by
    rintro (e | ⟨e, -⟩)
    · have e' : g = rb := e
      omega
    · have e' : B ≤ g := e
      omega)
  rw [this] at h5
  rw [h']
  exact h5

/-- between two records of a block -/
structure BlkAt (B rb : Nat) (text : ByteArray) (all : List RecB) (n : Nat) (l1 : List UInt8) (w : World) (k : Nat) (ahead : ByteArray) (done : List Rec) (l' : List UInt8) (wr : World) : Prop where
  le : k ≤ n
  len : done.length = k
  rdr : RdrAt B wr rb text l' (all ++ done.map recB)
  key : ahead.size ≤ 10
  short : l'.length ≤ l1.length
  same : recsR n [] l1 = (recsR (n - k) ahead.data.toList l').bind fun x l2 => .ok (done ++ x) l2
  keep : Keeps (RdrS B rb w) w wr

theorem BlkAt.bad {B rb : Nat} {text : ByteArray} {all : List RecB} {n : Nat} {l1 : List UInt8} {w : World} {k : Nat} {ahead : ByteArray} {done : List Rec} {l' : List UInt8} {wr : World} (h : BlkAt B rb text all n l1 w k ahead done l' wr) (hk : k < n) {left : Nat} (hx : recR ahead.data.toList l' = .bad left) : recsR n [] l1 = .bad left := by
  rw [h.same, show n - k = n - (k + 1) + 1 by omega, recsR, hx]
  rfl

theorem BlkAt.all_ {B rb : Nat} {text : ByteArray} {all : List RecB} {n : Nat} {l1 : List UInt8} {w : World} {ahead : ByteArray} {done : List Rec} {l' : List UInt8} {wr : World} (h : BlkAt B rb text all n l1 w n ahead done l' wr) : recsR n [] l1 = .ok done l' := by
  rw [h.same, Nat.sub_self, recsR]
  simp [Rd.bind]

theorem BlkAt.next {B rb : Nat} {text : ByteArray} {all : List RecB} {n : Nat} {l1 : List UInt8} {w : World} {k : Nat} {ahead : ByteArray} {done : List Rec} {l' l2 : List UInt8} {wr w2 : World} {r : Rec} (h : BlkAt B rb text all n l1 w k ahead done l' wr) (hk : k < n) (hx : recR ahead.data.toList l' = .ok r l2) (hr : r.key.length ≤ 10) (hl : l2.length < l'.length) (hR : RdrAt B w2 rb text l2 ((all ++ done.map recB) ++ [recB r])) (hkk : Keeps (RdrS B rb wr) wr w2) : BlkAt B rb text all n l1 w (k + 1) (ofL r.key) (done ++ [r]) l2 w2 := by
  refine ⟨hk, by rw [List.length_append, List.length_singleton, h.len], ?_, by rw [ofL_size]; exact hr, by have := h.short; omega, ?_, h.keep.rdr hkk⟩
  · rw [List.map_append, ← List.append_assoc]
    exact hR
  · rw [h.same, show n - k = n - (k + 1) + 1 by omega, recsR, hx, Rd.bind_ok, ofL_list]
    rcases recsR (n - (k + 1)) r.key l2 with q | ⟨x, l3⟩
    · rfl
    · simp [Rd.bind]

end Go.Proofs.YtpagenipflmlfaaGreatDoor

/- A reader: keep, told by the block of its records. -/

namespace Go.Proofs.YtpagenipflmlfaaGreatDoor

open Go.RowKit Go.Shelf

theorem keep_at (B rb : Nat) (text : ByteArray) (l : List UInt8) (all : List RecB) (x : RecB) (w : World) (oa : Option Addr) (cap : Nat) (h1 : RdL w rb text l all.length (.slice oa (all.take 1001).length cap)) (h2 : Row w 147 3 (.slice oa (all.take 1001).length cap) (all.take 1001).length (recCs (all.take 1001))) (h3 : ∀ g, (Value.slice oa (all.take 1001).length cap).ownBlock = some g → B ≤ g) (hB : B ≤ w.heap.size) (h16 : 16 ≤ B) (hrb : 16 ≤ rb) (hc : all.length < 1000000000000) :
    Calls Tryz.prog 158 #[.pointer (some ⟨rb, 0, none⟩), .agg #[.string x.key, .string x.value, .bool x.gone]] w fun e w' => e = .returned (.tuple #[]) ∧ RdrAt B w' rb text l (all ++ [x]) ∧ Keeps (fun k => k = rb ∨ (Value.slice oa (all.take 1001).length cap).ownBlock = some k) w w' := by
  by_cases hs : all.length ≤ 1000
  · obtain ⟨e1, e2⟩ := take_snoc_small x hs
    rw [e2] at h1 h2 h3 ⊢
    refine (keep_some rb text (text.size - l.length) all.length oa cap all x w h1.2.1 h2 hc hs).mono ?_
    rintro e w' ⟨rfl, g, cap', r1, r2, k, hg⟩
    refine ⟨rfl, ⟨some ⟨g, 0, none⟩, cap', ?_, ?_, ?_⟩, k⟩
    · rw [e1, List.length_append, List.length_singleton]
      refine ⟨h1.1, r1, h1.2.2.kept k (fun i hi hS => ?_)⟩
      rcases hS with e | e
      · omega
      · have := h3 i e
        omega
    · rw [e1, List.length_append, List.length_singleton]
      have : recCs (all ++ [x]) = recCs all ++ x.cells := by simp [recCs]
      rw [this]
      exact r2
    · intro g' hg'
      rw [e1] at hg'
      have e' : g = g' := by simpa [Value.ownBlock] using hg'
      subst e'
      rcases hg with h4 | h4
      · exact h3 _ h4
      · omega
  · have e1 := take_snoc_great x (show 1000 < all.length by omega)
    have e3 : (all.take 1001).length = 1001 := by rw [List.length_take]; omega
    refine (keep_none rb text (text.size - l.length) all.length oa _ cap x w h1.2.1 hc (by omega)).mono ?_
    rintro e w' ⟨rfl, r1, k⟩
    refine ⟨rfl, ⟨oa, cap, ?_, ?_, ?_⟩, k.mono (fun i _ hi => .inl hi)⟩
    · rw [e1, List.length_append, List.length_singleton]
      exact ⟨h1.1, r1, h1.2.2.kept k (fun i hi e => by have e' : i = rb := e; omega)⟩
    · rw [e1]
      exact h2.kept k (fun i hi e => (h2.typeIs hi).ne (e' := 177) (by decide) ⟨_, (show i = rb from e) ▸ h1.2.1⟩)
    · rw [e1]
      exact h3

end Go.Proofs.YtpagenipflmlfaaGreatDoor
