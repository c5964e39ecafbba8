import Derived.Test.YtkpaiaddikpdoaaGreatDoorM04
import Derived.RegionIn

/- strings.Builder: WriteString, String. -/

namespace Go.Proofs.YtkpaiaddikpdoaaGreatDoor

open Go.RowKit Go.Shelf

theorem Tryz.sizeBuilder : (Tryz.prog.info? 88).map (·.size) = some 2 := by kernel_rfl

theorem Tryz.liesBuilder : liesAt Tryz.prog Tryz.prog.depth 88 (2 / Tryz.prog.cellsOf 88) 0 88 1 = true := by kernel_rfl

set_option maxRecDepth 100000 in
theorem copyCheck_used (b : Nat) (w : World) (h0 : w.cell? ⟨b, 0, none⟩ = some (.pointer (some ⟨b, 0, none⟩))) :
    Calls Tryz.prog 55 #[.pointer (some ⟨b, 0, none⟩)] w fun e w' => e = .returned (.tuple #[]) ∧ w' = w := by
  obtain ⟨j, hj, _⟩ := Option.map_eq_some_iff.1 Tryz.sizeBuilder
  go_enter Tryz.func55, Tryz.ntmps55
  go_wp2
  rw [Lib.run_neq_ptr_same w _ Tryz.underlying85 hj]
  go_wp2
  go_end0
  exact ⟨rfl, rfl⟩

set_option maxRecDepth 100000 in
theorem copyCheck_fresh (b : Nat) (w : World) (h0 : w.cell? ⟨b, 0, none⟩ = some (.pointer none)) (hsh : w.shape? b = some (88, 2)) (hfz : w.frozen? ⟨b, 0, none⟩ = false) :
    Calls Tryz.prog 55 #[.pointer (some ⟨b, 0, none⟩)] w fun e w' => e = .returned (.tuple #[]) ∧ w' = w.setCell ⟨b, 0, none⟩ (.pointer (some ⟨b, 0, none⟩)) := by
  obtain ⟨j, hj, hjs⟩ := Option.map_eq_some_iff.1 Tryz.sizeBuilder
  go_enter Tryz.func55, Tryz.ntmps55
  go_wp2
  rw [Lib.run_to_unsafe w ⟨b, 0, none⟩ Tryz.underlying85 Tryz.underlying138 hj (by rw [hjs]; decide) hsh (Nat.zero_lt_succ 1)]
  simp only [Result.andThen]
  rw [Oper.upon_value]
  go_wp2
  rw [run_callFunc_extern Tryz.func74 (by kernel_rfl) (by kernel_rfl) (by kernel_rfl) (e := Extern.AbiNoEscape.same) (by kernel_rfl)]
  rw [Lib.run_noEscape]
  simp only [Result.andThen]
  rw [Oper.upon_value]
  go_wp2
  rw [Lib.run_from_unsafe w ⟨b, 0, none⟩ Tryz.underlying138 Tryz.underlying85 hj hsh Tryz.liesBuilder]
  simp only [Result.andThen]
  rw [Oper.upon_value]
  go_wp2
  go_end0
  exact ⟨rfl, rfl⟩

/-- a Builder that holds these bytes -/
def Bld (B : Nat) (w : World) (tb : Nat) (l : List UInt8) : Prop := Lib.IsBuilder 88 5 B tb (Lib.byteCells l) w

/-- what a Builder's call may turn: itself, and rows of bytes, from B on -/
def BldS (B tb : Nat) (w : World) (k : Nat) : Prop := B ≤ k ∧ (k = tb ∨ TypeIs w k 5)

theorem byteCells_append (l : List UInt8) (s : ByteArray) : Lib.byteCells l ++ Lib.strCells s = Lib.byteCells (l ++ s.data.toList) := by
  simp [Lib.byteCells, Lib.strCells]

set_option maxRecDepth 100000 in
set_option maxHeartbeats 1000000 in
theorem writeString_used (B tb : Nat) (l : List UInt8) (s : ByteArray) (w : World) (h : Lib.BuilderAt 88 5 B tb (.pointer (some ⟨tb, 0, none⟩)) (Lib.byteCells l) w) (hlen : l.length + s.size ≤ 140737488355328) (hBw : B ≤ w.heap.size) (W : World)
    (hC : Calls Tryz.prog 55 #[.pointer (some ⟨tb, 0, none⟩)] W fun e w' => e = .returned (.tuple #[]) ∧ w' = w) (hK : Keeps (BldS B tb W) W w) :
    Calls Tryz.prog 34 #[.pointer (some ⟨tb, 0, none⟩), .string s] W fun e w' => e = .returned (.tuple #[.int .i64 s.size, .nilIface]) ∧ Bld B w' tb (l ++ s.data.toList) ∧ Keeps (BldS B tb W) W w' := by
  obtain ⟨hB, v, hbk, hown, hne⟩ := h
  have HC := hid hC
  obtain ⟨i0, hi, hz0, hz1, hz2⟩ := info_parts Tryz.infoByte
  have c0 : w.cell? ⟨tb, 0, none⟩ = some (.pointer (some ⟨tb, 0, none⟩)) := cell_of_heap hbk 0
  have c1 : w.cell? ⟨tb, 1, none⟩ = some v := cell_of_heap hbk 1
  have HBK := hid hbk
  have HOW := hid hown
  have HNE := hid hne
  have HLN := hid hlen
  have HBW := hid hBw
  have HBB := hid hB
  have HKW := hid hK
  have hlb : (Lib.byteCells l).length = l.length := by simp [Lib.byteCells]
  have HLB := hid hlb
  obtain ⟨ao, n', cap, rfl⟩ : ∃ ao n' cap, v = .slice ao n' cap := by
    rcases hown.2 with ⟨hv, _⟩ | ⟨g, cap, cur, hv, _⟩
    · exact ⟨_, _, _, hv⟩
    · exact ⟨_, _, _, hv⟩
  have HTY : Hid (∀ g, (Value.slice ao n' cap).ownBlock = some g → g < W.heap.size → B ≤ g ∧ (TypeIs W g 5 ∨ g = tb)) := fun g hg hgW => by
    have hBg : B ≤ g := by
      rcases HOW.out.2 with ⟨hv, _⟩ | ⟨g', cap', cur, hv, hb, _⟩
      · rw [hv] at hg
        simp [Value.ownBlock] at hg
      · rw [hv] at hg
        have e1 : g' = g := by simpa [Value.ownBlock] using hg
        rw [← e1]
        exact hb
    refine ⟨hBg, ?_⟩
    by_cases e : g = tb
    · exact .inr e
    · by_cases ht : TypeIs W g 5
      · exact .inl ht
      · exfalso
        rcases HOW.out.2 with ⟨hv, _⟩ | ⟨g', cap', cur, hv, _, hh, _⟩
        · rw [hv] at hg
          simp [Value.ownBlock] at hg
        · rw [hv] at hg
          have e1 : g' = g := by simpa [Value.ownBlock] using hg
          subst e1
          rw [HKW.out.block g' hgW (fun hs => hs.2.elim e ht)] at hh
          exact ht ⟨_, hh⟩
  clear hC hbk hown hne hlen hBw hB hK hlb
  go_enter Tryz.func34, Tryz.ntmps34
  go_wp2_with (first
    | (go_at_call 55; go_must (refine (HC.out).mono ?_; rintro e w1 ⟨rfl, rfl⟩))
    | (at_builtin; go_must (refine Lib.wpList_append_own_string _ rfl _ _ 86 9 rfl B 5 i0 Tryz.underlying86 Tryz.underlying9 hi hz0 hz1 hz2 _ _ _ rfl HOW.out s rfl (by rw [HLB.out]; have := HLN.out; unfold maxLen; omega) (by rw [HLB.out]; exact HLN.out) HBW.out ?_; intro v' w2 hown' hgrow _; have hb2 : w2.heap[tb]? = some (.cells #[.pointer (some ⟨tb, 0, none⟩), .slice ao n' cap] 88 (0, 0)) := (hgrow.block tb (Array.getElem?_eq_some_iff.1 HBK.out).1 (fun e => HNE.out e.symm)).trans HBK.out; have d0 : w2.cell? ⟨tb, 0, none⟩ = some (.pointer (some ⟨tb, 0, none⟩)) := cell_of_heap hb2 0; have d1 : w2.cell? ⟨tb, 1, none⟩ = some (.slice ao n' cap) := cell_of_heap hb2 1; have f1 : w2.frozen? ⟨tb, 1, none⟩ = false := frozen_of_heap hb2 1; obtain ⟨ao2, n2, cap2, rfl⟩ : ∃ ao n' cap, v' = .slice ao n' cap := (by rcases hown'.2 with ⟨hv, _⟩ | ⟨g, cap, cur, hv, _⟩; exact ⟨_, _, _, hv⟩; exact ⟨_, _, _, hv⟩); have X1 := hid (And.intro hown' (And.intro hgrow hb2)); clear hown' hgrow hb2)))
  go_ret2
  obtain ⟨hown', hgrow, hb2⟩ := X1.out
  refine ⟨rfl, ?_, ?_⟩
  · refine .inr ?_
    have := Lib.BuilderAt.put (T := 88) (e := 5) HBB.out hb2 (bs' := Lib.byteCells l ++ Lib.strCells s) (by simpa [Lib.strCells_length] using hown') (by decide)
    rw [byteCells_append] at this
    exact this
  · refine (HKW.out.trans (Keeps.grown hgrow) (fun g hg e => ?_)).tr (Keeps.setCell _ _ _) (fun k e => ⟨by rw [show k = tb from e]; exact HBB.out, .inl e⟩)
    obtain ⟨h0, h⟩ := HTY.out g e.symm hg
    rcases h with h | h
    · exact ⟨h0, .inr h⟩
    · exact ⟨h0, .inl h⟩

theorem writeString_any (B tb : Nat) (l : List UInt8) (s : ByteArray) (w : World) (h : Bld B w tb l) (hlen : l.length + s.size ≤ 140737488355328) (hBw : B ≤ w.heap.size) :
    Calls Tryz.prog 34 #[.pointer (some ⟨tb, 0, none⟩), .string s] w fun e w' => e = .returned (.tuple #[.int .i64 s.size, .nilIface]) ∧ Bld B w' tb (l ++ s.data.toList) ∧ Keeps (BldS B tb w) w w' := by
  rcases h with h | h
  · have hb := h
    obtain ⟨hB, v, hbk, hown, hne⟩ := h
    have h1 : (w.setCell ⟨tb, 0, none⟩ (.pointer (some ⟨tb, 0, none⟩))).heap[tb]? = some (.cells #[.pointer (some ⟨tb, 0, none⟩), v] 88 (0, 0)) := (heap_setCell_same hbk _).trans (by simp)
    have hat : Lib.BuilderAt 88 5 B tb (.pointer (some ⟨tb, 0, none⟩)) (Lib.byteCells l) (w.setCell ⟨tb, 0, none⟩ (.pointer (some ⟨tb, 0, none⟩))) := by
      refine ⟨hB, v, h1, ⟨hown.1, ?_⟩, hne⟩
      rcases hown.2 with h2 | ⟨g, cap, cur, rfl, hg, hh, r⟩
      · exact .inl h2
      · exact .inr ⟨g, cap, cur, rfl, hg, ((Keeps.setCell w ⟨tb, 0, none⟩ _).block g (Array.getElem?_eq_some_iff.1 hh).1 (fun e => hne (by rw [show g = tb from e]; rfl))).trans hh, r⟩
    exact writeString_used B tb l s _ hat hlen (by simpa [World.setCell] using hBw) w (copyCheck_fresh tb w hb.cell0 hb.shape hb.frozen0) ((Keeps.setCell _ _ _).mono (fun k _ e => ⟨by rw [show k = tb from e]; exact hB, .inl e⟩))
  · exact writeString_used B tb l s w h hlen hBw w (copyCheck_used tb w h.cell0) (Keeps.refl _ _)

end Go.Proofs.YtkpaiaddikpdoaaGreatDoor

/- slices.Chunk of records, by four. -/

namespace Go.Proofs.YtkpaiaddikpdoaaGreatDoor

open Go.RowKit Go.Shelf

attribute [local go_sem] Oper.semAt_some

/-- how many are in the x-th chunk of n -/
def chunkN (n x : Nat) : Nat := min 4 (n - 4 * x)

/-- the x-th chunk -/
def chunkV (oa : Option Addr) (n x : Nat) : Value := match oa with
  | some ⟨g, off, none⟩ => .slice (some ⟨g, off + 4 * x * 3, none⟩) (chunkN n x) (chunkN n x)
  | o => .slice o (chunkN n x) (chunkN n x)

theorem min_i64 (a b : Int) (W : World) : (Builtin.min_ #[3, 3] 3 #[.int .i64 a, .int .i64 b]).run Tryz.prog W = .ok (.int .i64 (min a b)) W := by
  by_cases h : a ≤ b
  · rw [Int.min_eq_left h]
    simp [Builtin.min_, Builtin.min2]
    omega
  · rw [Int.min_eq_right (by omega)]
    simp [Builtin.min_, Builtin.min2]
    omega

set_option maxRecDepth 100000 in
set_option maxHeartbeats 1000000 in
theorem chunk_any (oa : Option Addr) (n cap : Nat) (w : World) :
    Calls Tryz.prog 36 #[.slice oa n cap, .int .i64 4] w fun e w' => e = .returned (.func (.func 58) #[] #[.pointer (some ⟨w.heap.size, 0, none⟩), .pointer (some ⟨w.heap.size + 1, 0, none⟩)]) ∧ w' = (w.alloc (.cells #[.slice oa n cap] 32)).alloc (.cells #[.int .i64 4] 3) := by
  have hmf : ∀ (fn : Fn) (first cap : Array Value) (w : World), (Instr.makeFunc fn first cap).run Tryz.prog w = .ok (.func fn first cap) w := fun _ _ _ _ => rfl
  go_enter Tryz.func36, Tryz.ntmps36
  go_wp2
  go_ret
  exact ⟨rfl, rfl⟩

set_option maxRecDepth 100000 in
set_option maxHeartbeats 1000000 in
theorem chunk1_all (pa pb : Nat) (oa : Option Addr) (n cap : Nat) (w : World) (h1 : w.heap[pa]? = some (.cells #[.slice oa n cap] 32 (0, 0))) (h2 : w.heap[pb]? = some (.cells #[.int .i64 4] 3 (0, 0))) (hn : n ≤ 1000) (hc : n ≤ cap) (hcm : cap ≤ maxLen) (hoa : n = 0 ∨ ∃ g off, oa = some ⟨g, off, none⟩) :
    SeqAll Fence.wide 7 Tryz.prog 58 #[.pointer (some ⟨pa, 0, none⟩), .pointer (some ⟨pb, 0, none⟩)] (fun x : Nat => #[chunkV oa n x]) (Keeps (fun _ => False)) (KpM [pa, pb]) (fun xs => xs = List.range ((n + 3) / 4)) ((n + 3) / 4) w := by
  intro l J W hW hJC hY h0
  have g1 : W.heap[pa]? = some (.cells #[.slice oa n cap] 32 (0, 0)) := (hW.block pa (Array.getElem?_eq_some_iff.1 h1).1 (fun h => h)).trans h1
  have g2 : W.heap[pb]? = some (.cells #[.int .i64 4] 3 (0, 0)) := (hW.block pb (Array.getElem?_eq_some_iff.1 h2).1 (fun h => h)).trans h2
  unfold maxLen at hcm
  clear h1 h2
  refine callsIn_of_wp Tryz.func58 rfl trivial ?_ rfl
  simp only [Tryz.ntmps58, List.size_toArray, List.length_cons, List.length_nil, Nat.reduceAdd, Nat.reduceSub, Array.replicate_succ, Array.replicate_zero, List.push_toArray, List.append_toArray, List.nil_append, List.cons_append]
  gi_wp2
  gi_loopw [4] (fun i wr => ∃ k : Nat, i = .int .i64 ((4 * k : Nat) : Int) ∧ k ≤ (n + 3) / 4 ∧ J (List.range k) wr ∧ wr.heap[pa]? = some (.cells #[.slice oa n cap] 32 (0, 0)) ∧ wr.heap[pb]? = some (.cells #[.int .i64 4] 3 (0, 0))) (fun i _ => n + 4 - (intOf i).toNat)
  case atStart => exact ⟨0, rfl, Nat.zero_le _, h0, g1, g2⟩
  case round =>
    obtain ⟨k, rfl, hk, hJ, g1, g2⟩ := hrel
    clear h0 hW
    have c1 := cell_of_heap g1 0
    have c2 := cell_of_heap g2 0
    simp at c1 c2
    have G1 := hid g1
    have G2 := hid g2
    have HJ := hid hJ
    have HJC := hid hJC
    have HY := hid hY
    have HK := hid hk
    clear g1 g2 hJ hJC hY
    by_cases hlt : 4 * k < n
    · have HKL : Hid (k < (n + 3) / 4) := by show _ < _; omega
      obtain ⟨g, off, rfl⟩ : ∃ g off, oa = some ⟨g, off, none⟩ := by
        rcases hoa with e | h
        · omega
        · exact h
      have hmin : ∀ W, (Builtin.min_ #[3, 3] 3 #[.int .i64 4, .int .i64 ((n - 4 * k : Nat) : Int)]).run Tryz.prog W = .ok (.int .i64 ((chunkN n k : Nat) : Int)) W := fun W => by
        rw [min_i64]
        unfold chunkN
        congr 3
        omega
      have HE : Hid (chunkV (some ⟨g, off, none⟩) n k = .slice (some ⟨g, off + 4 * k * 3, none⟩) (chunkN n k) (chunkN n k)) := hid rfl
      have hcn : 0 < chunkN n k ∧ 4 * k + chunkN n k ≤ n := by unfold chunkN; omega
      have HC4 : Hid (chunkN n k ≤ 4) := by show _ ≤ _; unfold chunkN; omega
      obtain ⟨hc0, hc1⟩ := hcn
      generalize chunkN n k = m at *
      clear hk
      have HY3 := hid (HY.out (List.range k) k wr.drew (HJC.out _ wr _ (Keeps.drew _ _) HJ.out) (by rw [List.length_range]; exact HKL.out))
      rw [HE.out] at HY3
      have HSZ : Hid (∀ W4, KpM [pa, pb] wr.drew W4 → W4.heap[pa]? = some (.cells #[.slice (some ⟨g, off, none⟩) n cap] 32 (0, 0)) ∧ W4.heap[pb]? = some (.cells #[.int .i64 4] 3 (0, 0))) := fun W4 h4 => ⟨(h4.2 pa (by simp)).trans G1.out, (h4.2 pb (by simp)).trans G2.out⟩
      clear HY HJC HJ HE
      gi_wp2
      gi_region
      obtain ⟨fn, tmps, assign, body, hy, hR⟩ := HY3.out
      clear HY3
      gi_wp2
      refine hR.mono ?_
      rintro e W4 ⟨rfl, hJ4, hk4⟩
      obtain ⟨p1, p2⟩ := HSZ.out W4 hk4
      have q2 := cell_of_heap p2 0
      simp at q2
      have P1 := hid p1
      have P2 := hid p2
      have HJ4 := hid hJ4
      clear p1 p2 hJ4 hk4 hy hR
      gi_wp2
      refine ⟨⟨k + 1, by go_num, HKL.out, by rw [List.range_succ]; exact HJ4.out, P1.out, P2.out⟩, ?_⟩
      simp only [intOf]
      omega
    · have e : k = (n + 3) / 4 := by omega
      clear hk
      gi_wp2
      go_end0
      exact ⟨⟨_, rfl⟩, _, by rw [e], HJ.out⟩

end Go.Proofs.YtkpaiaddikpdoaaGreatDoor

/- strings.Builder: String. -/

namespace Go.Proofs.YtkpaiaddikpdoaaGreatDoor

open Go.RowKit Go.Shelf

set_option maxRecDepth 100000 in
set_option maxHeartbeats 1000000 in
theorem string_any (B tb : Nat) (l : List UInt8) (w : World) (h : Bld B w tb l) (h0 : l ≠ []) :
    Calls Tryz.prog 39 #[.pointer (some ⟨tb, 0, none⟩)] w fun e w' => e = .returned (.string (ofL l)) ∧ Keeps (BldS B tb w) w w' := by
  obtain ⟨p, hB, v, hbk, hown, hne⟩ : ∃ p, Lib.BuilderAt 88 5 B tb p (Lib.byteCells l) w := by
    rcases h with h | h
    · exact ⟨_, h⟩
    · exact ⟨_, h⟩
  have hl0 : l.length ≠ 0 := by simpa using h0
  rw [Lib.byteCells_length] at hown
  obtain ⟨g, cap, cur, rfl, hbg, hg, hnc, hcm, hcs, htake⟩ : ∃ g cap cur, v = .slice (some ⟨g, 0, none⟩) l.length cap ∧ B ≤ g ∧ w.heap[g]? = some (.cells cur 5 (0, 0)) ∧ l.length ≤ cap ∧ cap ≤ maxLen ∧ cur.size = cap * 1 ∧ cur.toList.take (l.length * 1) = Lib.byteCells l := by
    rcases hown.2 with ⟨_, hz⟩ | ⟨g, cap, cur, hv, r⟩
    · exact absurd hz hl0
    · exact ⟨g, cap, cur, hv, r⟩
  have c1 : w.drew.cell? ⟨tb, 1, none⟩ = some (.slice (some ⟨g, 0, none⟩) l.length cap) := by
    have : w.drew.heap[tb]? = some (.cells #[p, .slice (some ⟨g, 0, none⟩) l.length cap] 88 (0, 0)) := hbk
    rw [Lib.cell_of_heap this]; rfl
  have hSD : (Builtin.unsafeSliceData_ #[86] 120 #[.slice (some ⟨g, 0, none⟩) l.length cap]).run Tryz.prog w.drew = .ok (.pointer (some ⟨g, 0, none⟩)) w.drew :=
    Lib.run_unsafeSliceData_row _ _ _ _ _ _ (by omega)
  have hUS : (Builtin.unsafeString_ #[120, 3] 9 #[.pointer (some ⟨g, 0, none⟩), .int .i64 l.length]).run Tryz.prog w.drew = .ok (.string (ofL l)) (w.drew.freeze ⟨g, 0, none⟩ l.length) := by
    refine Lib.run_unsafeString_row w.drew 120 3 9 5 Tryz.underlying120 (by kernel_rfl) g cur.size (by have hg' : w.drew.heap[g]? = some (.cells cur 5 (0, 0)) := hg; simp [World.shape?, hg']) l h0 (by omega) (by unfold maxLen at hcm; omega) ?_
    intro j x hx
    have := hown.cells (g := g) rfl j (.int .u8 x.toNat) (by simp [Lib.byteCells, hx])
    exact this
  have HK : Hid (Keeps (BldS B tb w) w (w.drew.freeze ⟨g, 0, none⟩ l.length)) := by
    have hb := Lib.below_freeze (Below.drew (Below.refl g w)) (p := ⟨g, 0, none⟩) (Nat.le_refl g) l.length
    refine ⟨hb.os, hb.tape, hb.output, hb.size, fun k hk hS => ?_⟩
    have hkg : k ≠ g := fun e => hS ⟨by rw [e]; exact hbg, .inr ⟨cur, by rw [e]; exact hg⟩⟩
    unfold World.freeze
    rw [if_neg hl0]
    simp only [Array.getElem?_modify]
    rw [if_neg (fun e => hkg e.symm)]
    rfl
  clear hbk hown hne hg hcs htake hcm
  generalize ofL l = s at *
  go_enter Tryz.func39, Tryz.ntmps39
  go_wp2
  go_region
  all_goals (go_wp2; go_ret; exact ⟨rfl, HK.out⟩)

end Go.Proofs.YtkpaiaddikpdoaaGreatDoor

/- Write: the chunks of a stream, and what its Builder and its Writer hold. -/

namespace Go.Proofs.YtkpaiaddikpdoaaGreatDoor

open Go.RowKit Go.Shelf

def chunkL (l : List RecB) (x : Nat) : List RecB := (l.drop (4 * x)).take 4

theorem chunkL_len (l : List RecB) (x : Nat) : (chunkL l x).length = chunkN l.length x := by
  unfold chunkL chunkN
  rw [List.length_take, List.length_drop]

theorem chunkL_next (l : List RecB) (x : Nat) : chunkL l (x + 1) = chunkL (l.drop 4) x := by
  unfold chunkL
  rw [List.drop_drop]
  congr 2
  omega

def chunkA (oa : Option Addr) (x : Nat) : Option Addr := match oa with
  | some ⟨g, off, none⟩ => some ⟨g, off + 4 * x * 3, none⟩
  | o => o

theorem chunkV_eq (oa : Option Addr) (l : List RecB) (x : Nat) : chunkV oa l.length x = .slice (chunkA oa x) (chunkL l x).length (chunkN l.length x) := by
  rw [chunkL_len]
  rcases oa with _ | ⟨g, off, _ | s⟩ <;> rfl

theorem RecIn.chunk {w : World} {oa : Option Addr} {l : List RecB} (h : RecIn w oa l) (x : Nat) : RecIn w (chunkA oa x) (chunkL l x) := fun i hi => by
  have hi2 : 4 * x + i < l.length := by
    rw [chunkL_len] at hi
    unfold chunkN at hi
    omega
  obtain ⟨g, off, rfl, h1, h2, h3⟩ := h (4 * x + i) hi2
  have e : (chunkL l x)[i] = l[4 * x + i] := by
    simp [chunkL]
  rw [e]
  refine ⟨g, off + 4 * x * 3, rfl, ?_, ?_, ?_⟩
  · rw [show off + 4 * x * 3 + i * 3 = off + (4 * x + i) * 3 by omega]; exact h1
  · rw [show off + 4 * x * 3 + i * 3 = off + (4 * x + i) * 3 by omega]; exact h2
  · rw [show off + 4 * x * 3 + i * 3 = off + (4 * x + i) * 3 by omega]; exact h3

/-- the text of the blocks so far, and how many records are in them -/
def partsL (l : List RecB) (pre : List Nat) : List UInt8 := pre.flatMap fun x => blockL ((chunkL l x).map RecB.rec_)

def partsN (l : List RecB) (pre : List Nat) : Nat := (pre.map fun x => (chunkL l x).length).sum

theorem parts_all : ∀ (n : Nat) (l : List RecB), l.length ≤ n → partsL l (List.range ((l.length + 3) / 4)) = blocksL (l.map RecB.rec_) ∧ partsN l (List.range ((l.length + 3) / 4)) = l.length
  | 0, l, h => by
    obtain rfl : l = [] := List.eq_nil_of_length_eq_zero (by omega)
    constructor
    · rw [List.map_nil, blocksL_nil]
      rfl
    · rfl
  | n + 1, l, h => by
    by_cases e : l = []
    · subst e
      constructor
      · rw [List.map_nil, blocksL_nil]
        rfl
      · rfl
    · have hl : 0 < l.length := List.length_pos_iff.2 e
      have hd : (l.drop 4).length = l.length - 4 := List.length_drop ..
      obtain ⟨h1, h2⟩ := parts_all n (l.drop 4) (by omega)
      have hr : (l.length + 3) / 4 = ((l.drop 4).length + 3) / 4 + 1 := by omega
      have e0 : chunkL l 0 = l.take 4 := by simp [chunkL]
      unfold partsL at *
      unfold partsN at *
      rw [hr, List.range_succ_eq_map, List.flatMap_cons, List.flatMap_map, List.map_cons, List.map_map, List.sum_cons]
      simp only [Function.comp_def, Nat.succ_eq_add_one, chunkL_next]
      rw [h1, h2, e0]
      constructor
      · have e3 : blocksL (l.map RecB.rec_) = blockL ((l.map RecB.rec_).take 4) ++ blocksL ((l.map RecB.rec_).drop 4) := by
          rw [blocksL_more (by simpa using e)]
        rw [e3, List.map_take, List.map_drop]
      · rw [hd, List.length_take]
        omega

theorem partsL_next (l : List RecB) (pre : List Nat) (x : Nat) : partsL l (pre ++ [x]) = partsL l pre ++ blockL ((chunkL l x).map RecB.rec_) := by simp [partsL]

theorem partsN_next (l : List RecB) (pre : List Nat) (x : Nat) : partsN l (pre ++ [x]) = partsN l pre + (chunkL l x).length := by simp [partsN]

theorem chunk_small {l : List RecB} (h : Small l) (x : Nat) : Small (chunkL l x) := fun r hr => h r (List.mem_of_mem_drop (List.mem_of_mem_take hr))

theorem chunk_four (l : List RecB) (x : Nat) : (chunkL l x).length ≤ 4 := by rw [chunkL_len]; unfold chunkN; omega

theorem block_len {l : List RecB} (h : Small l) (h4 : l.length ≤ 4) : (blockL (l.map RecB.rec_)).length ≤ 10000 := by
  have := partL_len h (by omega) l.length (Nat.le_refl _)
  have e : partL l l.length = blockB (l.map RecB.rec_) := by
    unfold partL blockB
    rw [List.take_length, List.length_map]
  rw [e] at this
  unfold blockL
  rw [List.length_append, checkL_length]
  omega

theorem parts_len {l : List RecB} (h : Small l) : ∀ (pre : List Nat), (partsL l pre).length ≤ pre.length * 10000 ∧ partsN l pre ≤ pre.length * 4
  | [] => by simp [partsL, partsN]
  | x :: pre => by
    obtain ⟨h1, h2⟩ := parts_len h pre
    have h3 := block_len (chunk_small h x) (chunk_four l x)
    have h4 := chunk_four l x
    have e1 : partsL l (x :: pre) = blockL ((chunkL l x).map RecB.rec_) ++ partsL l pre := by simp [partsL]
    have e2 : partsN l (x :: pre) = (chunkL l x).length + partsN l pre := by simp [partsN]
    rw [e1, e2, List.length_append, List.length_cons]
    omega

/-- the Writer and the Builder, when this much has been written -/
def WrAt (B wb tb : Nat) (w5 : World) (out : List UInt8) (count : Nat) (W : World) : Prop :=
  W.heap[wb]? = some (.cells #[.int .u32 (ovL 0 out : Nat), .int .i64 (count : Nat)] 84 (0, 0)) ∧ Bld B W tb out ∧ Keeps (fun k => k = wb ∨ BldS B tb w5 k) w5 W

theorem Bld.kept {B tb : Nat} {w w' : World} {l : List UInt8} {S : Nat → Prop} (h : Bld B w tb l) (hk : Keeps S w w') (h1 : ¬ S tb) (h2 : ∀ k, TypeIs w k 5 → ¬ S k) : Bld B w' tb l := by
  have main : ∀ p, Lib.BuilderAt 88 5 B tb p (Lib.byteCells l) w → Lib.BuilderAt 88 5 B tb p (Lib.byteCells l) w' := by
    rintro p ⟨hB, v, hbk, hown, hne⟩
    refine ⟨hB, v, (hk.block tb (Array.getElem?_eq_some_iff.1 hbk).1 h1).trans hbk, ⟨hown.1, ?_⟩, hne⟩
    rcases hown.2 with h | ⟨g, cap, cur, rfl, hg, hh, r⟩
    · exact .inl h
    · exact .inr ⟨g, cap, cur, rfl, hg, (hk.block g (Array.getElem?_eq_some_iff.1 hh).1 (h2 g ⟨cur, hh⟩)).trans hh, r⟩
  exact h.imp (main _) (main _)

/-- what a Builder turns of an older world -/
theorem Keeps.bld {B wb tb : Nat} {w5 W W' : World} (h : Keeps (fun k => k = wb ∨ BldS B tb w5 k) w5 W) (hk : Keeps (BldS B tb W) W W') : Keeps (fun k => k = wb ∨ BldS B tb w5 k) w5 W' :=
  h.trans hk (fun k hk5 hs => by
    by_cases e : k = wb ∨ BldS B tb w5 k
    · exact e
    · have hb := h.block k hk5 e
      refine .inr ⟨hs.1, hs.2.imp id ?_⟩
      rintro ⟨cur, hc⟩
      exact ⟨cur, by rw [← hb]; exact hc⟩)

end Go.Proofs.YtkpaiaddikpdoaaGreatDoor
