import Derived.Test.YtnkcmfbmkokjpaaDoorM13
import Derived.Test.YtnkcmfbmkokjpaaDoorRows
import Derived.LaidLaws
import Derived.LaidHandle
import Derived.Lib.LaidTab
import Derived.ProofKit
import Derived.OpenShut
import Derived.ShutString
import Derived.ChangeOld
import Derived.Below
import Derived.Deep.Slices
import Derived.Deep.DeepHandedRow
import Derived.Deep.DeepWitnessRowRef

/- What the listed variables give a walk. -/

namespace Go.Proofs.YtnkcmfbmkokjpaaDoor

open Go.RowKit Go.Shelf

theorem laid_mem {P : Program} {w : World} : ∀ {l : List (String × DataW Unit)} {ps : List MemPlace}, DataW.LaidVars P w l ps → ∀ {n : String} {d : DataW Unit}, (n, d) ∈ l →
    ∃ g t cs fuel p, P.globalNamed n = some g ∧ (P.globals[g]?).map (·.type) = some t ∧ w.var? P n = some cs ∧ DataW.trod (fun _ => ()) P w 0 (fun _ => true) false fuel t cs.toList = some (d, p) ∧ ∀ x ∈ MemPlace.row ⟨g, 0, none⟩ cs.size ++ p, x ∈ ps
  | [], _, _, n, d, hm => by cases hm
  | (n', d') :: r, ps, h, n, d, hm => by
    obtain ⟨g, t, cs, fuel, p, q, h1, h2, h3, h4, h5, rfl⟩ := h
    rcases List.mem_cons.1 hm with e | hm
    · injection e with e1 e2
      subst e1 e2
      exact ⟨g, t, cs, fuel, p, h1, h2, h3, h4, fun x hx => List.mem_append.2 (.inl hx)⟩
    · obtain ⟨g', t', cs', fuel', p', k1, k2, k3, k4, k5⟩ := laid_mem h5 hm
      exact ⟨g', t', cs', fuel', p', k1, k2, k3, k4, fun x hx => List.mem_append.2 (.inr (k5 x hx))⟩

theorem Tryd.rowES : ∀ u, Tryd.prog.typeName? 3 u = some "*errors.errorString" → u = 127 :=
  typeName_ptr_named (nm := "errors.errorString") (by kernel_rfl) (by kernel_rfl) (by decide)

theorem Tryd.cellsES : Tryd.prog.cellsOf 146 = 1 := by kernel_rfl

theorem Tryd.cellsStr : Tryd.prog.cellsOf 9 = 1 := by kernel_rfl

set_option maxRecDepth 100000 in
/-- an error that errors.New made -/
theorem laid_sent {l : List (String × DataW Unit)} {W : World} {n : String} {text : List UInt8} {g : Nat} (h : laidMet Tryd.prog l W) (hm : (n, .iface "*errors.errorString" (.ptr (.agg [.lit (.string text)]))) ∈ l) (hg : Tryd.prog.globalNamed n = some g) (ht : (Tryd.prog.globals[g]?).map (·.type) = some 42) :
    ∃ (a : Addr) (s : ByteArray), W.cell? ⟨g, 0, none⟩ = some (.iface 127 (.pointer (some a))) ∧ W.cell? a = some (.string s) ∧ s.data.toList = text ∧ ∃ ca ta, W.heap[a.block]? = some (.cells ca ta (0, 0)) := by
  obtain ⟨ps, hv, -, hrows⟩ := h
  obtain ⟨g0, t0, cs0, f0, p0, hg0, ht0, hv0, hd0, hin⟩ := laid_mem hv hm
  obtain rfl := Option.some.inj (hg.symm.trans hg0)
  obtain rfl := Option.some.inj (ht.symm.trans ht0)
  obtain ⟨l0⟩ := cs0
  have ok0 : ∀ u v, l0 = [.iface u v] → Value.okWide Tryd.prog W .any 0 u v := fun u v e => by
    subst e
    exact (hrows g 0 (hin _ (by simp [MemPlace.row]))).2 u v (by simpa using World.var?_cell hg0 hv0 0)
  obtain ⟨a, s, rfl, hc, hs, -, hp⟩ := errorString_of_trod Tryd.underlying42 Tryd.rowES Tryd.underlying127 Tryd.underlying146 rfl rfl Tryd.underlying9 Tryd.cellsES Tryd.cellsStr hd0 ok0
  refine ⟨a, s, by simpa using World.var?_cell hg0 hv0 0, hc, hs, ?_⟩
  exact (hrows a.block a.off (hin _ (by rw [hp]; simp [MemPlace.row]))).1

theorem Tryd.gTurns : Tryd.prog.globalNamed "annals/stream.turns" = some 8 := by kernel_rfl

theorem Tryd.gTurnsT : (Tryd.prog.globals[8]?).map (·.type) = some 115 := by kernel_rfl

theorem Tryd.cellsCheck : Tryd.prog.cellsOf 51 = 1 := by kernel_rfl

theorem Tryd.cellsTurns : Tryd.prog.cellsOf 115 = 16 := by kernel_rfl

theorem Tryd.gType : Tryd.prog.globalNamed "errors.errorType" = some 7 := by kernel_rfl

theorem Tryd.rtypeT : (Tryd.prog.cutTypes.find? (·.1 == "internal/reflectlite.rtype")).map (·.2) = some 93 := by kernel_rfl

theorem Tryd.oneRow : ((List.range (258 - 100)).filter fun t => Tryd.prog.rowNamed t [101, 114, 114, 111, 114]) = [42] := by kernel_rfl

theorem Tryd.typesN : Tryd.prog.types.size = 258 - 100 := by kernel_rfl

/-- the table -/
theorem laid_table {l : List (String × DataW Unit)} {W : World} (h : laidMet Tryd.prog l W) (hm : ("annals/stream.turns", Lib.tabData .u32 (turnsL.map fun n : Nat => (n : Int))) ∈ l) : TurnsAt W := by
  obtain ⟨ps, hv, -, -⟩ := h
  obtain ⟨g0, t0, cs0, f0, p0, hg0, ht0, hv0, hd0, -⟩ := laid_mem hv hm
  obtain rfl := Option.some.inj (Tryd.gTurns.symm.trans hg0)
  obtain rfl := Option.some.inj (Tryd.gTurnsT.symm.trans ht0)
  have hc := Lib.cells_of_tab Tryd.underlying115 Tryd.underlying51 Tryd.cellsCheck Tryd.cellsTurns hd0
  intro i hi
  rw [World.var?_cell hg0 hv0 i, ← Array.getElem?_toList, hc]
  unfold turnAt
  rw [List.getElem?_map, List.getElem?_map]
  have hl : i < turnsL.length := hi
  rw [List.getElem?_eq_getElem hl, List.getD_eq_getElem?_getD, List.getElem?_eq_getElem hl]
  rfl

/-- the type of errors -/
theorem laid_type {W : World} {d : DataW Unit} (hd : d.handleName? = some [101, 114, 114, 111, 114]) (hf : d.funcsIn? = none) (h : handlesMet Tryd.prog [("errors.errorType", d)] W) : W.cell? ⟨7, 0, none⟩ = some (.iface 93 (.agg #[.pointer (some ⟨16, 42, none⟩)])) := by
  have h1 := h _ (List.mem_singleton.2 rfl)
  simp only [hf] at h1
  obtain ⟨name, u, ty, e1, e2, e3, e4, e5⟩ := h1
  obtain rfl := Option.some.inj (e1.symm.trans hd)
  obtain rfl := Option.some.inj (Tryd.rtypeT.symm.trans e2)
  have hm : ty ∈ (List.range (258 - 100)).filter fun t => Tryd.prog.rowNamed t [101, 114, 114, 111, 114] := List.mem_filter.2 ⟨List.mem_range.2 (by rw [← Tryd.typesN]; exact e3), e4⟩
  rw [Tryd.oneRow] at hm
  obtain rfl := List.mem_singleton.1 hm
  have hh : typeHandle Tryd.prog 42 = .pointer (some ⟨16, 42, none⟩) := by kernel_rfl
  rw [hh] at e5
  simpa using World.var?_cell Tryd.gType e5 0

end Go.Proofs.YtnkcmfbmkokjpaaDoor

/- The statement Told: of every right stream Encode tells a text of which Decode is the stream; of none of its beginnings, nor with a byte turned, is it one. No condition but what the listed variables hold. -/

namespace Go.Proofs.YtnkcmfbmkokjpaaDoor

open Go.ChangeShapes Go.WideShapes Go.ChangeAt Go.RowKit Go.Deep

set_option maxRecDepth 100000 in
theorem glob_of_laid {W : World} (h : laidMetH Tryd.prog Rows.toldRow.laid W) : Glob W := by
  have h' : laidMet Tryd.prog (Rows.toldRow.laid.drop 1) W ∧ handlesMet Tryd.prog [("errors.errorType", Rows.laid_errors_errorType)] W := h
  obtain ⟨hL, hH⟩ := h'
  obtain ⟨a, s, h1, h2, h3, h4⟩ := laid_sent hL (List.mem_of_getElem? (i := 1) (l := Rows.toldRow.laid.drop 1) (a := ("annals/stream.ErrSum", .iface "*errors.errorString" (.ptr (.agg [.lit (.string [97, 110, 111, 116, 104, 101, 114, 32, 99, 104, 101, 99, 107])])))) rfl) (show Tryd.prog.globalNamed "annals/stream.ErrSum" = some 0 by kernel_rfl) (by kernel_rfl)
  refine ⟨⟨a, h1, h4, fun g hg => ?_⟩, laid_type rfl rfl hH, laid_table hL (List.mem_of_getElem? (i := 0) rfl)⟩
  · obtain rfl | rfl | rfl | rfl | rfl | rfl | rfl | rfl | rfl | rfl | rfl | rfl | rfl : g = 1 ∨ g = 2 ∨ g = 3 ∨ g = 4 ∨ g = 5 ∨ g = 6 ∨ g = 9 ∨ g = 10 ∨ g = 11 ∨ g = 12 ∨ g = 13 ∨ g = 14 ∨ g = 15 := by unfold NoSum at hg; omega
    · obtain ⟨c, t, c1, c2, c3, c4⟩ := laid_sent hL (List.mem_of_getElem? (i := 9) (l := Rows.toldRow.laid.drop 1) (a := ("annals/stream.errOther", .iface "*errors.errorString" (.ptr (.agg [.lit (.string [110, 111, 116, 32, 97, 115, 32, 116, 104, 101, 32, 115, 116, 114, 101, 97, 109, 32, 105, 115, 32, 119, 114, 105, 116, 116, 101, 110])])))) rfl) (show Tryd.prog.globalNamed "annals/stream.errOther" = some 1 by kernel_rfl) (by kernel_rfl)
      exact ⟨c, c1, fun e => by rw [e, h2] at c2; have e2 := Value.string.inj (Option.some.inj c2); rw [e2, c3] at h3; exact absurd h3 (by decide), c4⟩
    · obtain ⟨c, t, c1, c2, c3, c4⟩ := laid_sent hL (List.mem_of_getElem? (i := 10) (l := Rows.toldRow.laid.drop 1) (a := ("annals/stream.errStates", .iface "*errors.errorString" (.ptr (.agg [.lit (.string [110, 111, 32, 115, 116, 97, 116, 101, 115, 32, 111, 102, 32, 97, 32, 115, 116, 114, 101, 97, 109])])))) rfl) (show Tryd.prog.globalNamed "annals/stream.errStates" = some 2 by kernel_rfl) (by kernel_rfl)
      exact ⟨c, c1, fun e => by rw [e, h2] at c2; have e2 := Value.string.inj (Option.some.inj c2); rw [e2, c3] at h3; exact absurd h3 (by decide), c4⟩
    · obtain ⟨c, t, c1, c2, c3, c4⟩ := laid_sent hL (List.mem_of_getElem? (i := 11) (l := Rows.toldRow.laid.drop 1) (a := ("annals/stream.errMany", .iface "*errors.errorString" (.ptr (.agg [.lit (.string [116, 111, 111, 32, 109, 97, 110, 121, 32, 114, 101, 99, 111, 114, 100, 115])])))) rfl) (show Tryd.prog.globalNamed "annals/stream.errMany" = some 3 by kernel_rfl) (by kernel_rfl)
      exact ⟨c, c1, fun e => by rw [e, h2] at c2; have e2 := Value.string.inj (Option.some.inj c2); rw [e2, c3] at h3; exact absurd h3 (by decide), c4⟩
    · obtain ⟨c, t, c1, c2, c3, c4⟩ := laid_sent hL (List.mem_of_getElem? (i := 12) (l := Rows.toldRow.laid.drop 1) (a := ("annals/stream.errText", .iface "*errors.errorString" (.ptr (.agg [.lit (.string [110, 111, 32, 107, 101, 121, 44, 32, 111, 114, 32, 110, 111, 32, 118, 97, 108, 117, 101])])))) rfl) (show Tryd.prog.globalNamed "annals/stream.errText" = some 4 by kernel_rfl) (by kernel_rfl)
      exact ⟨c, c1, fun e => by rw [e, h2] at c2; have e2 := Value.string.inj (Option.some.inj c2); rw [e2, c3] at h3; exact absurd h3 (by decide), c4⟩
    · obtain ⟨c, t, c1, c2, c3, c4⟩ := laid_sent hL (List.mem_of_getElem? (i := 13) (l := Rows.toldRow.laid.drop 1) (a := ("annals/stream.errOrder", .iface "*errors.errorString" (.ptr (.agg [.lit (.string [107, 101, 121, 115, 32, 116, 104, 97, 116, 32, 100, 111, 32, 110, 111, 116, 32, 114, 105, 115, 101])])))) rfl) (show Tryd.prog.globalNamed "annals/stream.errOrder" = some 5 by kernel_rfl) (by kernel_rfl)
      exact ⟨c, c1, fun e => by rw [e, h2] at c2; have e2 := Value.string.inj (Option.some.inj c2); rw [e2, c3] at h3; exact absurd h3 (by decide), c4⟩
    · obtain ⟨c, t, c1, c2, c3, c4⟩ := laid_sent hL (List.mem_of_getElem? (i := 14) (l := Rows.toldRow.laid.drop 1) (a := ("annals/stream.errGone", .iface "*errors.errorString" (.ptr (.agg [.lit (.string [103, 111, 110, 101, 32, 105, 110, 32, 97, 32, 102, 117, 108, 108, 32, 115, 116, 114, 101, 97, 109, 44, 32, 111, 114, 32, 119, 105, 116, 104, 32, 97, 32, 118, 97, 108, 117, 101])])))) rfl) (show Tryd.prog.globalNamed "annals/stream.errGone" = some 6 by kernel_rfl) (by kernel_rfl)
      exact ⟨c, c1, fun e => by rw [e, h2] at c2; have e2 := Value.string.inj (Option.some.inj c2); rw [e2, c3] at h3; exact absurd h3 (by decide), c4⟩
    · obtain ⟨c, t, c1, c2, c3, c4⟩ := laid_sent hL (List.mem_of_getElem? (i := 3) (l := Rows.toldRow.laid.drop 1) (a := ("annals/stream.errLetters", .iface "*errors.errorString" (.ptr (.agg [.lit (.string [111, 116, 104, 101, 114, 32, 108, 101, 116, 116, 101, 114, 115])])))) rfl) (show Tryd.prog.globalNamed "annals/stream.errLetters" = some 9 by kernel_rfl) (by kernel_rfl)
      exact ⟨c, c1, fun e => by rw [e, h2] at c2; have e2 := Value.string.inj (Option.some.inj c2); rw [e2, c3] at h3; exact absurd h3 (by decide), c4⟩
    · obtain ⟨c, t, c1, c2, c3, c4⟩ := laid_sent hL (List.mem_of_getElem? (i := 2) (l := Rows.toldRow.laid.drop 1) (a := ("annals/stream.errCut", .iface "*errors.errorString" (.ptr (.agg [.lit (.string [99, 117, 116, 32, 111, 102, 102])])))) rfl) (show Tryd.prog.globalNamed "annals/stream.errCut" = some 10 by kernel_rfl) (by kernel_rfl)
      exact ⟨c, c1, fun e => by rw [e, h2] at c2; have e2 := Value.string.inj (Option.some.inj c2); rw [e2, c3] at h3; exact absurd h3 (by decide), c4⟩
    · obtain ⟨c, t, c1, c2, c3, c4⟩ := laid_sent hL (List.mem_of_getElem? (i := 4) (l := Rows.toldRow.laid.drop 1) (a := ("annals/stream.errNumber", .iface "*errors.errorString" (.ptr (.agg [.lit (.string [110, 111, 32, 110, 117, 109, 98, 101, 114])])))) rfl) (show Tryd.prog.globalNamed "annals/stream.errNumber" = some 11 by kernel_rfl) (by kernel_rfl)
      exact ⟨c, c1, fun e => by rw [e, h2] at c2; have e2 := Value.string.inj (Option.some.inj c2); rw [e2, c3] at h3; exact absurd h3 (by decide), c4⟩
    · obtain ⟨c, t, c1, c2, c3, c4⟩ := laid_sent hL (List.mem_of_getElem? (i := 6) (l := Rows.toldRow.laid.drop 1) (a := ("annals/stream.errBlock", .iface "*errors.errorString" (.ptr (.agg [.lit (.string [97, 110, 111, 116, 104, 101, 114, 32, 99, 104, 101, 99, 107, 32, 111, 102, 32, 97, 32, 98, 108, 111, 99, 107])])))) rfl) (show Tryd.prog.globalNamed "annals/stream.errBlock" = some 12 by kernel_rfl) (by kernel_rfl)
      exact ⟨c, c1, fun e => by rw [e, h2] at c2; have e2 := Value.string.inj (Option.some.inj c2); rw [e2, c3] at h3; exact absurd h3 (by decide), c4⟩
    · obtain ⟨c, t, c1, c2, c3, c4⟩ := laid_sent hL (List.mem_of_getElem? (i := 7) (l := Rows.toldRow.laid.drop 1) (a := ("annals/stream.errCount", .iface "*errors.errorString" (.ptr (.agg [.lit (.string [97, 110, 111, 116, 104, 101, 114, 32, 110, 117, 109, 98, 101, 114, 32, 111, 102, 32, 114, 101, 99, 111, 114, 100, 115])])))) rfl) (show Tryd.prog.globalNamed "annals/stream.errCount" = some 13 by kernel_rfl) (by kernel_rfl)
      exact ⟨c, c1, fun e => by rw [e, h2] at c2; have e2 := Value.string.inj (Option.some.inj c2); rw [e2, c3] at h3; exact absurd h3 (by decide), c4⟩
    · obtain ⟨c, t, c1, c2, c3, c4⟩ := laid_sent hL (List.mem_of_getElem? (i := 8) (l := Rows.toldRow.laid.drop 1) (a := ("annals/stream.errBehind", .iface "*errors.errorString" (.ptr (.agg [.lit (.string [115, 111, 109, 101, 116, 104, 105, 110, 103, 32, 98, 101, 104, 105, 110, 100, 32, 116, 104, 101, 32, 101, 110, 100])])))) rfl) (show Tryd.prog.globalNamed "annals/stream.errBehind" = some 14 by kernel_rfl) (by kernel_rfl)
      exact ⟨c, c1, fun e => by rw [e, h2] at c2; have e2 := Value.string.inj (Option.some.inj c2); rw [e2, c3] at h3; exact absurd h3 (by decide), c4⟩
    · obtain ⟨c, t, c1, c2, c3, c4⟩ := laid_sent hL (List.mem_of_getElem? (i := 5) (l := Rows.toldRow.laid.drop 1) (a := ("annals/stream.errBounds", .iface "*errors.errorString" (.ptr (.agg [.lit (.string [97, 32, 110, 117, 109, 98, 101, 114, 32, 111, 117, 116, 32, 111, 102, 32, 105, 116, 115, 32, 98, 111, 117, 110, 100, 115])])))) rfl) (show Tryd.prog.globalNamed "annals/stream.errBounds" = some 15 by kernel_rfl) (by kernel_rfl)
      exact ⟨c, c1, fun e => by rw [e, h2] at c2; have e2 := Value.string.inj (Option.some.inj c2); rw [e2, c3] at h3; exact absurd h3 (by decide), c4⟩

end Go.Proofs.YtnkcmfbmkokjpaaDoor

/- The statement Told, lifted to all that comes in. -/

namespace Go.Proofs.YtnkcmfbmkokjpaaDoor

open Go.ChangeShapes Go.WideShapes Go.ChangeAt Go.RowKit Go.Deep

theorem Tryd.own : ownKnob Tryd.prog.godebug = none := by kernel_rfl

theorem Tryd.laidOut : laidOutB Tryd.prog = true := by kernel_rfl

theorem Tryd.cellsStep : Tryd.prog.cellsOf 38 = 3 := by kernel_rfl

theorem Tryd.cellsInt : Tryd.prog.cellsOf 3 = 1 := by kernel_rfl

theorem Tryd.cellsString : Tryd.prog.cellsOf 9 = 1 := by kernel_rfl

theorem wf_i64 {n : Int} (h : (Lit.int .i64 n).wf = true) : -9223372036854775808 ≤ n ∧ n ≤ 9223372036854775807 := by
  have := bounds_i64 h
  omega

set_option maxRecDepth 100000 in
/-- A list of raw steps that came in. -/
theorem steps_open {H : Type} {enc : TypeId × Value → H} {W : World} {base : Nat} {spare : Nat → Bool} {held : Bool} {fuel len0 cap0 : Nat} {a0 : Option Addr} {x : DataW H × List MemPlace}
    (h : DataW.trod enc Tryd.prog W base spare held fuel 22 [.slice a0 len0 cap0] = some x) : ∃ S, StepsAt W a0 len0 S ∧ len0 ≤ maxLen := by
  rcases open_slice Tryd.underlying22 h with ⟨hcs, _⟩ | ⟨a, len, cap, m, n, D, Pl, hcs, _, hl, hm, hmm, _, hel⟩
  · simp at hcs
    obtain ⟨rfl, rfl, rfl⟩ := hcs
    exact ⟨fun _ => ⟨0, 0, ByteArray.empty⟩, fun i hi => absurd hi (Nat.not_lt_zero _), Nat.zero_le _⟩
  · simp at hcs
    obtain ⟨rfl, rfl, rfl⟩ := hcs
    have hlm : len0 ≤ m := by rw [hmm]; split <;> omega
    have each : ∀ i, i < len0 → ∃ s : RawStep, W.cell? (a.add (i * 3)) = some (.int .i64 s.what) ∧ W.cell? (a.add (i * 3 + 1)) = some (.int .i64 s.key) ∧ W.cell? (a.add (i * 3 + 2)) = some (.string s.value) ∧
        (-9223372036854775808 ≤ s.what ∧ s.what ≤ 9223372036854775807) ∧ (-9223372036854775808 ≤ s.key ∧ s.key ≤ 9223372036854775807) ∧ s.value.size ≤ maxLen := by
      intro i hi
      obtain ⟨cs', h1, h2⟩ := hel i (by omega)
      rw [Tryd.cellsStep] at h1
      obtain ⟨_, hlen, hcell⟩ := World.cells?_some h1
      obtain ⟨xs, k, hk, hxy, _, hxl, hf⟩ := DataW.trod_struct Tryd.underlying38 h2
      match xs, hxl, cs', hlen with
      | [y0, y1, y2], _, [v0, v1, v2], _ =>
        have g0 := hf 0 _ rfl
        have g1 := hf 1 _ rfl
        have g2 := hf 2 _ rfl
        simp [Tryd.cellsInt, Tryd.cellsString] at g0 g1 g2
        have e0 := hcell 0 (by omega)
        have e1 := hcell 1 (by omega)
        have e2 := hcell 2 (by omega)
        rw [add_add] at e0 e1 e2
        obtain ⟨n0, c0, _, w0⟩ := DataW.trod_int Tryd.underlying3 g0
        obtain ⟨n1, c1, _, w1⟩ := DataW.trod_int Tryd.underlying3 g1
        obtain ⟨s2, c2, _, w2⟩ := DataW.trod_string Tryd.underlying9 g2
        simp at c0 c1 c2
        subst c0 c1 c2
        exact ⟨⟨n0, n1, s2⟩, by simpa using e0, by simpa using e1, by simpa using e2, wf_i64 w0, wf_i64 w1, w2⟩
    obtain ⟨S, hS⟩ := @choose_lt RawStep ⟨⟨0, 0, ByteArray.empty⟩⟩ len0 _ each
    refine ⟨S, fun i hi => ?_, by omega⟩
    obtain ⟨b, off, spot⟩ := a
    have hspot : spot = none := by
      have h0 := (hS 0 (by omega)).1
      simpa [Addr.add] using World.cell?_spot h0
    subst hspot
    have ea : ∀ j, (⟨b, off, none⟩ : Addr).add j = ⟨b, off + j, none⟩ := fun j => by
      unfold Addr.add
      by_cases hj : j = 0
      · simp [hj]
      · simp [hj]
    obtain ⟨q0, q1, q2, d⟩ := hS i hi
    rw [ea] at q0 q1 q2
    exact ⟨b, off, rfl, World.block_lt_of_cell? _ _ q0, q0, q1, q2, d⟩

/-- an error's text -/
def sentB : DataW Unit → ByteArray
  | .iface _ (.ptr (.agg [.lit (.string bs)])) => ⟨bs.toArray⟩
  | _ => ⟨#[]⟩

/-- a table's numbers -/
def tabV : DataW Unit → List Value
  | .agg l => l.map fun
    | .lit (.int k n) => .int k n
    | _ => .int .u32 0
  | _ => []

def putVar (P : Program) (h : Array Obj) (name : String) (cs : Array Value) : Array Obj := match P.globalNamed name with
  | some g => h.modify g fun
    | .cells _ t frozen => .cells cs t frozen
    | o => o
  | none => h

/-- the settled world, with a block for each error, the variables laid -/
def laidWorld (P : Program) (laid : List (String × DataW Unit)) (turns : DataW Unit) (os : Os) : World :=
  let N := (World.settled P os).heap.size
  let L := laid.drop 2
  let w0 := World.holding P os ⟨(L.map fun x => Obj.cells #[.string (sentB x.2)] 146).toArray, #[], []⟩
  let h0 := putVar P w0.heap "errors.errorType" #[.iface 93 (.agg #[.pointer (some ⟨16, 42, none⟩)])]
  let h1 := putVar P h0 "annals/stream.turns" (tabV turns).toArray
  { w0 with heap := L.zipIdx.foldl (fun h x => putVar P h x.1.1 #[.iface 127 (.pointer (some ⟨N + x.2, 0, none⟩))]) h1 }

theorem laid_met (os : Os) (args : Array Value) : laidMetH Tryd.prog Rows.toldRow.laid ((laidWorld Tryd.prog Rows.toldRow.laid Rows.laid_annals_stream_turns os).forCall (fun _ _ => 0) ⟨#[], args, []⟩).memory :=
  laidMetH_of_parts (laidMet_of_run' 8 (by kernel_rfl) (by kernel_rfl)) (by kernel_rfl)

theorem told_reads (os : Os) {H : Type} (enc : TypeId × Value → H) : ∃ places, DataW.whole enc Tryd.prog ((laidWorld Tryd.prog Rows.toldRow.laid Rows.laid_annals_stream_turns os).forCall (fun _ _ => 0) ⟨#[], #[.slice none 0 0, .bool false, .int .i64 0, .int .i64 0, .int .i64 0, .int .u8 0], []⟩).memory Tryd.f3.params.toList Rows.toldSpec.vars false #[Value.slice none 0 0, .bool false, .int .i64 0, .int .i64 0, .int .i64 0, .int .u8 0].toList 8 = some ([.nil, .lit (.bool false), .lit (.int .i64 0), .lit (.int .i64 0), .lit (.int .i64 0), .lit (.int .u8 0)], [], places) :=
  ⟨[], by kernel_rfl⟩

set_option maxRecDepth 100000 in
theorem told_lifted (os : Os) (started : os.Started) (H : Type) (enc : TypeId × Value → H) (F : Stop.Interp) :
    ReturnsInHanded {} Tryd.checked os 3 .any ((OpenSpec.ofChange Rows.toldSpec).preRow enc Tryd.prog Tryd.f3 Rows.toldRow.domain false Rows.toldRow.laid) (((OpenSpec.ofChange Rows.toldSpec).at F).post enc Tryd.prog Tryd.f3 false true false false) := by
  obtain ⟨places, hx⟩ := told_reads os enc
  refine returnsInHanded_of_row (C := Tryd.checked) (s := OpenSpec.ofChange Rows.toldSpec) Tryd.own started (by kernel_rfl) Tryd.func3
    (witness_row_atRef (enc := enc) (C := Tryd.checked) false (laidWorld Tryd.prog Rows.toldRow.laid Rows.laid_annals_stream_turns os) #[.slice none 0 0, .bool false, .int .i64 0, .int .i64 0, .int .i64 0, .int .u8 0] rfl (by kernel_rfl) (by kernel_rfl) (by kernel_rfl)
      (OpenSpec.preRow_of_cond 8 hx (by kernel_rfl) (fun k hk => by cases hk) (by kernel_rfl) (laid_met os _))) ?_
  intro W base args ds gs before hval0 hW _ _ _ hlaid _ _
  have hval : ∀ (j : Nat) t v, Tryd.f3.params[j]? = some t → args[j]? = some v → Value.okWide Tryd.prog W .any base t v := hval0
  have hW' := hW
  obtain ⟨p, q, hA0, hV, rfl, hfz, hnd⟩ := hW
  have hA : DataW.TrodAll enc Tryd.prog W 0 (fun _ => true) true Tryd.f3.params.toList args.toList ds p := hA0
  rw [Tryd.params3] at hA hval
  obtain ⟨v0, vs0, d0, ds0, p0, q0, hargs, rfl, rfl, h0, r0⟩ := trodAll_cons hA
  obtain ⟨v1, vs1, d1, ds1, p1, q1, rfl, rfl, rfl, h1, r1⟩ := trodAll_cons r0
  obtain ⟨v2, vs2, d2, ds2, p2, q2, rfl, rfl, rfl, h2, r2⟩ := trodAll_cons r1
  obtain ⟨v3, vs3, d3, ds3, p3, q3, rfl, rfl, rfl, h3, r3⟩ := trodAll_cons r2
  obtain ⟨v4, vs4, d4, ds4, p4, q4, rfl, rfl, rfl, h4, r4⟩ := trodAll_cons r3
  obtain ⟨v5, vs5, d5, ds5, p5, q5, rfl, rfl, rfl, h5, r5⟩ := trodAll_cons r4
  obtain ⟨rfl, rfl, rfl⟩ := trodAll_nil r5
  obtain rfl : args = #[v0, v1, v2, v3, v4, v5] := by cases args; simp_all
  obtain ⟨rfl, rfl⟩ := trodVars_none hV
  obtain ⟨a0, len0, cap0, rfl⟩ := okWide_slice Tryd.underlying22 (hval 0 22 v0 rfl rfl)
  obtain ⟨full, rfl⟩ := okWide_bool Tryd.underlying4 (hval 1 4 v1 rfl rfl)
  obtain ⟨frm, rfl⟩ := okWide_int Tryd.underlying3 (hval 2 3 v2 rfl rfl)
  obtain ⟨to_, rfl⟩ := okWide_int Tryd.underlying3 (hval 3 3 v3 rfl rfl)
  obtain ⟨at_, rfl⟩ := okWide_int Tryd.underlying3 (hval 4 3 v4 rfl rfl)
  obtain ⟨by_, rfl⟩ := okWide_int Tryd.underlying5 (hval 5 5 v5 rfl rfl)
  have bnd : ∀ {n : Int} {d : DataW H} {pp : List MemPlace}, (∃ m, DataW.trod enc Tryd.prog W 0 (fun _ => true) true m 3 (Value.int .i64 n).cells.toList = some (d, pp)) → -9223372036854775808 ≤ n ∧ n ≤ 9223372036854775807 := fun ⟨m, hm⟩ => by
    obtain ⟨n', e, -, hw⟩ := DataW.trod_int Tryd.underlying3 hm
    simp [Value.cells] at e
    subst e
    exact wf_i64 hw
  have b5 : 0 ≤ by_ ∧ by_ ≤ 255 := by
    obtain ⟨m, hm⟩ := h5
    obtain ⟨n', e, -, hw⟩ := DataW.trod_int Tryd.underlying5 hm
    simp [Value.cells] at e
    subst e
    exact bounds_u8 hw
  have k0 := h0
  have k1 := h1
  have k2 := h2
  have k3 := h3
  have k4 := h4
  have k5 := h5
  have lt0 : ∀ x ∈ p0, x.block < W.heap.size := by obtain ⟨m, hm⟩ := k0; exact DataW.trod_lt m _ _ _ hm
  have lt1 : ∀ x ∈ p1, x.block < W.heap.size := by obtain ⟨m, hm⟩ := k1; exact DataW.trod_lt m _ _ _ hm
  have lt2 : ∀ x ∈ p2, x.block < W.heap.size := by obtain ⟨m, hm⟩ := k2; exact DataW.trod_lt m _ _ _ hm
  have lt3 : ∀ x ∈ p3, x.block < W.heap.size := by obtain ⟨m, hm⟩ := k3; exact DataW.trod_lt m _ _ _ hm
  have lt4 : ∀ x ∈ p4, x.block < W.heap.size := by obtain ⟨m, hm⟩ := k4; exact DataW.trod_lt m _ _ _ hm
  have lt5 : ∀ x ∈ p5, x.block < W.heap.size := by obtain ⟨m, hm⟩ := k5; exact DataW.trod_lt m _ _ _ hm
  obtain ⟨S0, t0, m0⟩ : ∃ S, StepsAt W a0 len0 S ∧ len0 ≤ maxLen := by
    obtain ⟨fuel, hf⟩ := h0
    exact steps_open (by simpa [Value.cells] using hf)
  clear hA0 hval0
  refine (told_any full a0 len0 cap0 S0 frm to_ at_ by_ W t0 m0 (bnd h2) (bnd h3) (bnd h4) b5 (glob_of_laid hlaid)).mono fun e W' ⟨he, hk⟩ => ?_
  subst he
  have bel : Below W.heap.size W W' := hk.toBelow (Nat.le_refl _) (fun _ _ h => h)
  exact ⟨_, rfl, _, _, _, [], _, [], hW', trodAll_mk1 (shut_bool Tryd.underlying4 _), (trodAll_cons_mk (Below.trod Tryd.laidOut (by kernel_rfl) (of_decide_eq_true (by kernel_rfl)) k0 bel lt0) (trodAll_cons_mk (Below.trod Tryd.laidOut (by kernel_rfl) (of_decide_eq_true (by kernel_rfl)) k1 bel lt1) (trodAll_cons_mk (Below.trod Tryd.laidOut (by kernel_rfl) (of_decide_eq_true (by kernel_rfl)) k2 bel lt2) (trodAll_cons_mk (Below.trod Tryd.laidOut (by kernel_rfl) (of_decide_eq_true (by kernel_rfl)) k3 bel lt3) (trodAll_cons_mk (Below.trod Tryd.laidOut (by kernel_rfl) (of_decide_eq_true (by kernel_rfl)) k4 bel lt4) (trodAll_cons_mk (Below.trod Tryd.laidOut (by kernel_rfl) (of_decide_eq_true (by kernel_rfl)) k5 bel lt5) trodAll_mk0)))))), rfl, bel.frame _, fun h => by cases h⟩

end Go.Proofs.YtnkcmfbmkokjpaaDoor
