import Derived.Test.YtkpaiaddikpdoaaGreatDoorM24
import Derived.ProofKit
import Derived.OpenShut
import Derived.ShutString
import Derived.ChangeOld
import Derived.Below
import Derived.Deep.Slices
import Derived.Deep.DeepHandedRow
import Derived.Deep.DeepWitnessRowRef

/- Streams: what the listed variables give a walk. -/

namespace Go.Proofs.YtkpaiaddikpdoaaGreatDoor

open Go.ChangeShapes Go.WideShapes Go.ChangeAt Go.RowKit Go.Deep

set_option maxRecDepth 100000 in
theorem glob_of_laid {W : World} (h : laidMetH Tryz.prog Rows.streamsUptoRow.laid W) : Glob W := by
  have h' : laidMet Tryz.prog (Rows.streamsUptoRow.laid.drop 1) W ∧ handlesMet Tryz.prog [("errors.errorType", Rows.laid_errors_errorType)] W := h
  obtain ⟨hL, hH⟩ := h'
  obtain ⟨a, s, h1, h2, h3, h4⟩ := laid_sent hL (List.mem_of_getElem? (i := 1) (l := Rows.streamsUptoRow.laid.drop 1) (a := ("annals/stream.ErrSum", .iface "*errors.errorString" (.ptr (.agg [.lit (.string [97, 110, 111, 116, 104, 101, 114, 32, 99, 104, 101, 99, 107])])))) rfl) (show Tryz.prog.globalNamed "annals/stream.ErrSum" = some 0 by kernel_rfl) (by kernel_rfl)
  refine ⟨⟨a, h1, h4, fun g hg => ?_⟩, laid_type rfl rfl hH, laid_table hL (List.mem_of_getElem? (i := 0) rfl)⟩
  · obtain rfl | rfl | rfl | rfl | rfl | rfl | rfl | rfl | rfl | rfl | rfl | rfl | rfl : g = 1 ∨ g = 2 ∨ g = 3 ∨ g = 4 ∨ g = 5 ∨ g = 6 ∨ g = 9 ∨ g = 10 ∨ g = 11 ∨ g = 12 ∨ g = 13 ∨ g = 14 ∨ g = 15 := by unfold NoSum at hg; omega
    · obtain ⟨c, t, c1, c2, c3, c4⟩ := laid_sent hL (List.mem_of_getElem? (i := 9) (l := Rows.streamsUptoRow.laid.drop 1) (a := ("annals/stream.errOther", .iface "*errors.errorString" (.ptr (.agg [.lit (.string [110, 111, 116, 32, 97, 115, 32, 116, 104, 101, 32, 115, 116, 114, 101, 97, 109, 32, 105, 115, 32, 119, 114, 105, 116, 116, 101, 110])])))) rfl) (show Tryz.prog.globalNamed "annals/stream.errOther" = some 1 by kernel_rfl) (by kernel_rfl)
      exact ⟨c, c1, fun e => by rw [e, h2] at c2; have e2 := Value.string.inj (Option.some.inj c2); rw [e2, c3] at h3; exact absurd h3 (by decide), c4⟩
    · obtain ⟨c, t, c1, c2, c3, c4⟩ := laid_sent hL (List.mem_of_getElem? (i := 10) (l := Rows.streamsUptoRow.laid.drop 1) (a := ("annals/stream.errStates", .iface "*errors.errorString" (.ptr (.agg [.lit (.string [110, 111, 32, 115, 116, 97, 116, 101, 115, 32, 111, 102, 32, 97, 32, 115, 116, 114, 101, 97, 109])])))) rfl) (show Tryz.prog.globalNamed "annals/stream.errStates" = some 2 by kernel_rfl) (by kernel_rfl)
      exact ⟨c, c1, fun e => by rw [e, h2] at c2; have e2 := Value.string.inj (Option.some.inj c2); rw [e2, c3] at h3; exact absurd h3 (by decide), c4⟩
    · obtain ⟨c, t, c1, c2, c3, c4⟩ := laid_sent hL (List.mem_of_getElem? (i := 11) (l := Rows.streamsUptoRow.laid.drop 1) (a := ("annals/stream.errMany", .iface "*errors.errorString" (.ptr (.agg [.lit (.string [116, 111, 111, 32, 109, 97, 110, 121, 32, 114, 101, 99, 111, 114, 100, 115])])))) rfl) (show Tryz.prog.globalNamed "annals/stream.errMany" = some 3 by kernel_rfl) (by kernel_rfl)
      exact ⟨c, c1, fun e => by rw [e, h2] at c2; have e2 := Value.string.inj (Option.some.inj c2); rw [e2, c3] at h3; exact absurd h3 (by decide), c4⟩
    · obtain ⟨c, t, c1, c2, c3, c4⟩ := laid_sent hL (List.mem_of_getElem? (i := 12) (l := Rows.streamsUptoRow.laid.drop 1) (a := ("annals/stream.errText", .iface "*errors.errorString" (.ptr (.agg [.lit (.string [110, 111, 32, 107, 101, 121, 44, 32, 111, 114, 32, 110, 111, 32, 118, 97, 108, 117, 101])])))) rfl) (show Tryz.prog.globalNamed "annals/stream.errText" = some 4 by kernel_rfl) (by kernel_rfl)
      exact ⟨c, c1, fun e => by rw [e, h2] at c2; have e2 := Value.string.inj (Option.some.inj c2); rw [e2, c3] at h3; exact absurd h3 (by decide), c4⟩
    · obtain ⟨c, t, c1, c2, c3, c4⟩ := laid_sent hL (List.mem_of_getElem? (i := 13) (l := Rows.streamsUptoRow.laid.drop 1) (a := ("annals/stream.errOrder", .iface "*errors.errorString" (.ptr (.agg [.lit (.string [107, 101, 121, 115, 32, 116, 104, 97, 116, 32, 100, 111, 32, 110, 111, 116, 32, 114, 105, 115, 101])])))) rfl) (show Tryz.prog.globalNamed "annals/stream.errOrder" = some 5 by kernel_rfl) (by kernel_rfl)
      exact ⟨c, c1, fun e => by rw [e, h2] at c2; have e2 := Value.string.inj (Option.some.inj c2); rw [e2, c3] at h3; exact absurd h3 (by decide), c4⟩
    · obtain ⟨c, t, c1, c2, c3, c4⟩ := laid_sent hL (List.mem_of_getElem? (i := 14) (l := Rows.streamsUptoRow.laid.drop 1) (a := ("annals/stream.errGone", .iface "*errors.errorString" (.ptr (.agg [.lit (.string [103, 111, 110, 101, 32, 105, 110, 32, 97, 32, 102, 117, 108, 108, 32, 115, 116, 114, 101, 97, 109, 44, 32, 111, 114, 32, 119, 105, 116, 104, 32, 97, 32, 118, 97, 108, 117, 101])])))) rfl) (show Tryz.prog.globalNamed "annals/stream.errGone" = some 6 by kernel_rfl) (by kernel_rfl)
      exact ⟨c, c1, fun e => by rw [e, h2] at c2; have e2 := Value.string.inj (Option.some.inj c2); rw [e2, c3] at h3; exact absurd h3 (by decide), c4⟩
    · obtain ⟨c, t, c1, c2, c3, c4⟩ := laid_sent hL (List.mem_of_getElem? (i := 3) (l := Rows.streamsUptoRow.laid.drop 1) (a := ("annals/stream.errLetters", .iface "*errors.errorString" (.ptr (.agg [.lit (.string [111, 116, 104, 101, 114, 32, 108, 101, 116, 116, 101, 114, 115])])))) rfl) (show Tryz.prog.globalNamed "annals/stream.errLetters" = some 9 by kernel_rfl) (by kernel_rfl)
      exact ⟨c, c1, fun e => by rw [e, h2] at c2; have e2 := Value.string.inj (Option.some.inj c2); rw [e2, c3] at h3; exact absurd h3 (by decide), c4⟩
    · obtain ⟨c, t, c1, c2, c3, c4⟩ := laid_sent hL (List.mem_of_getElem? (i := 2) (l := Rows.streamsUptoRow.laid.drop 1) (a := ("annals/stream.errCut", .iface "*errors.errorString" (.ptr (.agg [.lit (.string [99, 117, 116, 32, 111, 102, 102])])))) rfl) (show Tryz.prog.globalNamed "annals/stream.errCut" = some 10 by kernel_rfl) (by kernel_rfl)
      exact ⟨c, c1, fun e => by rw [e, h2] at c2; have e2 := Value.string.inj (Option.some.inj c2); rw [e2, c3] at h3; exact absurd h3 (by decide), c4⟩
    · obtain ⟨c, t, c1, c2, c3, c4⟩ := laid_sent hL (List.mem_of_getElem? (i := 4) (l := Rows.streamsUptoRow.laid.drop 1) (a := ("annals/stream.errNumber", .iface "*errors.errorString" (.ptr (.agg [.lit (.string [110, 111, 32, 110, 117, 109, 98, 101, 114])])))) rfl) (show Tryz.prog.globalNamed "annals/stream.errNumber" = some 11 by kernel_rfl) (by kernel_rfl)
      exact ⟨c, c1, fun e => by rw [e, h2] at c2; have e2 := Value.string.inj (Option.some.inj c2); rw [e2, c3] at h3; exact absurd h3 (by decide), c4⟩
    · obtain ⟨c, t, c1, c2, c3, c4⟩ := laid_sent hL (List.mem_of_getElem? (i := 6) (l := Rows.streamsUptoRow.laid.drop 1) (a := ("annals/stream.errBlock", .iface "*errors.errorString" (.ptr (.agg [.lit (.string [97, 110, 111, 116, 104, 101, 114, 32, 99, 104, 101, 99, 107, 32, 111, 102, 32, 97, 32, 98, 108, 111, 99, 107])])))) rfl) (show Tryz.prog.globalNamed "annals/stream.errBlock" = some 12 by kernel_rfl) (by kernel_rfl)
      exact ⟨c, c1, fun e => by rw [e, h2] at c2; have e2 := Value.string.inj (Option.some.inj c2); rw [e2, c3] at h3; exact absurd h3 (by decide), c4⟩
    · obtain ⟨c, t, c1, c2, c3, c4⟩ := laid_sent hL (List.mem_of_getElem? (i := 7) (l := Rows.streamsUptoRow.laid.drop 1) (a := ("annals/stream.errCount", .iface "*errors.errorString" (.ptr (.agg [.lit (.string [97, 110, 111, 116, 104, 101, 114, 32, 110, 117, 109, 98, 101, 114, 32, 111, 102, 32, 114, 101, 99, 111, 114, 100, 115])])))) rfl) (show Tryz.prog.globalNamed "annals/stream.errCount" = some 13 by kernel_rfl) (by kernel_rfl)
      exact ⟨c, c1, fun e => by rw [e, h2] at c2; have e2 := Value.string.inj (Option.some.inj c2); rw [e2, c3] at h3; exact absurd h3 (by decide), c4⟩
    · obtain ⟨c, t, c1, c2, c3, c4⟩ := laid_sent hL (List.mem_of_getElem? (i := 8) (l := Rows.streamsUptoRow.laid.drop 1) (a := ("annals/stream.errBehind", .iface "*errors.errorString" (.ptr (.agg [.lit (.string [115, 111, 109, 101, 116, 104, 105, 110, 103, 32, 98, 101, 104, 105, 110, 100, 32, 116, 104, 101, 32, 101, 110, 100])])))) rfl) (show Tryz.prog.globalNamed "annals/stream.errBehind" = some 14 by kernel_rfl) (by kernel_rfl)
      exact ⟨c, c1, fun e => by rw [e, h2] at c2; have e2 := Value.string.inj (Option.some.inj c2); rw [e2, c3] at h3; exact absurd h3 (by decide), c4⟩
    · obtain ⟨c, t, c1, c2, c3, c4⟩ := laid_sent hL (List.mem_of_getElem? (i := 5) (l := Rows.streamsUptoRow.laid.drop 1) (a := ("annals/stream.errBounds", .iface "*errors.errorString" (.ptr (.agg [.lit (.string [97, 32, 110, 117, 109, 98, 101, 114, 32, 111, 117, 116, 32, 111, 102, 32, 105, 116, 115, 32, 98, 111, 117, 110, 100, 115])])))) rfl) (show Tryz.prog.globalNamed "annals/stream.errBounds" = some 15 by kernel_rfl) (by kernel_rfl)
      exact ⟨c, c1, fun e => by rw [e, h2] at c2; have e2 := Value.string.inj (Option.some.inj c2); rw [e2, c3] at h3; exact absurd h3 (by decide), c4⟩

end Go.Proofs.YtkpaiaddikpdoaaGreatDoor

/- Streams: what came in, opened. -/

namespace Go.Proofs.YtkpaiaddikpdoaaGreatDoor

open Go.ChangeShapes Go.WideShapes Go.ChangeAt Go.RowKit Go.Deep

theorem Tryz.cellsRec : Tryz.prog.cellsOf 31 = 3 := by kernel_rfl

theorem Tryz.cellsStm : Tryz.prog.cellsOf 34 = 4 := by kernel_rfl

theorem Tryz.cellsInt : Tryz.prog.cellsOf 3 = 1 := by kernel_rfl

theorem Tryz.cellsString : Tryz.prog.cellsOf 9 = 1 := by kernel_rfl

theorem Tryz.cellsBool : Tryz.prog.cellsOf 4 = 1 := by kernel_rfl

theorem Tryz.cellsRecs : Tryz.prog.cellsOf 32 = 1 := by kernel_rfl

/-- what a reading counts, at the least -/
theorem bulk_one {H : Type} (d : DataW H) : 1 ≤ Rows.uptoBulk d := by
  cases d with
  | lit l => cases l <;> simp [Rows.uptoBulk]
  | _ => simp [Rows.uptoBulk]

theorem bulk_length {H : Type} (l : List (DataW H)) : l.length ≤ Rows.uptoBulkAll l := by
  induction l with
  | nil => simp
  | cons x r ih =>
    have := bulk_one x
    simp only [Rows.uptoBulkAll, List.length_cons]
    omega

theorem bulk_mem {H : Type} {d : DataW H} {l : List (DataW H)} (h : d ∈ l) : Rows.uptoBulk d ≤ Rows.uptoBulkAll l := by
  induction l with
  | nil => cases h
  | cons x r ih =>
    simp only [Rows.uptoBulkAll]
    rcases List.mem_cons.1 h with rfl | h
    · omega
    · have := ih h
      omega

theorem addr_off (b off j : Nat) : (⟨b, off, none⟩ : Addr).add j = ⟨b, off + j, none⟩ := by
  unfold Addr.add
  by_cases hj : j = 0
  · simp [hj]
  · simp [hj]

set_option maxRecDepth 100000 in
/-- texts that came in -/
theorem texts_open {H : Type} {enc : TypeId × Value → H} {W : World} {base : Nat} {spare : Nat → Bool} {held : Bool} {fuel len0 cap0 : Nat} {a0 : Option Addr} {x : DataW H × List MemPlace}
    (h : DataW.trod enc Tryz.prog W base spare held fuel 23 [.slice a0 len0 cap0] = some x) : ∃ ts : List ByteArray, ts.length = len0 ∧ TxtIn W a0 ts ∧ len0 ≤ Rows.uptoBulk x.1 ∧ ∀ t ∈ ts, t.size ≤ Rows.uptoBulk x.1 := by
  rcases open_slice Tryz.underlying23 h with ⟨hcs, _⟩ | ⟨a, len, cap, m, n, D, Pl, hcs, _, hl, hm, hmm, hx, hel⟩
  · simp at hcs
    obtain ⟨rfl, rfl, rfl⟩ := hcs
    exact ⟨[], rfl, fun i hi => absurd hi (Nat.not_lt_zero _), Nat.zero_le _, fun t ht => by cases ht⟩
  · simp at hcs
    obtain ⟨rfl, rfl, rfl⟩ := hcs
    have hlm : len0 ≤ m := by rw [hmm]; split <;> omega
    have each : ∀ i, i < len0 → ∃ s : ByteArray, W.cell? (a.add i) = some (.string s) ∧ Rows.uptoBulk (D i) = s.size + 1 := by
      intro i hi
      obtain ⟨cs', h1, h2⟩ := hel i (by omega)
      rw [Tryz.cellsString] at h1
      obtain ⟨_, hlen, hcell⟩ := World.cells?_some h1
      obtain ⟨s, hc, hd, -⟩ := DataW.trod_string Tryz.underlying9 h2
      subst hc
      have e0 := hcell 0 (by omega)
      rw [add_add] at e0
      refine ⟨s, by simpa using e0, ?_⟩
      have hd1 : D i = .lit (.string s.data.toList) := (Prod.mk.inj hd).1
      rw [hd1]
      rfl
    obtain ⟨S, hS⟩ := @choose_lt ByteArray ⟨ByteArray.empty⟩ len0 _ each
    have hb : Rows.uptoBulkAll ((List.range len0).map D) ≤ Rows.uptoBulk x.1 := by
      rw [hx]
      simp only [Rows.uptoBulk]
      omega
    refine ⟨(List.range len0).map S, by simp, fun i hi => ?_, ?_, fun t ht => ?_⟩
    · have hi' : i < len0 := by simpa using hi
      obtain ⟨b, off, spot⟩ := a
      have hspot : spot = none := by
        have h0 := (hS 0 (by omega)).1
        simpa [Addr.add] using World.cell?_spot h0
      subst hspot
      have h1 := (hS i hi').1
      rw [addr_off] at h1
      refine ⟨b, off, rfl, ?_⟩
      rw [h1]
      simp
    · have := bulk_length ((List.range len0).map D)
      simp only [List.length_map, List.length_range] at this
      omega
    · obtain ⟨i, hi, rfl⟩ := List.mem_map.1 ht
      have hi' : i < len0 := by simpa using hi
      have h2 := (hS i hi').2
      have h3 := bulk_mem (List.mem_map.2 ⟨i, hi, rfl⟩ : D i ∈ (List.range len0).map D)
      omega

set_option maxRecDepth 100000 in
/-- records that came in -/
theorem recs_open {H : Type} {enc : TypeId × Value → H} {W : World} {base : Nat} {spare : Nat → Bool} {held : Bool} {fuel len0 cap0 : Nat} {a0 : Option Addr} {x : DataW H × List MemPlace}
    (h : DataW.trod enc Tryz.prog W base spare held fuel 32 [.slice a0 len0 cap0] = some x) : ∃ l : List RecB, l.length = len0 ∧ RecIn W a0 l ∧ len0 ≤ Rows.uptoBulk x.1 ∧ ∀ r ∈ l, r.key.size ≤ maxLen ∧ r.value.size ≤ maxLen := by
  rcases open_slice Tryz.underlying32 h with ⟨hcs, _⟩ | ⟨a, len, cap, m, n, D, Pl, hcs, _, hl, hm, hmm, hx, hel⟩
  · simp at hcs
    obtain ⟨rfl, rfl, rfl⟩ := hcs
    exact ⟨[], rfl, fun i hi => absurd hi (Nat.not_lt_zero _), Nat.zero_le _, fun t ht => by cases ht⟩
  · simp at hcs
    obtain ⟨rfl, rfl, rfl⟩ := hcs
    have hlm : len0 ≤ m := by rw [hmm]; split <;> omega
    have each : ∀ i, i < len0 → ∃ r : RecB, (W.cell? (a.add (i * 3)) = some (.string r.key) ∧ W.cell? (a.add (i * 3 + 1)) = some (.string r.value) ∧ W.cell? (a.add (i * 3 + 2)) = some (.bool r.gone)) ∧ r.key.size ≤ maxLen ∧ r.value.size ≤ maxLen := by
      intro i hi
      obtain ⟨cs', h1, h2⟩ := hel i (by omega)
      rw [Tryz.cellsRec] at h1
      obtain ⟨_, hlen, hcell⟩ := World.cells?_some h1
      obtain ⟨xs, k, hk, hxy, _, hxl, hf⟩ := DataW.trod_struct Tryz.underlying31 h2
      match xs, hxl, cs', hlen with
      | [y0, y1, y2], _, [v0, v1, v2], _ =>
        have g0 := hf 0 _ rfl
        have g1 := hf 1 _ rfl
        have g2 := hf 2 _ rfl
        simp [Tryz.cellsBool, Tryz.cellsString] at g0 g1 g2
        have e0 := hcell 0 (by omega)
        have e1 := hcell 1 (by omega)
        have e2 := hcell 2 (by omega)
        rw [add_add] at e0 e1 e2
        obtain ⟨s0, c0, _, w0⟩ := DataW.trod_string Tryz.underlying9 g0
        obtain ⟨s1, c1, _, w1⟩ := DataW.trod_string Tryz.underlying9 g1
        obtain ⟨b2, c2, _⟩ := DataW.trod_bool Tryz.underlying4 g2
        simp at c0 c1 c2
        subst c0 c1 c2
        exact ⟨⟨s0, s1, b2⟩, ⟨by simpa using e0, by simpa using e1, by simpa using e2⟩, w0, w1⟩
    obtain ⟨S, hS⟩ := @choose_lt RecB ⟨⟨ByteArray.empty, ByteArray.empty, false⟩⟩ len0 _ each
    refine ⟨(List.range len0).map S, by simp, fun i hi => ?_, ?_, fun t ht => ?_⟩
    · have hi' : i < len0 := by simpa using hi
      obtain ⟨b, off, spot⟩ := a
      have hspot : spot = none := by
        have h0 := (hS 0 (by omega)).1.1
        simpa [Addr.add] using World.cell?_spot h0
      subst hspot
      obtain ⟨q0, q1, q2⟩ := (hS i hi').1
      rw [addr_off] at q0 q1 q2
      refine ⟨b, off, rfl, ?_, ?_, ?_⟩
      · rw [q0]; simp
      · rw [Nat.add_assoc, q1]; simp
      · rw [Nat.add_assoc, q2]; simp
    · rw [hx]
      have := bulk_length ((List.range len0).map D)
      simp only [List.length_map, List.length_range] at this
      simp only [Rows.uptoBulk]
      omega
    · obtain ⟨i, hi, rfl⟩ := List.mem_map.1 ht
      have hi' : i < len0 := by simpa using hi
      exact (hS i hi').2

theorem trod_sl {H : Type} {enc : TypeId × Value → H} {W : World} {base : Nat} {spare : Nat → Bool} {held : Bool} {fuel : Nat} {t e : TypeId} {v : Value} {x : DataW H × List MemPlace} (ht : Tryz.prog.underlying t = some (.slice e)) (h : DataW.trod enc Tryz.prog W base spare held fuel t [v] = some x) : ∃ a l c, v = .slice a l c := by
  rcases open_slice ht h with ⟨hcs, _⟩ | ⟨a, len, cap, m, n, D, Pl, hcs, _⟩
  · exact ⟨none, 0, 0, by simpa using hcs⟩
  · exact ⟨some a, len, cap, by simpa using hcs⟩

set_option maxRecDepth 100000 in
set_option maxHeartbeats 1000000 in
/-- streams that came in -/
theorem strs_open {H : Type} {enc : TypeId × Value → H} {W : World} {base : Nat} {spare : Nat → Bool} {held : Bool} {fuel len0 cap0 : Nat} {a0 : Option Addr} {x : DataW H × List MemPlace}
    (h : DataW.trod enc Tryz.prog W base spare held fuel 22 [.slice a0 len0 cap0] = some x) (hb : Rows.uptoBulk x.1 ≤ 1048576) : ∃ S, StrsIn W a0 len0 S ∧ len0 ≤ 1048576 := by
  rcases open_slice Tryz.underlying22 h with ⟨hcs, _⟩ | ⟨a, len, cap, m, n, D, Pl, hcs, _, hl, hm, hmm, hx, hel⟩
  · simp at hcs
    obtain ⟨rfl, rfl, rfl⟩ := hcs
    exact ⟨fun _ => ⟨false, 0, 0, none, 0, []⟩, fun i hi => absurd hi (Nat.not_lt_zero _), Nat.zero_le _⟩
  · simp at hcs
    obtain ⟨rfl, rfl, rfl⟩ := hcs
    have hlm : len0 ≤ m := by rw [hmm]; split <;> omega
    have hbl : Rows.uptoBulkAll ((List.range len0).map D) ≤ 1048576 := by
      rw [hx] at hb
      simp only [Rows.uptoBulk] at hb
      omega
    have each : ∀ i, i < len0 → ∃ s : SIn, (a.add (i * 4)).spot = none ∧ SIn.At W (a.add (i * 4)).block (a.add (i * 4)).off s := by
      intro i hi
      obtain ⟨cs', h1, h2⟩ := hel i (by omega)
      rw [Tryz.cellsStm] at h1
      obtain ⟨_, hlen, hcell⟩ := World.cells?_some h1
      obtain ⟨xs, k, hk, hxy, _, hxl, hf⟩ := DataW.trod_struct Tryz.underlying34 h2
      match xs, hxl, cs', hlen with
      | [y0, y1, y2, y3], _, [v0, v1, v2, v3], _ =>
        have g0 := hf 0 _ rfl
        have g1 := hf 1 _ rfl
        have g2 := hf 2 _ rfl
        have g3 := hf 3 _ rfl
        simp [Tryz.cellsInt, Tryz.cellsBool, Tryz.cellsRecs] at g0 g1 g2 g3
        obtain ⟨b0, c0, _⟩ := DataW.trod_bool Tryz.underlying4 g0
        obtain ⟨n1, c1, _, _⟩ := DataW.trod_int Tryz.underlying3 g1
        obtain ⟨n2, c2, _, _⟩ := DataW.trod_int Tryz.underlying3 g2
        obtain ⟨a3, l3, k3, rfl⟩ := trod_sl Tryz.underlying32 g3
        simp at c0 c1 c2
        subst c0 c1 c2
        obtain ⟨l, hl3, hrec, hlb, hsm⟩ := recs_open g3
        have hD : D i = .agg [y0.1, y1.1, y2.1, y3.1] := by
          have := (Prod.mk.inj hxy).1
          simpa using this
        have hfew : l3 ≤ 1048576 := by
          have h3 := bulk_mem (List.mem_map.2 ⟨i, List.mem_range.2 hi, rfl⟩ : D i ∈ (List.range len0).map D)
          rw [hD] at h3
          simp only [Rows.uptoBulk, Rows.uptoBulkAll] at h3
          omega
        have e := fun j (hj : j < 4) => hcell j hj
        generalize a.add (i * 4) = ad at *
        obtain ⟨b, off, spot⟩ := ad
        have hspot : spot = none := by
          have h0 : W.cell? ((⟨b, off, spot⟩ : Addr).add 0) = some (.bool b0) := e 0 (by omega)
          have h00 := World.cell?_spot h0
          unfold Addr.add at h00
          rw [if_pos rfl] at h00
          exact h00
        subst hspot
        have q0 := e 0 (by omega)
        have q1 := e 1 (by omega)
        have q2 := e 2 (by omega)
        have q3 := e 3 (by omega)
        rw [addr_off] at q0 q1 q2 q3
        exact ⟨⟨b0, n1, n2, a3, k3, l⟩, rfl, ⟨by simpa using q0, by simpa using q1, by simpa using q2, by rw [hl3]; simpa using q3, hrec, by rw [hl3]; omega, hsm⟩⟩
    obtain ⟨S, hS⟩ := @choose_lt SIn ⟨⟨false, 0, 0, none, 0, []⟩⟩ len0 _ each
    refine ⟨S, fun i hi => ?_, ?_⟩
    · obtain ⟨b, off, spot⟩ := a
      have h0 := (hS 0 (by omega)).1
      have hspot : spot = none := by simpa [Addr.add] using h0
      subst hspot
      have h1 := (hS i hi).2
      rw [addr_off] at h1
      exact ⟨b, off, rfl, h1⟩
    · have := bulk_length ((List.range len0).map D)
      simp only [List.length_map, List.length_range] at this
      omega

end Go.Proofs.YtkpaiaddikpdoaaGreatDoor

/- The statement Streams, lifted to all that comes in. -/

namespace Go.Proofs.YtkpaiaddikpdoaaGreatDoor

open Go.ChangeShapes Go.WideShapes Go.ChangeAt Go.RowKit Go.Deep

theorem Tryz.own : ownKnob Tryz.prog.godebug = none := by kernel_rfl

theorem Tryz.laidOut : laidOutB Tryz.prog = true := by kernel_rfl

/-- an error's text -/
def sentB : DataW Unit → ByteArray
  | .iface _ (.ptr (.agg [.lit (.string bs)])) => ⟨bs.toArray⟩
  | _ => ⟨#[]⟩

/-- a table's numbers -/
def tabV : DataW Unit → List Value
  | .agg l => l.map fun
    | .lit (.int k n) => .int k n
    | _ => .int .u32 0
  | _ => []

def putVar (P : Program) (h : Array Obj) (name : String) (cs : Array Value) : Array Obj := match P.globalNamed name with
  | some g => h.modify g fun
    | .cells _ t frozen => .cells cs t frozen
    | o => o
  | none => h

/-- the settled world, with a block for each error, the variables laid -/
def laidWorld (P : Program) (laid : List (String × DataW Unit)) (turns : DataW Unit) (os : Os) : World :=
  let N := (World.settled P os).heap.size
  let L := laid.drop 2
  let w0 := World.holding P os ⟨(L.map fun x => Obj.cells #[.string (sentB x.2)] 206).toArray, #[], []⟩
  let h0 := putVar P w0.heap "errors.errorType" #[.iface 129 (.agg #[.pointer (some ⟨16, 57, none⟩)])]
  let h1 := putVar P h0 "annals/stream.turns" (tabV turns).toArray
  { w0 with heap := L.zipIdx.foldl (fun h x => putVar P h x.1.1 #[.iface 187 (.pointer (some ⟨N + x.2, 0, none⟩))]) h1 }

theorem laid_met (os : Os) (args : Array Value) : laidMetH Tryz.prog Rows.streamsUptoRow.laid ((laidWorld Tryz.prog Rows.streamsUptoRow.laid Rows.laid_annals_stream_turns os).forCall (fun _ _ => 0) ⟨#[], args, []⟩).memory :=
  laidMetH_of_parts (laidMet_of_run' 8 (by kernel_rfl) (by kernel_rfl)) (by kernel_rfl)

theorem streams_reads (os : Os) {H : Type} (enc : TypeId × Value → H) : ∃ places, DataW.whole enc Tryz.prog ((laidWorld Tryz.prog Rows.streamsUptoRow.laid Rows.laid_annals_stream_turns os).forCall (fun _ _ => 0) ⟨#[], #[.slice none 0 0, .slice none 0 0], []⟩).memory Tryz.f3.params.toList Rows.streamsSpec.vars false #[Value.slice none 0 0, .slice none 0 0].toList 8 = some ([.nil, .nil], [], places) :=
  ⟨[], by kernel_rfl⟩

set_option maxRecDepth 100000 in
theorem streams_lifted (os : Os) (started : os.Started) (H : Type) (enc : TypeId × Value → H) (F : Stop.Interp) :
    ReturnsInHanded {} Tryz.checked os 3 .any ((Rows.OpenSpec.upto Rows.streamsSpec).preRow enc Tryz.prog Tryz.f3 Rows.streamsUptoRow.domain false Rows.streamsUptoRow.laid) (((Rows.OpenSpec.upto Rows.streamsSpec).at F).post enc Tryz.prog Tryz.f3 false true false false) := by
  obtain ⟨places, hx⟩ := streams_reads os enc
  refine returnsInHanded_of_row (C := Tryz.checked) (s := Rows.OpenSpec.upto Rows.streamsSpec) Tryz.own started (by kernel_rfl) Tryz.func3
    (witness_row_atRef (enc := enc) (C := Tryz.checked) false (laidWorld Tryz.prog Rows.streamsUptoRow.laid Rows.laid_annals_stream_turns os) #[.slice none 0 0, .slice none 0 0] rfl (by kernel_rfl) (by kernel_rfl) (by kernel_rfl)
      (OpenSpec.preRow_of_cond 8 hx (by kernel_rfl) (fun k hk => by cases hk; kernel_rfl) (by kernel_rfl) (laid_met os _))) ?_
  intro W base args ds gs before hval0 hW _ hcond _ hlaid _ _
  have hval : ∀ (j : Nat) t v, Tryz.f3.params[j]? = some t → args[j]? = some v → Value.okWide Tryz.prog W .any base t v := hval0
  have hW' := hW
  obtain ⟨p, q, hA0, hV, rfl, hfz, hnd⟩ := hW
  have hA : DataW.TrodAll enc Tryz.prog W 0 (fun _ => true) true Tryz.f3.params.toList args.toList ds p := hA0
  rw [Tryz.params3] at hA hval
  obtain ⟨v0, vs0, d0, ds0, p0, q0, hargs, rfl, rfl, h0, r0⟩ := trodAll_cons hA
  obtain ⟨v1, vs1, d1, ds1, p1, q1, rfl, rfl, rfl, h1, r1⟩ := trodAll_cons r0
  obtain ⟨rfl, rfl, rfl⟩ := trodAll_nil r1
  obtain rfl : args = #[v0, v1] := by cases args; simp_all
  obtain ⟨rfl, rfl⟩ := trodVars_none hV
  obtain ⟨a0, len0, cap0, rfl⟩ := okWide_slice Tryz.underlying22 (hval 0 22 v0 rfl rfl)
  obtain ⟨a1, len1, cap1, rfl⟩ := okWide_slice Tryz.underlying23 (hval 1 23 v1 rfl rfl)
  have k0 := h0
  have k1 := h1
  have lt0 : ∀ x ∈ p0, x.block < W.heap.size := by obtain ⟨m, hm⟩ := k0; exact DataW.trod_lt m _ _ _ hm
  have lt1 : ∀ x ∈ p1, x.block < W.heap.size := by obtain ⟨m, hm⟩ := k1; exact DataW.trod_lt m _ _ _ hm
  have hb : Rows.uptoBulkAll ([d0, d1] ++ []) ≤ 1048576 := of_decide_eq_true (hcond _ rfl)
  simp only [List.append_nil, Rows.uptoBulkAll] at hb
  obtain ⟨S0, t0, m0⟩ : ∃ S, StrsIn W a0 len0 S ∧ len0 ≤ 1048576 := by
    obtain ⟨fuel, hf⟩ := h0
    exact strs_open (x := (d0, p0)) (by simpa [Value.cells] using hf) (show Rows.uptoBulk d0 ≤ 1048576 by omega)
  obtain ⟨ts, hts, t1, m1, sz⟩ : ∃ ts : List ByteArray, ts.length = len1 ∧ TxtIn W a1 ts ∧ len1 ≤ Rows.uptoBulk d1 ∧ ∀ t ∈ ts, t.size ≤ Rows.uptoBulk d1 := by
    obtain ⟨fuel, hf⟩ := h1
    exact texts_open (x := (d1, p1)) (by simpa [Value.cells] using hf)
  subst hts
  clear hA0 hval0 hcond
  refine (streams_any a0 len0 cap0 S0 a1 cap1 ts W t0 t1 (by omega) (by omega) (fun t ht => by have := sz t ht; omega) (glob_of_laid hlaid)).mono fun e W' ⟨he, hk⟩ => ?_
  subst he
  have bel : Below W.heap.size W W' := hk.toBelow (Nat.le_refl _) (fun _ _ h => h)
  exact ⟨_, rfl, _, _, _, [], _, [], hW', trodAll_mk1 (shut_bool Tryz.underlying4 _), (trodAll_cons_mk (Below.trod Tryz.laidOut (by kernel_rfl) (of_decide_eq_true (by kernel_rfl)) k0 bel lt0) (trodAll_cons_mk (Below.trod Tryz.laidOut (by kernel_rfl) (of_decide_eq_true (by kernel_rfl)) k1 bel lt1) trodAll_mk0)), rfl, bel.frame _, fun h => by cases h⟩

end Go.Proofs.YtkpaiaddikpdoaaGreatDoor
