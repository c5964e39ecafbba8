/- needless: how many of a key's first versions no state from a least one on needs. -/
import Derived.Test.YthgojidgaeimnaaU7
namespace Go.Proofs.Ythgojidgaeimnaa
open Go.RowKit Go.Shelf

/-- how many of a key's first versions are not needed -/
def needN (vs : List Ver) (t : Int) : Nat :=
  match atVer vs t with
  | some v => if v.gone = true then upN vs t else upN vs t - 1
  | none => 0

set_option maxRecDepth 100000 in
set_option maxHeartbeats 400000 in
theorem needless_any (sl : Value) (vs : List Ver) (t : Int) (w : World) (h : Row w 78 3 sl vs.length (vs.flatMap Ver.cells)) (hs : Rising vs) (hl : vs.length ≤ 1000000000000) :
    Calls Try.prog 62 #[sl, .int .i64 t] w fun e w' => e = .returned (.int .i64 (needN vs t : Nat)) ∧ Keeps (fun _ => False) w w' := by
  have hule := upN_le vs t
  rcases h.shape with ⟨rfl, hn⟩ | ⟨g, cap, rfl, hc1, hc2⟩
  · have e : vs = [] := List.eq_nil_of_length_eq_zero hn
    subst e
    have HU := hid (upTo_nil t w)
    have e : needN [] t = 0 := by simp [needN, atVer, upN]
    rw [e]
    clear h hs hl hule hn e
    go_enter Try.func62, Try.ntmps62
    go_wp2_with (go_at_call 72; go_must (refine (HU.out).mono ?_; rintro e w1 ⟨rfl, k1⟩))
    go_ret
    exact ⟨rfl, k1⟩
  · have HU := hid (upTo_some g cap vs t w h hs hl)
    by_cases h0 : upN vs t = 0
    · have e : needN vs t = 0 := by simp [needN, atVer, h0]
      rw [e]
      rw [h0] at HU
      clear h hs hule h0 e
      go_enter Try.func62, Try.ntmps62
      go_wp2_with (go_at_call 72; go_must (refine (HU.out).mono ?_; rintro e w1 ⟨rfl, k1⟩))
      go_ret
      exact ⟨rfl, k1⟩
    · obtain ⟨u, hu⟩ : ∃ u, upN vs t = u + 1 := ⟨upN vs t - 1, by omega⟩
      have hul : u < vs.length := by omega
      have ea : atVer vs t = some vs[u] := by
        unfold atVer
        rw [if_neg h0, hu]
        simp [hul]
      have hv := h.ver u hul
      have en : needN vs t = if vs[u].gone = true then u + 1 else u := by
        unfold needN
        rw [ea]
        simp only [hu, Nat.add_sub_cancel]
      rw [en]
      rw [hu] at HU
      have e1 : ((u + 1 : Nat) : Int) = (u : Int) + 1 := by omega
      rw [e1] at HU
      cases hg : vs[u].gone with
      | true =>
        rw [hg] at hv
        obtain ⟨c0, c1, c2⟩ := hv
        simp only [if_true, e1]
        clear hs hule h0 ea en hg hu h c0 c1 e1
        go_enter Try.func62, Try.ntmps62
        go_wp2_with (go_at_call 72; go_must (refine (HU.out).mono ?_; rintro e w1 ⟨rfl, k1⟩; have d2 := k1.cell c2 (fun h => h)))
        go_ret
        exact ⟨rfl, k1⟩
      | false =>
        rw [hg] at hv
        obtain ⟨c0, c1, c2⟩ := hv
        simp only [Bool.false_eq_true, if_false]
        clear hs hule h0 ea en hg hu h c0 c1 e1
        go_enter Try.func62, Try.ntmps62
        go_wp2_with (go_at_call 72; go_must (refine (HU.out).mono ?_; rintro e w1 ⟨rfl, k1⟩; have d2 := k1.cell c2 (fun h => h)))
        go_ret
        exact ⟨ret_int (by omega), k1⟩

end Go.Proofs.Ythgojidgaeimnaa
