/- The keys that have versions, from the first on; two lists merged. -/
import Derived.Test.YthgojidgaeimnaaU3
namespace Go.Proofs.Ythgojidgaeimnaa
open Go.RowKit Go.Shelf

theorem Row.seg {G : List Nat} {w : World} {v : Value} {ks : List ByteArray} (h : Row w 9 1 v ks.length (ks.map Value.string)) (hG : ∀ g, v.ownBlock = some g → g ∈ G) : Seg G w v ks := by
  rcases h.2 with ⟨rfl, e⟩ | ⟨g, cap, cur, rfl, hh, h1, h2, h3, h4⟩
  · exact .inl ⟨List.eq_nil_of_length_eq_zero e, none, 0, rfl⟩
  · refine .inr ⟨g, 0, cap, hG g rfl, rfl, h1, h2, fun i hi => ?_⟩
    rw [Nat.zero_add, h.cellAt i (by omega)]
    simp [hi]

/-- the slice of the keys, cut off at its end -/
def keysV (v : Value) : Value :=
  match v with
  | .slice a n _ => .slice a n n
  | v => v

theorem seg_keysV {G : List Nat} {w : World} {v : Value} {ks : List ByteArray} (h : Row w 9 1 v ks.length (ks.map Value.string)) (hG : ∀ g, v.ownBlock = some g → g ∈ G) : Seg G w (keysV v) ks := by
  rcases h.2 with ⟨rfl, e⟩ | ⟨g, cap, cur, rfl, hh, h1, h2, h3, h4⟩
  · exact .inl ⟨List.eq_nil_of_length_eq_zero e, none, 0, rfl⟩
  · refine .inr ⟨g, 0, ks.length, hG g rfl, rfl, Nat.le_refl _, by omega, fun i hi => ?_⟩
    rw [Nat.zero_add, h.cellAt i (by omega)]
    simp [hi]

set_option maxRecDepth 100000 in
set_option maxHeartbeats 800000 in
theorem pastKeys_any (R : Rep) (w : World) (h : StoreAt w R) (hr : Rises R.keys) (hl : R.keys.length < 1000000) :
    Calls Try.prog 37 #[.pointer (some ⟨R.sb, 5, none⟩), .string ⟨#[]⟩] w fun e w' => e = .returned (keysV R.kv) ∧ Keeps (fun _ => False) w w' := by
  have hs := search_keys R.kv R.keys ⟨#[]⟩ w h.past.keysRow hr (by omega)
  rw [below_empty] at hs
  have c5 : w.cell? ⟨R.sb, 5, none⟩ = some R.kv := h.cell 5
  have HS := hid hs
  rcases h.past.keysRow.2 with ⟨e, en⟩ | ⟨g, cap, cur, e, hh, h1, h2, h3, h4⟩
  · rw [e] at c5 HS ⊢
    simp only [keysV]
    clear h hs e en
    generalize memB R.keys ⟨#[]⟩ = m at HS
    simp only [Int.natCast_zero] at HS
    go_enter Try.func37, Try.ntmps37
    go_wp2_with (go_at_call 59; go_must (refine (HS.out).mono ?_; rintro e w1 ⟨rfl, k1⟩; have d5 := k1.cell (p := ⟨R.sb, 5, none⟩) c5 (fun h => h)))
    go_region
    go_wp2
    go_ret
    exact ⟨rfl, k1.dr⟩
  · rw [e] at c5 HS ⊢
    simp only [keysV]
    clear h hs e hh h3 h4
    generalize memB R.keys ⟨#[]⟩ = m at HS
    generalize R.keys.length = n at *
    unfold maxLen at h2
    simp only [Int.natCast_zero] at HS
    go_enter Try.func37, Try.ntmps37
    go_wp2_with (go_at_call 59; go_must (refine (HS.out).mono ?_; rintro e w1 ⟨rfl, k1⟩; have d5 := k1.cell (p := ⟨R.sb, 5, none⟩) c5 (fun h => h)))
    go_region
    go_wp2
    go_ret
    exact ⟨rfl, k1.dr⟩

set_option maxRecDepth 100000 in
set_option maxHeartbeats 400000 in
theorem merged_any (oa ob : Option Addr) (na nb ca cb : Nat) (w : World) :
    Calls Try.prog 36 #[.slice oa na ca, .slice ob nb cb] w fun e w' => e = .returned (.func (.func 56) #[] #[.pointer (some ⟨w.heap.size, 0, none⟩), .pointer (some ⟨w.heap.size + 1, 0, none⟩)]) ∧ w' = (w.alloc (.cells #[.slice oa na ca] 32)).alloc (.cells #[.slice ob nb cb] 32) := by
  have hmf : ∀ (fn : Fn) (first cap : Array Value) (w : World), (Instr.makeFunc fn first cap).run Try.prog w = .ok (.func fn first cap) w := fun _ _ _ _ => rfl
  go_enter Try.func36, Try.ntmps36
  go_wp2
  go_ret
  exact ⟨rfl, rfl⟩

end Go.Proofs.Ythgojidgaeimnaa
