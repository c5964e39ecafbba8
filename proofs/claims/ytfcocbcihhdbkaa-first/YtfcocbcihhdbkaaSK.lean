/- The library's Delete, of one key. -/
import Derived.Shelf.Slices.Delete
import Derived.Shelf.Slices.Cells
import Derived.Test.YtfcocbcihhdbkaaSJ
import Derived.Test.YtfcocbcihhdbkaaLay
namespace Go.Proofs
open Go.Shelf
namespace Ytfcocbcihhdbkaa
open Go.RowKit

theorem strsOf_keys (ks : List ByteArray) : (Lib.strsOf (fun j => ks.getD j ByteArray.empty) ks.length).map encStr = ks.map Value.string := by
  apply List.ext_getElem
  · simp [Lib.strsOf]
  · intro i h1 h2
    simp at h2
    simp [Lib.strsOf, h2, encStr]

theorem delete_key (v : Value) (ks : List ByteArray) (i : Nat) (w : World) (h : Row w 9 1 v ks.length (ks.map Value.string)) (hi : i < ks.length) :
    Calls Try.prog 89 #[v, .int .i64 i, .int .i64 ((i : Int) + 1)] w fun e w' => ∃ g cap, v.ownBlock = some g ∧ e = .returned (.slice (some ⟨g, 0, none⟩) (ks.length - 1) cap) ∧ Row w' 9 1 (.slice (some ⟨g, 0, none⟩) (ks.length - 1) cap) (ks.length - 1) ((ks.eraseIdx i).map Value.string) ∧ Keeps (fun k => v.ownBlock = some k) w w' := by
  have hlen2 : ((ks.eraseIdx i).map Value.string).length = (ks.length - 1) * 1 := by rw [List.length_map, List.length_eraseIdx_of_lt hi]; omega
  rcases h.2 with ⟨rfl, h0⟩ | ⟨g, cap, cur, rfl, hg, hnc, hcm, hcs, htake⟩
  · omega
  · have hcur : cap ≤ cur.size := by simpa using hcs
    have hcells : ∀ j, j < ks.length → w.cell? ⟨g, 0 + j, none⟩ = some (.string ((fun j => ks.getD j ByteArray.empty) j)) := by
      intro j hj
      rw [Nat.zero_add, h.cellAt j (by omega)]
      simp [hj]
    have htake' : cur.toList.take ks.length = ks.map Value.string := by simpa using htake
    refine (Any.slices_Delete_string_cells Try.laysNm224 g 0 ks.length cap i (i + 1) (fun j => ks.getD j ByteArray.empty) w hnc (by unfold maxLen at hcm; omega) (by omega) (by omega) hcells (fun j _ => frozen_of_heap hg _)).mono ?_
    rintro e w' ⟨rfl, q, rfl⟩
    have e0 : ks.length - (i + 1 - i) = ks.length - 1 := by omega
    rw [e0]
    have eL : ((Lib.strsOf (fun j => ks.getD j ByteArray.empty) ks.length).take i ++ (Lib.strsOf (fun j => ks.getD j ByteArray.empty) ks.length).drop (i + 1) ++ List.replicate (i + 1 - i) []).map encStr = (ks.eraseIdx i).map Value.string ++ [Value.string ⟨#[]⟩] := by
      rw [show i + 1 - i = 1 from by omega, List.eraseIdx_eq_take_drop_succ]
      simp only [List.map_append, List.map_take, List.map_drop, strsOf_keys]
      rfl
    rw [eL]
    have hg1 : (w.drewN q).heap[g]? = some (.cells cur 9 (0, 0)) := hg
    have hLl : ((ks.eraseIdx i).map Value.string ++ [Value.string ⟨#[]⟩]).length = ks.length := by rw [List.length_append, hlen2]; simp; omega
    have hkd : Keeps (· = g) w (w.drewN q) := ⟨rfl, rfl, rfl, Nat.le_refl _, fun _ _ _ => rfl⟩
    refine ⟨g, cap, rfl, rfl, ⟨hlen2, .inr ⟨g, cap, _, rfl, heap_setCells _ _ g 0 cur hg1, by omega, hcm, by rw [putL_size]; exact hcs, ?_⟩⟩, (hkd.tr (Keeps.setCells _ _ _ _) (fun _ h => h)).mono (fun k _ hk => by have hk' : k = g := hk; simp [Value.ownBlock, hk'])⟩
    rw [putL_toList _ _ _ (by rw [hLl]; omega)]
    simp only [List.take_zero, List.nil_append]
    rw [List.append_assoc, List.take_left' hlen2]

end Ytfcocbcihhdbkaa
end Go.Proofs
