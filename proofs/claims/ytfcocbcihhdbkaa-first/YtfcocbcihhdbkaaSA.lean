/- Among strings in rising order: the library's binary search, and its Insert. -/
import Derived.Test.YtfcocbcihhdbkaaS9
namespace Go.Proofs.Ytfcocbcihhdbkaa
open Go.RowKit

/-- keys in rising order of their bytes -/
def ltK (a b : ByteArray) : Bool := Op.bytesLess a.toList b.toList

theorem bytesLess_is : ∀ (x y : List UInt8), Op.bytesLess x y = decide (x < y)
  | [], [] => by simp [Op.bytesLess]
  | _ :: _, [] => by simp [Op.bytesLess]
  | [], _ :: _ => by simp [Op.bytesLess]
  | a :: x, b :: y => by
    rw [Op.bytesLess, bytesLess_is x y]
    simp only [List.cons_lt_cons_iff]
    by_cases h1 : a < b <;> by_cases h2 : a = b <;> by_cases h3 : x < y <;> simp [h1, h2, h3]

theorem ltK_iff (a b : ByteArray) : ltK a b = true ↔ a.data.toList < b.data.toList := by
  unfold ltK
  rw [bytesLess_is, ByteArray.toList_eq, ByteArray.toList_eq]
  simp

theorem data_inj {a b : ByteArray} (h : a.data.toList = b.data.toList) : a = b := by
  apply ByteArray.ext
  exact Array.toList_inj.1 h

theorem ltK_irrefl (a : ByteArray) : ltK a a = false := by
  rw [Bool.eq_false_iff]
  intro h
  rw [ltK_iff] at h
  exact List.lt_irrefl _ h

theorem ltK_trans {a b c : ByteArray} (h1 : ltK a b = true) (h2 : ltK b c = true) : ltK a c = true := by
  rw [ltK_iff] at *
  exact List.lt_trans h1 h2

theorem ltK_total {a b : ByteArray} (h1 : ltK a b = false) (h2 : ltK b a = false) : a = b := by
  rw [Bool.eq_false_iff] at h1 h2
  rw [Ne, ltK_iff] at h1 h2
  exact data_inj (List.le_antisymm (List.not_lt.1 h2) (List.not_lt.1 h1))

/-- how many keys are below x -/
def below (ks : List ByteArray) (x : ByteArray) : Nat := (ks.takeWhile (fun k => ltK k x)).length

def Rises (ks : List ByteArray) : Prop := ks.Pairwise (fun a b => ltK a b = true)

theorem below_le (ks : List ByteArray) (x : ByteArray) : below ks x ≤ ks.length := (List.takeWhile_sublist _).length_le

theorem below_lt : ∀ {ks : List ByteArray} {x : ByteArray} {j : Nat} (hj : j < ks.length), j < below ks x → ltK ks[j] x = true
  | [], x, j, hj, _ => by simp at hj
  | k :: ks, x, j, hj, h => by
    unfold below at h
    rw [List.takeWhile_cons] at h
    split at h
    · rename_i hk
      match j with
      | 0 => exact hk
      | j + 1 =>
        simp only [List.getElem_cons_succ]
        exact below_lt (by simpa using hj) (by unfold below; simpa using h)
    · simp at h

theorem below_ge : ∀ {ks : List ByteArray} {x : ByteArray}, Rises ks → ∀ {j : Nat} (hj : j < ks.length), below ks x ≤ j → ltK ks[j] x = false
  | [], x, _, j, hj, _ => by simp at hj
  | k :: ks, x, hr, j, hj, h => by
    obtain ⟨h1, h2⟩ := List.pairwise_cons.1 hr
    unfold below at h
    rw [List.takeWhile_cons] at h
    split at h
    · match j with
      | 0 => simp at h
      | j + 1 =>
        simp only [List.getElem_cons_succ]
        exact below_ge h2 (by simpa using hj) (by unfold below; simpa using h)
    · rename_i hk
      have hk' : ltK k x = false := by simpa using hk
      match j with
      | 0 => exact hk'
      | j + 1 =>
        simp only [List.getElem_cons_succ]
        have hkj : ltK k (ks[j]'(by simpa using hj)) = true := h1 _ (List.getElem_mem _)
        rw [Bool.eq_false_iff]
        intro hc
        rw [ltK_trans hkj hc] at hk'
        cases hk'

theorem below_mem {ks : List ByteArray} {x : ByteArray} (hr : Rises ks) : (∃ h : below ks x < ks.length, ks[below ks x] = x) ↔ x ∈ ks := by
  constructor
  · rintro ⟨h, e⟩
    rw [← e]
    exact List.getElem_mem _
  · intro hx
    obtain ⟨j, hj, rfl⟩ := List.getElem_of_mem hx
    have h1 : below ks ks[j] = j := by
      rcases Nat.lt_trichotomy (below ks ks[j]) j with h | h | h
      · have h2 := below_ge hr (x := ks[j]) (j := below ks ks[j]) (by omega) (Nat.le_refl _)
        have h3 := List.pairwise_iff_getElem.1 hr (below ks ks[j]) j (by omega) hj h
        rw [h3] at h2
        cases h2
      · exact h
      · have := below_lt hj h
        rw [ltK_irrefl] at this
        cases this
    exact ⟨by rw [h1]; exact hj, by simp only [h1]⟩

/-- is it one of them? -/
def memB (ks : List ByteArray) (x : ByteArray) : Bool := ks.any (fun k => decide (k = x))

theorem memB_iff (ks : List ByteArray) (x : ByteArray) : memB ks x = true ↔ x ∈ ks := by
  unfold memB
  rw [List.any_eq_true]
  constructor
  · rintro ⟨k, hk, e⟩
    have e' : k = x := by simpa using e
    exact e' ▸ hk
  · intro h
    exact ⟨x, h, by simp⟩

/-- slices.BinarySearch among keys in rising order. -/
theorem search_keys (v : Value) (ks : List ByteArray) (x : ByteArray) (w : World) (h : Row w 9 1 v ks.length (ks.map Value.string)) (hr : Rises ks) (hl : ks.length < 1000000000000000) :
    Calls Try.prog 57 #[v, .string x] w fun e w' => e = .returned (.tuple #[.int .i64 (below ks x : Nat), .bool (memB ks x)]) ∧ Keeps (fun _ => False) w w' := by
  rcases h.shape with ⟨rfl, h0⟩ | ⟨g, cap, rfl, hcap1, hcap2⟩
  · obtain rfl : ks = [] := List.eq_nil_of_length_eq_zero h0
    refine (slSearch_empty none 0 x w).mono ?_
    rintro e w' ⟨rfl, rfl⟩
    exact ⟨by simp [below, memB], Keeps.refl _ _⟩
  · have hc : ∀ j, j < ks.length → w.cell? ⟨g, 0 + j, none⟩ = some (.string (ks.getD j x)) := fun j hj => by
      rw [Nat.zero_add, h.cellAt j (by omega)]
      simp [hj]
    refine (slSearch_any g 0 ks.length cap (fun j => ks.getD j x) x w (by omega) hc).mono ?_
    have hb : Lib.bsGo (fun t => Op.bytesLess (ks.getD t x).toList x.toList) ks.length 0 ks.length = below ks x := by
      have hble := below_le ks x
      refine Lib.bsGo_spec _ (below ks x) (fun t ht => ?_) (fun t ht => ?_) ks.length 0 ks.length (by omega) (Nat.zero_le _) hble
      · have htl : t < ks.length := by omega
        have := below_lt htl ht
        simp only [List.getD_eq_getElem?_getD, List.getElem?_eq_getElem htl, Option.getD_some]
        exact this
      · by_cases htl : t < ks.length
        · have := below_ge hr htl ht
          simp only [List.getD_eq_getElem?_getD, List.getElem?_eq_getElem htl, Option.getD_some]
          exact this
        · simp only [List.getD_eq_getElem?_getD, List.getElem?_eq_none (Nat.le_of_not_lt htl), Option.getD_none]
          exact ltK_irrefl x
    rintro e w' ⟨rfl, q, rfl⟩
    rw [hb]
    refine ⟨?_, ?_⟩
    · have hd : decide (below ks x < ks.length ∧ ks.getD (below ks x) x = x) = memB ks x := by
        rw [Bool.eq_iff_iff]
        simp only [decide_eq_true_eq]
        rw [memB_iff, ← below_mem hr]
        constructor
        · rintro ⟨h1, h2⟩
          refine ⟨h1, ?_⟩
          simpa [h1] using h2
        · rintro ⟨h1, h2⟩
          refine ⟨h1, ?_⟩
          simpa [h1] using h2
      rw [hd]
    · exact ⟨rfl, rfl, rfl, Nat.le_refl _, fun _ _ _ => rfl⟩

end Go.Proofs.Ytfcocbcihhdbkaa
