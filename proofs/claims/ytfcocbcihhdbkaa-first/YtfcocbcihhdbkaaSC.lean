/- The keys that a work has put or deleted, in rising order. -/
import Derived.Test.YtfcocbcihhdbkaaSB
import Derived.Test.YtfcocbcihhdbkaaIt
namespace Go.Proofs.Ytfcocbcihhdbkaa
open Go.RowKit Go.Maps Go.Sort Go.Shelf

/-- The map as the shelf's contracts read it. -/
theorem MapAt.owns {w : World} {b : Nat} {l : List (ByteArray × Value)} (h : MapAt Value.string w b l) (hk : ∀ p ∈ l, p.1.size ≤ maxLen) (hl : l.length ≤ maxLen) :
    ∃ D : DataW Unit, w.ownsMap Try.prog 9 (fun _ => some (.nil, [])) b l.length D ∧ (strKeys D).Perm (l.map (fun p => p.1.data.toList)) ∧ Maps.size D = l.length := by
  obtain ⟨es, clock, hb, hs, he⟩ := h
  have hsz : es.size = l.length := by
    have := congrArg List.length he
    simpa using this
  have hrd : ∀ x ∈ es.toList, ∃ s : ByteArray, x.key = .string s ∧ s.size ≤ maxLen ∧ WideElems.rd (H := Unit) Try.prog 9 (fun _ => some (.nil, [])) x = some (.string s.data.toList, .nil) := by
    intro x hx
    have : (x.key, x.val) ∈ l.map (fun p => (Value.string p.1, p.2)) := by rw [← he]; exact List.mem_map.2 ⟨x, hx, rfl⟩
    obtain ⟨p, hp, hpe⟩ := List.mem_map.1 this
    have hkey : x.key = .string p.1 := (Prod.mk.inj hpe).1.symm
    refine ⟨p.1, hkey, hk p hp, ?_⟩
    simp [WideElems.rd, hkey, WideMaps.keyOf_string_mk Try.underlying9 (hk p hp)]
  refine ⟨_, ⟨es, clock, hb, ⟨by omega, hs, fun x hx => ?_⟩, by omega, rfl⟩, ?_, ?_⟩
  · obtain ⟨s, _, _, h⟩ := hrd x hx
    exact ⟨_, h⟩
  · simp only [strKeys]
    have hp := (WideShapes.sorted_perm (es.toList.map (WideElems.rg (H := Unit) Try.prog 9 (fun _ => some (.nil, []))))).map (fun p => Go.strOf p.1)
    refine hp.trans ?_
    have e : (es.toList.map (WideElems.rg (H := Unit) Try.prog 9 (fun _ => some (.nil, [])))).map (fun p => Go.strOf p.1) = l.map (fun p => p.1.data.toList) := by
      rw [List.map_map]
      have e2 : l.map (fun p => p.1.data.toList) = (l.map (fun p => (Value.string p.1, p.2))).map (fun q => match q.1 with | .string s => s.data.toList | _ => []) := by
        rw [List.map_map]; rfl
      rw [e2, ← he, List.map_map]
      apply List.map_congr_left
      intro x hx
      obtain ⟨s, hkey, _, h⟩ := hrd x hx
      simp [WideElems.rg, h, hkey, Go.strOf]
    rw [e]
  · simp only [Maps.size]
    rw [(WideShapes.sorted_perm _).length_eq]
    simp [hsz]

theorem row_of_owns {w : World} {base : Nat} {e : TypeId} {size : Nat} {v : Value} {n : Nat} {xs : List Value} (h : w.ownsRow base e size v n xs) : Row w e size v n xs := by
  refine ⟨h.1, ?_⟩
  rcases h.2 with h2 | ⟨g, cap, cur, hv, _, hh, h3, h4, h5, h6⟩
  · exact .inl h2
  · exact .inr ⟨g, cap, cur, hv, hh, h3, h4, by omega, h6⟩

/-- The bytes' lists sorted, as keys. -/
def asKeys (ss : List (List UInt8)) : List ByteArray := (ss.mergeSort (fun x y => decide (x ≤ y))).map (fun l => ⟨l.toArray⟩)

theorem asKeys_rises {ss : List (List UInt8)} (hn : ss.Nodup) : Rises (asKeys ss) := by
  unfold Rises asKeys
  rw [List.pairwise_map]
  have h1 : (ss.mergeSort (fun x y => decide (x ≤ y))).Pairwise (fun x y => decide (x ≤ y) = true) := List.pairwise_mergeSort (fun a b c hab hbc => by simp at *; exact List.le_trans hab hbc) (fun a b => by simp; exact List.le_total a b) ss
  have h2 : (ss.mergeSort (fun x y => decide (x ≤ y))).Nodup := (List.mergeSort_perm ss _).nodup_iff.2 hn
  rw [List.nodup_iff_pairwise_ne] at h2
  refine (h1.and h2).imp ?_
  rintro a b ⟨hab, hne⟩
  rw [ltK_iff]
  have hab' : a ≤ b := by simpa using hab
  rcases List.le_iff_lt_or_eq.1 hab' with h | h
  · exact h
  · exact absurd h hne

theorem asKeys_perm {ss : List (List UInt8)} {ks : List ByteArray} (h : ss.Perm (ks.map (fun k => k.data.toList))) : (asKeys ss).Perm ks := by
  unfold asKeys
  have h1 : (ss.mergeSort (fun x y => decide (x ≤ y))).Perm (ks.map (fun k => k.data.toList)) := (List.mergeSort_perm ss _).trans h
  have h2 := h1.map (fun l : List UInt8 => (⟨l.toArray⟩ : ByteArray))
  have e : (ks.map (fun k => k.data.toList)).map (fun l : List UInt8 => (⟨l.toArray⟩ : ByteArray)) = ks := by
    rw [List.map_map]
    conv => rhs; rw [← List.map_id ks]
    apply List.map_congr_left
    intro k _
    simp
  rw [e] at h2
  exact h2

theorem nodup_map_inj {α β : Type} {f : α → β} (hf : ∀ a b, f a = f b → a = b) : ∀ {l : List α}, l.Nodup → (l.map f).Nodup
  | [], _ => by simp
  | x :: r, h => by
    simp only [List.nodup_cons, List.map_cons] at h ⊢
    refine ⟨fun hx => ?_, nodup_map_inj hf h.2⟩
    obtain ⟨y, hy, e⟩ := List.mem_map.1 hx
    exact h.1 (hf _ _ e ▸ hy)

theorem below_empty (ks : List ByteArray) : below ks ⟨#[]⟩ = 0 := by
  unfold below
  cases ks with
  | nil => rfl
  | cons k r =>
    have : ltK k ⟨#[]⟩ = false := by
      unfold ltK
      rw [ByteArray.toList_eq (⟨#[]⟩ : ByteArray)]
      cases k.toList <;> rfl
    simp [this]

set_option maxRecDepth 100000 in
set_option maxHeartbeats 800000 in
theorem keys_core (wb mb : Nat) (l : List (ByteArray × Value)) (w : World) (hc : w.cell? ⟨wb, 1, none⟩ = some (.map (some mb))) (hm : MapAt Value.string w mb l) (hk : ∀ p ∈ l, p.1.size ≤ maxLen) (hl : l.length ≤ 1000000) :
    Calls Try.prog 38 #[.pointer (some ⟨wb, 0, none⟩), .string ⟨#[]⟩] w fun e w' => ∃ v ks, e = .returned v ∧ Row w' 9 1 v ks.length (ks.map Value.string) ∧ Rises ks ∧ ks.Perm (l.map (·.1)) ∧ Keeps (fun _ => False) w w' ∧ (∀ k, v.ownBlock = some k → w.heap.size < k) := by
  have hnd := hm.nodup
  obtain ⟨D, hD1, hD2, hD3⟩ := hm.owns hk (by unfold maxLen; omega)
  have hsrt := fun W : World => True
  have hSK := Try.slices_Sorted_keys_58_59 mb l.length D _ w hD1 (by rw [hD3]; unfold maxLen; omega) (by rw [hD3]; omega)
  have HD2 : Hid ((strKeys D).Perm (l.map (fun p => p.1.data.toList))) := hD2
  have HND : Hid ((l.map (·.1)).Nodup) := hnd
  have HL : Hid (l.length ≤ 1000000) := hl
  clear hD1 hD2 hD3 hnd hm hk hl hsrt
  refine (callsIn_wide (n := 6)).1 ?_
  have hfK : Fence.wide.fn 59 := trivial
  have hfS : Fence.wide.fn 58 := trivial
  have hfB : Fence.wide.fn 57 := trivial
  refine callsIn_of_wp Try.func38 rfl trivial ?_ rfl
  simp only [Try.ntmps38, List.size_toArray, List.length_cons, List.length_nil, Nat.reduceAdd, Nat.reduceSub, Array.replicate_succ, Array.replicate_zero, List.push_toArray, List.append_toArray, List.nil_append, List.cons_append]
  gi_wp2_with (first
    | (gi_at_call 59; go_must (refine (Try.maps_Keys_59 _ _).mono ?_; rintro e w' ⟨rfl, rfl⟩))
    | (gi_at_call 58; go_must (refine hSK.mono ?_; rintro e w' ⟨v, ss, rfl, hS, hrow, hnil, hb⟩)))
  have hks : Rises (asKeys ss) := asKeys_rises ((hS.trans HD2.out).nodup_iff.2 (by
    have := HND.out
    have e : l.map (fun p => p.1.data.toList) = (l.map (·.1)).map (fun k => k.data.toList) := by rw [List.map_map]; rfl
    rw [e]
    exact nodup_map_inj (fun _ _ h => data_inj h) this))
  have hperm : (asKeys ss).Perm (l.map (·.1)) := asKeys_perm (by
    have := hS.trans HD2.out
    rwa [show l.map (fun p => p.1.data.toList) = (l.map (·.1)).map (fun k => k.data.toList) from by rw [List.map_map]; rfl] at this)
  have hlen : (asKeys ss).length = ss.length := by simp [asKeys]
  have hR : Row w' 9 1 v (asKeys ss).length ((asKeys ss).map Value.string) := by
    rw [hlen]
    have := row_of_owns hrow
    have e : (asKeys ss).map Value.string = (ss.mergeSort (fun x y => decide (x ≤ y))).map encStr := by simp [asKeys, Function.comp_def]
    rw [e]
    exact this
  have hb0 : below (asKeys ss) ⟨#[]⟩ = 0 := below_empty _
  have hsl : ss.length = l.length := by have := (hS.trans HD2.out).length_eq; simpa using this
  have hB := search_keys v (asKeys ss) ⟨#[]⟩ w' hR hks (by rw [hlen, hsl]; have := HL.out; omega)
  rw [hb0] at hB
  have hkk : Keeps (fun _ => False) w w' := ((Keeps.refl _ w).al _).tr (Keeps.below hb) (fun _ h => h)
  generalize memB (asKeys ss) ⟨#[]⟩ = mb1 at hB
  generalize asKeys ss = ks at *
  have HW : Hid (∀ k, v.ownBlock = some k → w.heap.size < k) := fun k hk => by have := (hrow.lt k hk).1; simp at this; omega
  clear hSK hS hrow hnil hb hb0 hsl hlen
  have HR : Hid (Row w' 9 1 v ks.length (ks.map Value.string)) := hR
  have HK : Hid (Rises ks) := hks
  have HP : Hid (ks.Perm (l.map (·.1))) := hperm
  have HKK : Hid (Keeps (fun _ => False) w w') := hkk
  rcases hR.shape with ⟨rfl, h0⟩ | ⟨g, cap, rfl, hcap1, hcap2⟩
  · clear hR hks hperm hkk
    gi_wp2_with (gi_at_call 57; go_must (refine (callsIn_wide.2 hB).mono ?_; rintro e w2 ⟨rfl, hk2⟩))
    go_ret
    exact ⟨_, ks, rfl, HR.out.kept hk2 (fun _ _ h => h), HK.out, HP.out, HKK.out.tr hk2 (fun _ h => h), HW.out⟩
  · clear hR hks hperm hkk
    unfold maxLen at hcap2
    gi_wp2_with (gi_at_call 57; go_must (refine (callsIn_wide.2 hB).mono ?_; rintro e w2 ⟨rfl, hk2⟩))
    go_ret
    exact ⟨_, ks, rfl, HR.out.kept hk2 (fun _ _ h => h), HK.out, HP.out, HKK.out.tr hk2 (fun _ h => h), HW.out⟩

end Go.Proofs.Ytfcocbcihhdbkaa
