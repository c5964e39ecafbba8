import Derived.Test.YtfcocbcihhdbkaaGreatDoorM05
import Derived.Shelf.SlIter.Nil
import Derived.Shelf.SortM.Plain
import Derived.Shelf.SortM.SortNone
import Derived.Ground.GgzProg
import Derived.Ground.SlgmProg
import Derived.Deep.RegionHeld3

/- slices.Sorted(maps.Keys(m)) at this program. -/
namespace Go.Proofs
open Go.RowKit Go.Maps Go.Sort Go.Shelf


theorem Tryz.sorts114 (m : Nat) : AnyZ.SortsIn Tryz.prog Tryz.sorted114_ren Fence.wide m :=
  ⟨fun blk off cap ss W hH hblk hsz => callsIn_wide.2 (AnyM.slices_Sort_string Tryz.sort178 blk off cap ss W hH hblk hsz),
   fun p cap W => callsIn_wide.2 (AnyM.slices_Sort_string_none Tryz.sort178 p cap W)⟩

theorem Tryz.maps_Keys_115 (mb : Option Nat) (W : World) : CallsIn Fence.wide 5 Tryz.prog 115 #[.map mb] W fun e w' => e = .returned (.func (.func 179) #[] #[.pointer (some ⟨W.heap.size, 0, none⟩)]) ∧ w' = W.alloc (.cells #[.map mb] 128) :=
  AnyZ.keys_in Tryz.keys115 Fence.wide 5 trivial rfl mb W

set_option maxHeartbeats 1000000 in
theorem Tryz.slices_Sorted_keys_114_115 {H : Type} (b nn : Nat) (D0 : DataW H) (R : Value → Option (DataW H × List MemPlace)) (w : World) (hown : w.ownsMap Tryz.prog 9 R b nn D0) (hmax : Maps.size D0 ≤ maxLen) (hbytes : Maps.size D0 * 16 ≤ 140737488355328) :
    CallsIn Fence.wide 5 Tryz.prog 114 #[.func (.func 179) #[] #[.pointer (some ⟨w.heap.size, 0, none⟩)]] (w.alloc (.cells #[.map (some b)] 128)) fun e w' => ∃ (v : Value) (ss : List (List UInt8)), e = .returned v ∧ ss.Perm (strKeys D0) ∧
      w'.ownsRow (w.alloc (.cells #[.map (some b)] 128)).heap.size 9 1 v ss.length ((ss.mergeSort (fun x y => decide (x ≤ y))).map encStr) ∧ (v = .slice none 0 0 ↔ ss = []) ∧ Below (w.alloc (.cells #[.map (some b)] 128)).heap.size (w.alloc (.cells #[.map (some b)] 128)) w' := by
  have hbl := hown.lt
  have hseq : SeqGives Fence.wide 2 Tryz.prog 179 #[.pointer (some ⟨w.heap.size, 0, none⟩)] encStr (fun ss => ss.Perm (strKeys D0)) (Maps.size D0) (w.alloc (.cells #[.map (some b)] 128)) :=
    AnyZ.keys_gives (ρ := Tryz.keys115_ren) { Tryz.keys115 with } Fence.wide _ trivial rfl (by omega) w.heap.size b nn D0 _ (by simp) (by simp) (by
      obtain ⟨es, clock, hb, Ft, hs, hD⟩ := hown
      exact ⟨es, clock, (Below.heap_alloc _ _ b hbl).trans hb, Ft, hs, hD⟩)
  exact AnyZ.sorted_in Tryz.sorted114 Fence.wide 5 trivial trivial trivial trivial rfl (by omega) (Tryz.sorts114 _) (enters_of Tryz.func178 (by kernel_rfl) rfl) 179 #[.pointer (some ⟨w.heap.size, 0, none⟩)] trivial (enters_of Tryz.func179 (by kernel_rfl) rfl) _ _ hmax hbytes _ hseq

set_option maxHeartbeats 1000000 in
theorem Tryz.slices_Sorted_keys_nil_114_115 (w : World) :
    CallsIn Fence.wide 5 Tryz.prog 114 #[.func (.func 179) #[] #[.pointer (some ⟨w.heap.size, 0, none⟩)]] (w.alloc (.cells #[.map none] 128)) fun e w' => ∃ (v : Value) (ss : List (List UInt8)), e = .returned v ∧ ss = [] ∧
      w'.ownsRow (w.alloc (.cells #[.map none] 128)).heap.size 9 1 v ss.length ((ss.mergeSort (fun x y => decide (x ≤ y))).map encStr) ∧ (v = .slice none 0 0 ↔ ss = []) ∧ Below (w.alloc (.cells #[.map none] 128)).heap.size (w.alloc (.cells #[.map none] 128)) w' := by
  have hseq : SeqGives Fence.wide 2 Tryz.prog 179 #[.pointer (some ⟨w.heap.size, 0, none⟩)] encStr (fun ss : List (List UInt8) => ss = []) 0 (w.alloc (.cells #[.map none] 128)) :=
    AnyZ.keys_gives_nil (ρ := Tryz.keys115_ren) { Tryz.keys115 with } Fence.wide _ trivial rfl w.heap.size _ (by simp) (by simp)
  exact AnyZ.sorted_in Tryz.sorted114 Fence.wide 5 trivial trivial trivial trivial rfl (by omega) (Tryz.sorts114 _) (enters_of Tryz.func178 (by kernel_rfl) rfl) 179 #[.pointer (some ⟨w.heap.size, 0, none⟩)] trivial (enters_of Tryz.func179 (by kernel_rfl) rfl) _ 0 (Nat.zero_le _) (by omega) _ hseq




theorem Tryz.maps_Keys_173 (mb : Option Nat) (W : World) : CallsIn Fence.wide 5 Tryz.prog 173 #[.map mb] W fun e w' => e = .returned (.func (.func 215) #[] #[.pointer (some ⟨W.heap.size, 0, none⟩)]) ∧ w' = W.alloc (.cells #[.map mb] 174) :=
  AnyZ.keys_in Tryz.keys173 Fence.wide 5 trivial rfl mb W

set_option maxHeartbeats 1000000 in
theorem Tryz.slices_Sorted_keys_114_173 {H : Type} (b nn : Nat) (D0 : DataW H) (R : Value → Option (DataW H × List MemPlace)) (w : World) (hown : w.ownsMap Tryz.prog 9 R b nn D0) (hmax : Maps.size D0 ≤ maxLen) (hbytes : Maps.size D0 * 16 ≤ 140737488355328) :
    CallsIn Fence.wide 5 Tryz.prog 114 #[.func (.func 215) #[] #[.pointer (some ⟨w.heap.size, 0, none⟩)]] (w.alloc (.cells #[.map (some b)] 174)) fun e w' => ∃ (v : Value) (ss : List (List UInt8)), e = .returned v ∧ ss.Perm (strKeys D0) ∧
      w'.ownsRow (w.alloc (.cells #[.map (some b)] 174)).heap.size 9 1 v ss.length ((ss.mergeSort (fun x y => decide (x ≤ y))).map encStr) ∧ (v = .slice none 0 0 ↔ ss = []) ∧ Below (w.alloc (.cells #[.map (some b)] 174)).heap.size (w.alloc (.cells #[.map (some b)] 174)) w' := by
  have hbl := hown.lt
  have hseq : SeqGives Fence.wide 2 Tryz.prog 215 #[.pointer (some ⟨w.heap.size, 0, none⟩)] encStr (fun ss => ss.Perm (strKeys D0)) (Maps.size D0) (w.alloc (.cells #[.map (some b)] 174)) :=
    AnyZ.keys_gives (ρ := Tryz.keys173_ren) { Tryz.keys173 with } Fence.wide _ trivial rfl (by omega) w.heap.size b nn D0 _ (by simp) (by simp) (by
      obtain ⟨es, clock, hb, Ft, hs, hD⟩ := hown
      exact ⟨es, clock, (Below.heap_alloc _ _ b hbl).trans hb, Ft, hs, hD⟩)
  exact AnyZ.sorted_in Tryz.sorted114 Fence.wide 5 trivial trivial trivial trivial rfl (by omega) (Tryz.sorts114 _) (enters_of Tryz.func178 (by kernel_rfl) rfl) 215 #[.pointer (some ⟨w.heap.size, 0, none⟩)] trivial (enters_of Tryz.func215 (by kernel_rfl) rfl) _ _ hmax hbytes _ hseq

set_option maxHeartbeats 1000000 in
theorem Tryz.slices_Sorted_keys_nil_114_173 (w : World) :
    CallsIn Fence.wide 5 Tryz.prog 114 #[.func (.func 215) #[] #[.pointer (some ⟨w.heap.size, 0, none⟩)]] (w.alloc (.cells #[.map none] 174)) fun e w' => ∃ (v : Value) (ss : List (List UInt8)), e = .returned v ∧ ss = [] ∧
      w'.ownsRow (w.alloc (.cells #[.map none] 174)).heap.size 9 1 v ss.length ((ss.mergeSort (fun x y => decide (x ≤ y))).map encStr) ∧ (v = .slice none 0 0 ↔ ss = []) ∧ Below (w.alloc (.cells #[.map none] 174)).heap.size (w.alloc (.cells #[.map none] 174)) w' := by
  have hseq : SeqGives Fence.wide 2 Tryz.prog 215 #[.pointer (some ⟨w.heap.size, 0, none⟩)] encStr (fun ss : List (List UInt8) => ss = []) 0 (w.alloc (.cells #[.map none] 174)) :=
    AnyZ.keys_gives_nil (ρ := Tryz.keys173_ren) { Tryz.keys173 with } Fence.wide _ trivial rfl w.heap.size _ (by simp) (by simp)
  exact AnyZ.sorted_in Tryz.sorted114 Fence.wide 5 trivial trivial trivial trivial rfl (by omega) (Tryz.sorts114 _) (enters_of Tryz.func178 (by kernel_rfl) rfl) 215 #[.pointer (some ⟨w.heap.size, 0, none⟩)] trivial (enters_of Tryz.func215 (by kernel_rfl) rfl) _ 0 (Nat.zero_le _) (by omega) _ hseq



end Go.Proofs

/- The keys that a work has put or deleted, in rising order. -/
namespace Go.Proofs.YtfcocbcihhdbkaaGreatDoor
open Go.RowKit Go.Maps Go.Sort Go.Shelf

/-- The map as the shelf's contracts read it. -/
theorem MapAt.owns {w : World} {b : Nat} {l : List (ByteArray × Value)} (h : MapAt Value.string w b l) (hk : ∀ p ∈ l, p.1.size ≤ maxLen) (hl : l.length ≤ maxLen) :
    ∃ D : DataW Unit, w.ownsMap Tryz.prog 9 (fun _ => some (.nil, [])) b l.length D ∧ (strKeys D).Perm (l.map (fun p => p.1.data.toList)) ∧ Maps.size D = l.length := by
  obtain ⟨es, clock, hb, hs, he⟩ := h
  have hsz : es.size = l.length := by
    have := congrArg List.length he
    simpa using this
  have hrd : ∀ x ∈ es.toList, ∃ s : ByteArray, x.key = .string s ∧ s.size ≤ maxLen ∧ WideElems.rd (H := Unit) Tryz.prog 9 (fun _ => some (.nil, [])) x = some (.string s.data.toList, .nil) := by
    intro x hx
    have : (x.key, x.val) ∈ l.map (fun p => (Value.string p.1, p.2)) := by rw [← he]; exact List.mem_map.2 ⟨x, hx, rfl⟩
    obtain ⟨p, hp, hpe⟩ := List.mem_map.1 this
    have hkey : x.key = .string p.1 := (Prod.mk.inj hpe).1.symm
    refine ⟨p.1, hkey, hk p hp, ?_⟩
    simp [WideElems.rd, hkey, WideMaps.keyOf_string_mk Tryz.underlying9 (hk p hp)]
  refine ⟨_, ⟨es, clock, hb, ⟨by omega, hs, fun x hx => ?_⟩, by omega, rfl⟩, ?_, ?_⟩
  · obtain ⟨s, _, _, h⟩ := hrd x hx
    exact ⟨_, h⟩
  · simp only [strKeys]
    have hp := (WideShapes.sorted_perm (es.toList.map (WideElems.rg (H := Unit) Tryz.prog 9 (fun _ => some (.nil, []))))).map (fun p => Go.strOf p.1)
    refine hp.trans ?_
    have e : (es.toList.map (WideElems.rg (H := Unit) Tryz.prog 9 (fun _ => some (.nil, [])))).map (fun p => Go.strOf p.1) = l.map (fun p => p.1.data.toList) := by
      rw [List.map_map]
      have e2 : l.map (fun p => p.1.data.toList) = (l.map (fun p => (Value.string p.1, p.2))).map (fun q => match q.1 with | .string s => s.data.toList | _ => []) := by
        rw [List.map_map]; rfl
      rw [e2, ← he, List.map_map]
      apply List.map_congr_left
      intro x hx
      obtain ⟨s, hkey, _, h⟩ := hrd x hx
      simp [WideElems.rg, h, hkey, Go.strOf]
    rw [e]
  · simp only [Maps.size]
    rw [(WideShapes.sorted_perm _).length_eq]
    simp [hsz]

theorem row_of_owns {w : World} {base : Nat} {e : TypeId} {size : Nat} {v : Value} {n : Nat} {xs : List Value} (h : w.ownsRow base e size v n xs) : Row w e size v n xs := by
  refine ⟨h.1, ?_⟩
  rcases h.2 with h2 | ⟨g, cap, cur, hv, _, hh, h3, h4, h5, h6⟩
  · exact .inl h2
  · exact .inr ⟨g, cap, cur, hv, hh, h3, h4, by omega, h6⟩

/-- The bytes' lists sorted, as keys. -/
def asKeys (ss : List (List UInt8)) : List ByteArray := (ss.mergeSort (fun x y => decide (x ≤ y))).map (fun l => ⟨l.toArray⟩)

theorem asKeys_rises {ss : List (List UInt8)} (hn : ss.Nodup) : Rises (asKeys ss) := by
  unfold Rises asKeys
  rw [List.pairwise_map]
  have h1 : (ss.mergeSort (fun x y => decide (x ≤ y))).Pairwise (fun x y => decide (x ≤ y) = true) := List.pairwise_mergeSort (fun a b c hab hbc => by simp at *; exact List.le_trans hab hbc) (fun a b => by simp; exact List.le_total a b) ss
  have h2 : (ss.mergeSort (fun x y => decide (x ≤ y))).Nodup := (List.mergeSort_perm ss _).nodup_iff.2 hn
  rw [List.nodup_iff_pairwise_ne] at h2
  refine (h1.and h2).imp ?_
  rintro a b ⟨hab, hne⟩
  rw [ltK_iff]
  have hab' : a ≤ b := by simpa using hab
  rcases List.le_iff_lt_or_eq.1 hab' with h | h
  · exact h
  · exact absurd h hne

theorem asKeys_perm {ss : List (List UInt8)} {ks : List ByteArray} (h : ss.Perm (ks.map (fun k => k.data.toList))) : (asKeys ss).Perm ks := by
  unfold asKeys
  have h1 : (ss.mergeSort (fun x y => decide (x ≤ y))).Perm (ks.map (fun k => k.data.toList)) := (List.mergeSort_perm ss _).trans h
  have h2 := h1.map (fun l : List UInt8 => (⟨l.toArray⟩ : ByteArray))
  have e : (ks.map (fun k => k.data.toList)).map (fun l : List UInt8 => (⟨l.toArray⟩ : ByteArray)) = ks := by
    rw [List.map_map]
    conv => rhs; rw [← List.map_id ks]
    apply List.map_congr_left
    intro k _
    simp
  rw [e] at h2
  exact h2

theorem nodup_map_inj {α β : Type} {f : α → β} (hf : ∀ a b, f a = f b → a = b) : ∀ {l : List α}, l.Nodup → (l.map f).Nodup
  | [], _ => by simp
  | x :: r, h => by
    simp only [List.nodup_cons, List.map_cons] at h ⊢
    refine ⟨fun hx => ?_, nodup_map_inj hf h.2⟩
    obtain ⟨y, hy, e⟩ := List.mem_map.1 hx
    exact h.1 (hf _ _ e ▸ hy)

theorem below_empty (ks : List ByteArray) : below ks ⟨#[]⟩ = 0 := by
  unfold below
  cases ks with
  | nil => rfl
  | cons k r =>
    have : ltK k ⟨#[]⟩ = false := by
      unfold ltK
      rw [ByteArray.toList_eq (⟨#[]⟩ : ByteArray)]
      cases k.toList <;> rfl
    simp [this]

set_option maxRecDepth 100000 in
set_option maxHeartbeats 800000 in
theorem keys_core (wb mb : Nat) (l : List (ByteArray × Value)) (w : World) (hc : w.cell? ⟨wb, 1, none⟩ = some (.map (some mb))) (hm : MapAt Value.string w mb l) (hk : ∀ p ∈ l, p.1.size ≤ maxLen) (hl : l.length ≤ 1000000) :
    Calls Tryz.prog 107 #[.pointer (some ⟨wb, 0, none⟩), .string ⟨#[]⟩] w fun e w' => ∃ v ks, e = .returned v ∧ Row w' 9 1 v ks.length (ks.map Value.string) ∧ Rises ks ∧ ks.Perm (l.map (·.1)) ∧ Keeps (fun _ => False) w w' ∧ (∀ k, v.ownBlock = some k → w.heap.size < k) := by
  have hnd := hm.nodup
  obtain ⟨D, hD1, hD2, hD3⟩ := hm.owns hk (by unfold maxLen; omega)
  have hsrt := fun W : World => True
  have hSK := Tryz.slices_Sorted_keys_114_173 mb l.length D _ w hD1 (by rw [hD3]; unfold maxLen; omega) (by rw [hD3]; omega)
  have HD2 : Hid ((strKeys D).Perm (l.map (fun p => p.1.data.toList))) := hD2
  have HND : Hid ((l.map (·.1)).Nodup) := hnd
  have HL : Hid (l.length ≤ 1000000) := hl
  clear hD1 hD2 hD3 hnd hm hk hl hsrt
  refine (callsIn_wide (n := 6)).1 ?_
  have hfK : Fence.wide.fn 173 := trivial
  have hfS : Fence.wide.fn 114 := trivial
  have hfB : Fence.wide.fn 172 := trivial
  refine callsIn_of_wp Tryz.func107 rfl trivial ?_ rfl
  simp only [Tryz.ntmps107, List.size_toArray, List.length_cons, List.length_nil, Nat.reduceAdd, Nat.reduceSub, Array.replicate_succ, Array.replicate_zero, List.push_toArray, List.append_toArray, List.nil_append, List.cons_append]
  gi_wp2_with (first
    | (gi_at_call 173; go_must (refine (Tryz.maps_Keys_173 _ _).mono ?_; rintro e w' ⟨rfl, rfl⟩))
    | (gi_at_call 114; go_must (refine hSK.mono ?_; rintro e w' ⟨v, ss, rfl, hS, hrow, hnil, hb⟩)))
  have hks : Rises (asKeys ss) := asKeys_rises ((hS.trans HD2.out).nodup_iff.2 (by
    have := HND.out
    have e : l.map (fun p => p.1.data.toList) = (l.map (·.1)).map (fun k => k.data.toList) := by rw [List.map_map]; rfl
    rw [e]
    exact nodup_map_inj (fun _ _ h => data_inj h) this))
  have hperm : (asKeys ss).Perm (l.map (·.1)) := asKeys_perm (by
    have := hS.trans HD2.out
    rwa [show l.map (fun p => p.1.data.toList) = (l.map (·.1)).map (fun k => k.data.toList) from by rw [List.map_map]; rfl] at this)
  have hlen : (asKeys ss).length = ss.length := by simp [asKeys]
  have hR : Row w' 9 1 v (asKeys ss).length ((asKeys ss).map Value.string) := by
    rw [hlen]
    have := row_of_owns hrow
    have e : (asKeys ss).map Value.string = (ss.mergeSort (fun x y => decide (x ≤ y))).map encStr := by simp [asKeys, Function.comp_def]
    rw [e]
    exact this
  have hb0 : below (asKeys ss) ⟨#[]⟩ = 0 := below_empty _
  have hsl : ss.length = l.length := by have := (hS.trans HD2.out).length_eq; simpa using this
  have hB := search_keys v (asKeys ss) ⟨#[]⟩ w' hR hks (by rw [hlen, hsl]; have := HL.out; omega)
  rw [hb0] at hB
  have hkk : Keeps (fun _ => False) w w' := ((Keeps.refl _ w).al _).tr (Keeps.below hb) (fun _ h => h)
  generalize memB (asKeys ss) ⟨#[]⟩ = mb1 at hB
  generalize asKeys ss = ks at *
  have HW : Hid (∀ k, v.ownBlock = some k → w.heap.size < k) := fun k hk => by have := (hrow.lt k hk).1; simp at this; omega
  clear hSK hS hrow hnil hb hb0 hsl hlen
  have HR : Hid (Row w' 9 1 v ks.length (ks.map Value.string)) := hR
  have HK : Hid (Rises ks) := hks
  have HP : Hid (ks.Perm (l.map (·.1))) := hperm
  have HKK : Hid (Keeps (fun _ => False) w w') := hkk
  rcases hR.shape with ⟨rfl, h0⟩ | ⟨g, cap, rfl, hcap1, hcap2⟩
  · clear hR hks hperm hkk
    gi_wp2_with (gi_at_call 172; go_must (refine (callsIn_wide.2 hB).mono ?_; rintro e w2 ⟨rfl, hk2⟩))
    go_ret
    exact ⟨_, ks, rfl, HR.out.kept hk2 (fun _ _ h => h), HK.out, HP.out, HKK.out.tr hk2 (fun _ h => h), HW.out⟩
  · clear hR hks hperm hkk
    unfold maxLen at hcap2
    gi_wp2_with (gi_at_call 172; go_must (refine (callsIn_wide.2 hB).mono ?_; rintro e w2 ⟨rfl, hk2⟩))
    go_ret
    exact ⟨_, ks, rfl, HR.out.kept hk2 (fun _ _ h => h), HK.out, HP.out, HKK.out.tr hk2 (fun _ h => h), HW.out⟩

end Go.Proofs.YtfcocbcihhdbkaaGreatDoor

/- A version more: how the store lies behind it. -/
namespace Go.Proofs.YtfcocbcihhdbkaaGreatDoor
open Go.RowKit

section
variable {α β : Type} [DecidableEq α]

theorem del_put : ∀ (l : List (α × β)) (k : α) (v : β), del (put l k v) k = del l k
  | [], k, v => by simp [put, del]
  | (a, x) :: r, k, v => by
    unfold put
    by_cases e : a = k
    · rw [if_pos e]
      simp [del, e]
    · rw [if_neg e]
      simp [del, e, del_put r k v]

theorem perm_of_look : ∀ {l : List (α × β)} {k : α} {x : β}, look l k = some x → l.Perm ((k, x) :: del l k)
  | (a, y) :: r, k, x, h => by
    unfold look at h
    unfold del
    by_cases e : a = k
    · rw [if_pos e] at h ⊢
      subst e
      cases h
      exact List.Perm.refl _
    · rw [if_neg e] at h ⊢
      exact ((perm_of_look h).cons _).trans (List.Perm.swap _ _ _)

theorem look_put_same (l : List (α × β)) (k : α) (v : β) : look (put l k v) k = some v := by rw [look_put, if_pos rfl]
end

/-- the slice that stands at a key -/
def slOf (hist : List (ByteArray × HsR)) (key : ByteArray) : Value := ((look hist key).map HsR.sl).getD (.slice none 0 0)

/-- the store's blocks but for those of the list of keys and of the key's versions -/
def Rep.restOf (R : Rep) (key : ByteArray) : List Nat := R.sb :: (R.fpWorks ++ (R.vm.toList ++ (del R.hist key).flatMap (fun p => p.2.sl.ownBlock.toList)))

theorem hist_perm (hist : List (ByteArray × HsR)) (key : ByteArray) : (hist.flatMap (fun p => p.2.sl.ownBlock.toList)).Perm ((slOf hist key).ownBlock.toList ++ (del hist key).flatMap (fun p => p.2.sl.ownBlock.toList)) := by
  unfold slOf
  cases h : look hist key with
  | none =>
    rw [del_none h]
    simp [Value.ownBlock]
  | some x =>
    have := (perm_of_look h).flatMap_right (fun p => p.2.sl.ownBlock.toList)
    simpa using this

theorem fp_perm (R : Rep) (key : ByteArray) : R.fp.Perm (R.kv.ownBlock.toList ++ ((slOf R.hist key).ownBlock.toList ++ R.restOf key)) := by
  unfold Rep.fp Rep.fpPast Rep.restOf
  have h1 := hist_perm R.hist key
  have h2 : (R.fpWorks ++ (R.kv.ownBlock.toList ++ R.vm.toList ++ R.hist.flatMap (fun p => p.2.sl.ownBlock.toList))).Perm (R.kv.ownBlock.toList ++ ((slOf R.hist key).ownBlock.toList ++ (R.fpWorks ++ (R.vm.toList ++ (del R.hist key).flatMap (fun p => p.2.sl.ownBlock.toList))))) := by
    refine (List.Perm.append_left _ (List.Perm.append_left _ h1)).trans ?_
    generalize (del R.hist key).flatMap (fun p => p.2.sl.ownBlock.toList) = D
    generalize (slOf R.hist key).ownBlock.toList = B
    generalize R.kv.ownBlock.toList = A
    generalize R.vm.toList = V
    generalize R.fpWorks = F
    -- F ++ (A ++ V ++ (B ++ D)) ~ A ++ (B ++ (F ++ (V ++ D)))
    rw [List.append_assoc]
    refine (List.perm_append_comm_assoc F A _).trans ?_
    refine List.Perm.append_left _ ?_
    refine (List.Perm.append_left F (List.perm_append_comm_assoc V B D)).trans ?_
    exact List.perm_append_comm_assoc F B _
  refine (h2.cons _).trans ?_
  refine (List.perm_middle.symm).trans ?_
  refine List.Perm.append_left _ ?_
  exact List.perm_middle.symm

theorem hist_nodup {w : World} {kv : Value} {keys : List ByteArray} {vm : Option Nat} {hist : List (ByteArray × HsR)} (h : PastAt w kv keys vm hist) : (hist.map (·.1)).Nodup := by
  have := h.histMap.nodup
  simpa [List.map_map, Function.comp_def] using this

/-- A key has one version more. -/
theorem StoreAt.added {w w' : World} {R : Rep} {S : Nat → Prop} (key : ByteArray) {kv' sl' : Value} {keys' : List ByteArray} {b : Nat} {vs' : List Ver} (h : StoreAt w R) (hk : Keeps S w w')
    (hS : ∀ k, k < w.heap.size → S k → k = R.sb ∨ R.kv.ownBlock = some k ∨ R.vm = some k ∨ (slOf R.hist key).ownBlock = some k)
    (ht : w'.heap[R.sb]? = some (.cells (topCells { R with kv := kv', vm := some b }) 112 (0, 0)))
    (hkr : Row w' 9 1 kv' keys'.length (keys'.map Value.string))
    (hm : MapAt Value.string w' b (put (R.hist.map fun p => (p.1, p.2.sl)) key sl'))
    (hsl : Row w' 179 3 sl' vs'.length (vs'.flatMap Ver.cells))
    (c1 : ∀ g, kv'.ownBlock = some g → R.kv.ownBlock = some g ∨ w.heap.size ≤ g) (c2 : ∀ g, sl'.ownBlock = some g → (slOf R.hist key).ownBlock = some g ∨ w.heap.size ≤ g) (c3 : R.vm = some b ∨ R.vm = none ∧ w.heap.size ≤ b)
    (c4 : (kv'.ownBlock.toList ++ sl'.ownBlock.toList ++ [b]).Nodup) :
    StoreAt w' { R with kv := kv', keys := keys', vm := some b, hist := put R.hist key ⟨sl', vs'⟩ } := by
  have hlt := fp_lt h
  have hnd0 := h.nodup
  have hnd := ((fp_perm R key).nodup_iff).1 hnd0
  rw [List.nodup_append, List.nodup_append] at hnd
  obtain ⟨-, ⟨-, hrest, hd2⟩, hd1⟩ := hnd
  have hrlt : ∀ k ∈ R.restOf key, k < w.heap.size := fun k hk1 => hlt k ((fp_perm R key).mem_iff.2 (List.mem_append_right _ (List.mem_append_right _ hk1)))
  have hrs : R.sb ∈ R.restOf key := by simp [Rep.restOf]
  -- what lies elsewhere is kept
  have hns : ∀ k ∈ R.fpWorks, ¬ S k := by
    intro k hk1 hs
    have hkr1 : k ∈ R.restOf key := by simp [Rep.restOf, hk1]
    rcases hS k (hrlt k hkr1) hs with e | e | e | e
    · have := hrest
      simp only [Rep.restOf, List.nodup_cons, List.mem_append, not_or] at this
      exact this.1.1 (e ▸ hk1)
    · exact hd1 k (by simp [e]) k (List.mem_append_right _ hkr1) rfl
    · have := hrest
      simp only [Rep.restOf, List.nodup_cons, List.nodup_append] at this
      exact this.2.2.2 k hk1 k (by simp [e]) rfl
    · exact hd2 k (by simp [e]) k hkr1 rfl
  have hnh : ∀ p ∈ R.hist, p.1 ≠ key → ∀ g, p.2.sl.ownBlock = some g → ¬ S g := by
    intro p hp hpk g hg hs
    have hdel : p ∈ del R.hist key := by
      rw [del_filter _ (hist_nodup h.past)]
      exact List.mem_filter.2 ⟨hp, by simpa using hpk⟩
    have hgd : g ∈ (del R.hist key).flatMap (fun p => p.2.sl.ownBlock.toList) := List.mem_flatMap.2 ⟨p, hdel, by simp [hg]⟩
    have hkr1 : g ∈ R.restOf key := by simp only [Rep.restOf, List.mem_cons, List.mem_append]; exact .inr (.inr (.inr hgd))
    rcases hS g (hrlt g hkr1) hs with e | e | e | e
    · have := hrest
      simp only [Rep.restOf, List.nodup_cons, List.mem_append, not_or] at this
      exact this.1.2.2 (e ▸ hgd)
    · exact hd1 g (by simp [e]) g (List.mem_append_right _ hkr1) rfl
    · have := hrest
      simp only [Rep.restOf, List.nodup_cons, List.nodup_append] at this
      exact this.2.2.1.2.2 g (by simp [e]) g hgd rfl
    · exact hd2 g (by simp [e]) g hkr1 rfl
  have hw := h.works.kept hk hns
  refine ⟨ht, ⟨hw.worksMap, hw.worksEach, hw.pinsMap, hw.copyMap⟩, ⟨hkr, ?_, ?_⟩, ?_⟩
  · show MapAt _ _ _ _
    have e : (put R.hist key ⟨sl', vs'⟩).map (fun p => (p.1, p.2.sl)) = put (R.hist.map fun p => (p.1, p.2.sl)) key sl' := (put_map HsR.sl R.hist key ⟨sl', vs'⟩).symm
    rw [e]
    exact hm
  · intro p hp
    rcases mem_put (hist_nodup h.past) hp with rfl | ⟨hp1, hp2⟩
    · exact hsl
    · exact (h.past.histEach p hp1).kept hk (hnh p hp1 hp2)
  · -- the blocks
    refine ((fp_perm { R with kv := kv', keys := keys', vm := some b, hist := put R.hist key ⟨sl', vs'⟩ } key).nodup_iff).2 ?_
    have e1 : slOf (put R.hist key ⟨sl', vs'⟩) key = sl' := by unfold slOf; rw [look_put_same]; rfl
    have e2 : Rep.restOf { R with kv := kv', keys := keys', vm := some b, hist := put R.hist key ⟨sl', vs'⟩ } key = R.sb :: (R.fpWorks ++ (b :: (del R.hist key).flatMap (fun p => p.2.sl.ownBlock.toList))) := by
      simp only [Rep.restOf, del_put]
      rfl
    show (kv'.ownBlock.toList ++ ((slOf (put R.hist key ⟨sl', vs'⟩) key).ownBlock.toList ++ Rep.restOf { R with kv := kv', keys := keys', vm := some b, hist := put R.hist key ⟨sl', vs'⟩ } key)).Nodup
    rw [e1, e2]
    -- the rest, with b
    have hbase : (R.sb :: (R.fpWorks ++ (b :: (del R.hist key).flatMap (fun p => p.2.sl.ownBlock.toList)))).Nodup ∧ ∀ k, k ∈ R.sb :: (R.fpWorks ++ (b :: (del R.hist key).flatMap (fun p => p.2.sl.ownBlock.toList))) → k ∈ R.restOf key ∨ k = b := by
      constructor
      · rcases c3 with e | ⟨e, hbw⟩
        · have : Rep.restOf R key = R.sb :: (R.fpWorks ++ (b :: (del R.hist key).flatMap (fun p => p.2.sl.ownBlock.toList))) := by simp [Rep.restOf, e]
          rw [← this]
          exact hrest
        · have e0 : Rep.restOf R key = R.sb :: (R.fpWorks ++ (del R.hist key).flatMap (fun p => p.2.sl.ownBlock.toList)) := by simp [Rep.restOf, e]
          have hbn : b ∉ R.restOf key := fun hb => by have := hrlt b hb; omega
          have hpm : (R.sb :: (R.fpWorks ++ (b :: (del R.hist key).flatMap (fun p => p.2.sl.ownBlock.toList)))).Perm (b :: R.restOf key) := by
            rw [e0]
            exact (List.perm_middle.cons _).trans (List.Perm.swap _ _ _)
          rw [hpm.nodup_iff]
          exact List.nodup_cons.2 ⟨hbn, hrest⟩
      · intro k hk1
        simp only [Rep.restOf, List.mem_cons, List.mem_append] at hk1 ⊢
        rcases hk1 with h | h | h | h
        · exact .inl (.inl h)
        · exact .inl (.inr (.inl h))
        · exact .inr h
        · exact .inl (.inr (.inr (.inr h)))
    simp only [List.append_assoc, List.nodup_append] at c4
    obtain ⟨d1, ⟨d2, -, d4⟩, d5⟩ := c4
    refine List.nodup_append.2 ⟨d1, List.nodup_append.2 ⟨d2, hbase.1, ?_⟩, ?_⟩
    · intro a ha c hc e
      subst e
      have ha' : sl'.ownBlock = some a := by simpa using ha
      rcases hbase.2 a hc with hr | rfl
      · rcases c2 a ha' with h2 | h2
        · exact hd2 a (by simp [h2]) a hr rfl
        · have := hrlt a hr; omega
      · exact d4 a ha a (by simp) rfl
    · intro a ha c hc e
      subst e
      have ha' : kv'.ownBlock = some a := by simpa using ha
      rcases List.mem_append.1 hc with hc | hc
      · exact d5 a ha a (List.mem_append_left _ hc) rfl
      · rcases hbase.2 a hc with hr | rfl
        · rcases c1 a ha' with h2 | h2
          · exact hd1 a (by simp [h2]) a (List.mem_append_right _ hr) rfl
          · have := hrlt a hr; omega
        · exact d5 a ha a (List.mem_append_right _ (by simp)) rfl

end Go.Proofs.YtfcocbcihhdbkaaGreatDoor

/- Add. -/
namespace Go.Proofs.YtfcocbcihhdbkaaGreatDoor
open Go.RowKit

/-- append onto a slice at the head of its block, as one step of a region that draws. -/
theorem step_append_row {P : Program} (w : World) {ops : Array Oper} {o : Oper} {a : Act} {K : Act → World → Prop} {Q : Exit → Act → World → Prop} {E : Prop} (hgd : o.guard = none) (s x : Operand) (t : TypeId)
    (ho : o.op = .call { callee := .builtin .append, args := #[s, x], argTypes := #[t, t] })
    (e : TypeId) (i : TypeInfo) (z : Value) (size bytes : Nat) (ht : P.underlying t = some (.slice e)) (hi : P.info? e = some i) (hz : i.zero = some z)
    (hsize : i.size = size) (hby : i.bytes = bytes) (hzs : z.cells.size = size)
    (v : Value) (n : Nat) (xs : List Value) (hs : a.eval s = v) (hown : Row w e size v n xs)
    (ad : Addr) (m c : Nat) (news : List Value) (hx : a.eval x = .slice (some ad) m c) (hl : news.length = m * size) (hnews : ∀ j u, news[j]? = some u → w.cell? (ad.add j) = some u) (h1 : ∀ u ∈ news, u.oneCell' = true)
    (h63 : n + m ≤ maxLen) (hbytes : (n + m) * bytes ≤ 140737488355328)
    (h : ∀ v' w', Row w' e size v' (n + m) (xs ++ news) → w.grownBy w' v.ownBlock → (v' = .slice none 0 0 ↔ v = .slice none 0 0 ∧ m = 0) → (v'.ownBlock = v.ownBlock ∨ v'.ownBlock = some w.heap.size) → K (a.put o.dst v') w') :
    if Region.wanted o (yielded ops a.tmps) = true then Oper.wp P o a w K Q else E := by
  have hw : Region.wanted o (yielded ops a.tmps) = true := by simp [Region.wanted, hgd]
  rw [if_pos hw]
  obtain ⟨v', w', hr, h2, h3, h4, h5⟩ := run_append_row (P := P) w t o.type e i z size bytes ht hi hz hsize hby hzs v n xs hown ad m c news hl hnews h1 h63 hbytes
  unfold Oper.wp execOp
  simp only [ho, resolve, invoke, builtin, Sem.run_bind, Sem.run_pure, Result.andThen_ok, List.map_toArray, List.map_cons, List.map_nil, hs, hx, hr]
  exact h v' w' h2 h3 h4 h5

theorem Tryz.infoVersion : (Tryz.prog.info? 179).map (fun i => (i.zero, i.size, i.bytes)) = some (some (.agg #[.int .i64 0, .string ⟨#[]⟩, .bool false]), 3, 32) := by kernel_rfl
theorem eqVm_some (b : Nat) (w : World) : (binOp BinOp.eql 108 (.map (some b)) (.map none)).run Tryz.prog w = .ok (.bool false) w := by kernel_rfl
theorem eqVm_none (w : World) : (binOp BinOp.eql 108 (.map none) (.map none)).run Tryz.prog w = .ok (.bool true) w := by kernel_rfl

/-- What Add leaves. -/
def AddPost (R : Rep) (key : ByteArray) (v : Ver) (w w' : World) : Prop :=
  ∃ kv' b sl', StoreAt w' { R with kv := kv', keys := (if memB R.keys key then R.keys else insAt R.keys (below R.keys key) key), vm := some b, hist := put R.hist key ⟨sl', versOf R.hist key ++ [v]⟩ } ∧ Keeps (· ∈ R.fp) w w' ∧
    (∀ g, kv'.ownBlock = some g → R.kv.ownBlock = some g ∨ w.heap.size ≤ g) ∧ (∀ g, sl'.ownBlock = some g → (slOf R.hist key).ownBlock = some g ∨ w.heap.size ≤ g) ∧ (R.vm = some b ∨ R.vm = none ∧ w.heap.size ≤ b)

theorem add_news (w : World) (o : Obj) (v : Ver) : ∀ j u, v.cells[j]? = some u → (((w.alloc o).alloc (.cells #[.int .i64 v.state, .string v.value, .bool v.gone] 179)).drew).cell? ((⟨w.heap.size + 1, 0, none⟩ : Addr).add j) = some u := by
  intro j u hj
  rw [Addr.add_lit, Nat.zero_add]
  have hh : (((w.alloc o).alloc (.cells #[.int .i64 v.state, .string v.value, .bool v.gone] 179)).drew).heap[w.heap.size + 1]? = some (.cells #[.int .i64 v.state, .string v.value, .bool v.gone] 179 (0, 0)) := by
    have := heap_new (w.alloc o) (.cells #[.int .i64 v.state, .string v.value, .bool v.gone] 179)
    simpa [World.drew] using this
  rw [cell_of_heap hh]
  simpa [Ver.cells] using hj

theorem keep4b {W W' : World} {b c s : Nat} {u v x y : Value} (hk : Keeps (· = b) W W') (hs : s ≠ b) (hc : c ≠ b) (h1 : W.cell? ⟨s, 8, none⟩ = some u) (h2 : W.cell? ⟨c, 0, none⟩ = some v) (h3 : W.cell? ⟨c, 1, none⟩ = some x) (h4 : W.cell? ⟨c, 2, none⟩ = some y) :
    W'.cell? ⟨s, 8, none⟩ = some u ∧ W'.cell? ⟨c, 0, none⟩ = some v ∧ W'.cell? ⟨c, 1, none⟩ = some x ∧ W'.cell? ⟨c, 2, none⟩ = some y :=
  ⟨hk.cell (p := ⟨s, 8, none⟩) h1 hs, hk.cell (p := ⟨c, 0, none⟩) h2 hc, hk.cell (p := ⟨c, 1, none⟩) h3 hc, hk.cell (p := ⟨c, 2, none⟩) h4 hc⟩

theorem add_grown {R : Rep} {w w1 : World} {v : Ver} {o2 : Obj} {sl : Value} {b : Nat} {l : List (ByteArray × Value)} {u : Value} (h : StoreAt w R) (hbs : ∀ g, sl.ownBlock = some g → g ≠ R.sb ∧ g ≠ b ∧ g < w.heap.size) (hM : MapAt Value.string w b l) (c6 : w.cell? ⟨R.sb, 8, none⟩ = some u)
    (hg : (((w.alloc (.cells #[.int .i64 v.state, .string v.value, .bool v.gone] 179)).alloc o2).drew).grownBy w1 sl.ownBlock) :
    Keeps (fun k => sl.ownBlock = some k) w w1 ∧ MapAt Value.string w1 b l ∧ w1.cell? ⟨R.sb, 8, none⟩ = some u ∧ w1.cell? ⟨w.heap.size, 0, none⟩ = some (.int .i64 v.state) ∧ w1.cell? ⟨w.heap.size, 1, none⟩ = some (.string v.value) ∧ w1.cell? ⟨w.heap.size, 2, none⟩ = some (.bool v.gone) := by
  have hk0 := Keeps.grown hg
  have hk : Keeps (fun k => sl.ownBlock = some k) w w1 := ((((Keeps.refl _ w).al _).al _).dr).tr hk0 (fun _ h => h.symm)
  have hlt := h.lt
  have hb : w1.heap[w.heap.size]? = some (.cells #[.int .i64 v.state, .string v.value, .bool v.gone] 179 (0, 0)) := by
    rw [hk0.block w.heap.size (by simp; omega) (fun e => by have := (hbs _ e.symm).2.2; omega)]
    have := heap_new w (.cells #[.int .i64 v.state, .string v.value, .bool v.gone] 179)
    exact (Below.heap_alloc _ _ _ (by simp)).trans this
  exact ⟨hk, hM.kept hk (fun e => (hbs b e).2.1 rfl), hk.cell (p := ⟨R.sb, 8, none⟩) c6 (fun e => (hbs _ e).1 rfl), cell_of_heap hb 0, cell_of_heap hb 1, cell_of_heap hb 2⟩

set_option maxRecDepth 100000 in
set_option maxHeartbeats 1000000 in
/-- a key that has versions -/
theorem add_known (R : Rep) (key : ByteArray) (v : Ver) (x : HsR) (w : World) (h : StoreAt w R) (hx : look R.hist key = some x) (hin : memB R.keys key = true) (hl : x.vers.length < 1000000000000) :
    Calls Tryz.prog 174 #[.pointer (some ⟨R.sb, 7, none⟩), .string key, .agg #[.int .i64 v.state, .string v.value, .bool v.gone]] w fun e w' => e = .returned (.tuple #[]) ∧ AddPost R key v w w' := by
  obtain ⟨b, hvm⟩ : ∃ b, R.vm = some b := by
    cases hv : R.vm with
    | some b => exact ⟨b, rfl⟩
    | none =>
      have := h.past.histMap
      rw [hv] at this
      have e : R.hist = [] := List.map_eq_nil_iff.1 this
      rw [e] at hx
      cases hx
  have hM : MapAt Value.string w b (R.hist.map fun p => (p.1, p.2.sl)) := by have := h.past.histMap; rw [hvm] at this; exact this
  have c6 : w.cell? ⟨R.sb, 8, none⟩ = some (.map (some b)) := (h.cell 8).trans (by rw [← hvm]; rfl)
  have hlt := h.lt
  have hlt1 : R.sb < w.heap.size + 1 := by omega
  have hR := h.past.histEach _ (look_mem hx)
  have hlk : look (R.hist.map fun p => (p.1, p.2.sl)) key = some x.sl := by rw [look_map, hx]; rfl
  have hem := eqVm_some
  have hnot : ∀ (x : Bool) (w : World), (Op.unary .not (.bool x)).run Tryz.prog w = .ok (.bool (!x)) w := fun _ _ => rfl
  have HLK : Hid (look (R.hist.map fun p => (p.1, p.2.sl)) key = some x.sl) := hlk
  have HST : Hid (StoreAt w R) := h
  have HX : Hid (look R.hist key = some x) := hx
  have HIN : Hid (memB R.keys key = true) := hin
  have HVM : Hid (R.vm = some b) := hvm
  have HM : Hid (MapAt Value.string w b (R.hist.map fun p => (p.1, p.2.sl))) := hM
  have HR : Hid (Row w 179 3 x.sl x.vers.length (x.vers.flatMap Ver.cells)) := hR
  have HL : Hid (x.vers.length < 1000000000000) := hl
  obtain ⟨i0, hi, hz0, hz1, hz2⟩ := info_parts Tryz.infoVersion
  clear hlk h hx hin hvm hM hR hl
  go_enter Tryz.func174, Tryz.ntmps174
  go_wp2_with (at_lookup; go_must (refine wpList_lookup_ok_at _ rfl _ _ 108 rfl 9 185 strKeyOk Tryz.underlying108 Tryz.underlying9 _ (Tryz.zeroVersions _) b rfl key rfl _ (HM.out.kept (Keeps.alloc (fun _ => False) _ _) (fun h => h)) ?_; rw [HLK.out]; simp only [Option.getD_some, Option.isSome_some]))
  have HBS : Hid (∀ g, x.sl.ownBlock = some g → g ≠ R.sb ∧ g ≠ b ∧ g < w.heap.size) := fun g hg => by
    have hn := ((fp_perm R key).nodup_iff).1 HST.out.nodup
    rw [List.nodup_append, List.nodup_append] at hn
    have hsl : slOf R.hist key = x.sl := by unfold slOf; rw [HX.out]; rfl
    have hd2 := hn.2.1.2.2
    rw [hsl] at hd2
    refine ⟨fun e => hd2 g (by simp [hg]) g (by simp [Rep.restOf, e]) rfl, fun e => hd2 g (by simp [hg]) g (by simp [Rep.restOf, HVM.out, e]) rfl, HR.out.lt hg⟩
  have HSB : Hid (R.sb ≠ b) := by
    have hn := HST.out.nodup
    simp only [Rep.fp, Rep.fpPast, List.nodup_cons, List.mem_append, not_or] at hn
    exact fun e => hn.1.2.1.2 (by simp [HVM.out, e])
  have hbl : b < w.heap.size := HM.out.lt
  go_region_held3 (fun W => W.cell? ⟨R.sb, 8, none⟩ = some (.map (some b)) ∧ W.cell? ⟨w.heap.size, 0, none⟩ = some (.int .i64 v.state) ∧ W.cell? ⟨w.heap.size, 1, none⟩ = some (.string v.value) ∧ W.cell? ⟨w.heap.size, 2, none⟩ = some (.bool v.gone)) (go_keep)
    ((refine step_append_row _ (by rfl) _ _ 185 (by rfl) 179 i0 _ 3 32 Tryz.underlying185 hi hz0 hz1 hz2 (by rfl) x.sl x.vers.length _ (by rfl) (HR.out.kept (((Keeps.refl (fun _ => False) w).al _).al _).dr (fun _ _ h => h)) ⟨w.heap.size + 1, 0, none⟩ 1 1 v.cells (by rfl) (by rfl) (add_news w _ v) (by simp [Ver.cells, Value.oneCell']) (by have := HL.out; unfold maxLen; omega) (by have := HL.out; omega) ?_; intro v' w1 hown' hgrow _ hat; obtain ⟨g', cap', rfl⟩ := hown'.succ; obtain ⟨hkw, hmw, r0, r1, r2, r3⟩ := add_grown HST.out HBS.out HM.out c6 hgrow; obtain ⟨ob, hrun, hM1⟩ := hmw.update (P := Tryz.prog) (t := 108) strKeyOk Tryz.underlying108 Tryz.underlying9 key (.slice (some ⟨g', 0, none⟩) (x.vers.length + 1) cap'); obtain ⟨t0, t1, t2, t3⟩ := keep4b (Keeps.setBlock w1 b ob) HSB.out (by omega) r0 r1 r2 r3))
  go_end0
  have hvs : versOf R.hist key = x.vers := by unfold versOf; rw [HX.out]; rfl
  have hsl : slOf R.hist key = x.sl := by unfold slOf; rw [HX.out]; rfl
  have hkk : Keeps (fun k => x.sl.ownBlock = some k ∨ k = b) w (Go.ChangeMaps.setBlock w1 b ob) := (hkw.mono (fun _ _ h => .inl h)).tr (Keeps.setBlock w1 b ob) (fun _ h => .inr h)
  have hgb : g' ≠ b := by
    rcases hat with h | h
    · exact (HBS.out g' (by rw [← h]; rfl)).2.1
    · have h' : g' = w.heap.size + 1 + 1 := by simpa [Value.ownBlock] using h
      omega
  have hkvn : ∀ g, R.kv.ownBlock = some g → g ≠ b ∧ x.sl.ownBlock ≠ some g ∧ g < w.heap.size := fun g hg => by
    have hn := ((fp_perm R key).nodup_iff).1 HST.out.nodup
    rw [List.nodup_append] at hn
    have hd1 := hn.2.2
    rw [hsl] at hd1
    refine ⟨fun e => hd1 g (by simp [hg]) g (List.mem_append_right _ (by simp [Rep.restOf, HVM.out, e])) rfl, fun e => hd1 g (by simp [hg]) g (List.mem_append_left _ (by simp [e])) rfl, HST.out.past.keysRow.lt hg⟩
  have c2 : ∀ g, (Value.slice (some ⟨g', 0, none⟩) (x.vers.length + 1) cap').ownBlock = some g → (slOf R.hist key).ownBlock = some g ∨ w.heap.size ≤ g := fun g hg => by
    rw [hsl]
    rcases hat with h | h
    · exact .inl (by rw [← h]; exact hg)
    · have h' : g' = w.heap.size + 1 + 1 := by simpa [Value.ownBlock] using h
      have hg' : g' = g := by simpa [Value.ownBlock] using hg
      right; omega
  refine ⟨rfl, R.kv, b, .slice (some ⟨g', 0, none⟩) (x.vers.length + 1) cap', ?_, ?_, fun g hg => .inl hg, c2, .inl HVM.out⟩
  · rw [if_pos HIN.out, hvs]
    refine HST.out.added key hkk (fun k _ hs => ?_) ?_ ?_ hM1 ?_ (fun g hg => .inl hg) c2 (.inl HVM.out) ?_
    · rcases hs with hs | hs
      · exact .inr (.inr (.inr (by rw [hsl]; exact hs)))
      · exact .inr (.inr (.inl (by rw [HVM.out, hs])))
    · have e : topCells { R with kv := R.kv, vm := some b } = topCells R := by simp [topCells, HVM.out]
      rw [e]
      exact (hkk.block R.sb HST.out.lt (by rintro (h | h); exact (HBS.out _ h).1 rfl; exact HSB.out h)).trans HST.out.top
    · exact HST.out.past.keysRow.kept hkk (fun g hg => by rintro (h | h); exact (hkvn g hg).2.1 h; exact (hkvn g hg).1 h)
    · have := hown'.kept (Keeps.setBlock w1 b ob) (fun g hg => by
        have hg' : g' = g := by simpa [Value.ownBlock] using hg
        exact hg' ▸ hgb)
      simpa [Ver.cells] using this
    · cases hkb : R.kv.ownBlock with
      | none => simp [Value.ownBlock, hgb]
      | some g =>
        have h1 := hkvn g hkb
        have h2 : g ≠ g' := by
          rcases hat with h | h
          · exact fun e => h1.2.1 (by rw [← h, e]; rfl)
          · have h' : g' = w.heap.size + 1 + 1 := by simpa [Value.ownBlock] using h
            omega
        simp [Value.ownBlock, hgb, h1.1, h2]
  · refine hkk.mono (fun k hk h => ?_)
    rw [(fp_perm R key).mem_iff, hsl]
    rcases h with h | rfl
    · exact List.mem_append_right _ (List.mem_append_left _ (by simp [h]))
    · exact List.mem_append_right _ (List.mem_append_right _ (by simp [Rep.restOf, HVM.out]))

end Go.Proofs.YtfcocbcihhdbkaaGreatDoor
