import Derived.Test.YtpagenipflmlfaaGreatDoorM05
import Derived.Shelf.SlIter.Nil
import Derived.Shelf.SortM.Plain
import Derived.Shelf.SortM.SortNone
import Derived.Ground.GgzProg
import Derived.Ground.SlgmProg

/- The library's Insert, of one key. -/

namespace Go.Proofs.YtpagenipflmlfaaGreatDoor

open Go.RowKit

/-- cells laid one behind the other -/
def putL : Array Value → Nat → List Value → Array Value
  | c, _, [] => c
  | c, o, v :: r => putL (c.setIfInBounds o v) (o + 1) r

theorem putL_size : ∀ (vs : List Value) (c : Array Value) (o : Nat), (putL c o vs).size = c.size
  | [], c, o => rfl
  | v :: r, c, o => by simp [putL, putL_size r]

theorem heap_setCells {e : TypeId} {fz : Nat × Nat} : ∀ (vs : List Value) (w : World) (b o : Nat) (c : Array Value), w.heap[b]? = some (.cells c e fz) → (w.setCells b o vs).heap[b]? = some (.cells (putL c o vs) e fz)
  | [], _, _, _, _, h => h
  | v :: r, _, b, o, _, h => heap_setCells r _ b (o + 1) _ (heap_setCell_same h v)

theorem putL_toList : ∀ (vs : List Value) (c : Array Value) (o : Nat), o + vs.length ≤ c.size → (putL c o vs).toList = c.toList.take o ++ vs ++ c.toList.drop (o + vs.length)
  | [], c, o, _ => by simp [putL]
  | v :: r, c, o, h => by
    simp only [List.length_cons] at h
    rw [putL, putL_toList r _ _ (by simp; omega)]
    have ho : o < c.toList.length := by simp; omega
    simp only [Array.toList_setIfInBounds, List.length_cons]
    rw [List.take_set, List.drop_set]
    rw [if_pos (by omega)]
    rw [List.take_succ_eq_append_getElem ho, List.set_append_right _ _ (by simp; omega)]
    have e : o - (List.take o c.toList).length = 0 := by simp; omega
    rw [e]
    simp only [List.set_cons_zero, List.append_assoc, List.cons_append, List.nil_append]
    rw [show o + 1 + r.length = o + (r.length + 1) from by omega]

theorem Keeps.setCells : ∀ (vs : List Value) (w : World) (b o : Nat), Keeps (· = b) w (w.setCells b o vs)
  | [], _, _, _ => Keeps.refl _ _
  | v :: r, w, b, o => (Keeps.setCell w ⟨b, o, none⟩ v).tr (Keeps.setCells r _ b (o + 1)) (fun _ h => h)

/-- one key more, at its place -/
def insAt (ks : List ByteArray) (i : Nat) (x : ByteArray) : List ByteArray := ks.take i ++ x :: ks.drop i

theorem insAt_length (ks : List ByteArray) (i : Nat) (x : ByteArray) (hi : i ≤ ks.length) : (insAt ks i x).length = ks.length + 1 := by
  simp [insAt]
  omega

theorem insert_key (v : Value) (ks : List ByteArray) (i : Nat) (x : ByteArray) (vb : Nat) (w : World) (h : Row w 9 1 v ks.length (ks.map Value.string)) (hi : i ≤ ks.length) (hl : ks.length < 1000000000000) (hvb : w.heap[vb]? = some (.cells #[.string x] 9 (0, 0))) (hne : v.ownBlock ≠ some vb) :
    Calls Tryz.prog 143 #[v, .int .i64 i, .slice (some ⟨vb, 0, none⟩) 1 1] w fun e w' => ∃ g cap, e = .returned (.slice (some ⟨g, 0, none⟩) (ks.length + 1) cap) ∧ Row w' 9 1 (.slice (some ⟨g, 0, none⟩) (ks.length + 1) cap) (ks.length + 1) ((insAt ks i x).map Value.string) ∧ Keeps (fun k => v.ownBlock = some k) w w' ∧ (v.ownBlock = some g ∨ w.heap.size ≤ g) := by
  have hvs : ∀ j u, [Value.string x][j]? = some u → w.cell? ⟨vb, 0 + j, none⟩ = some u := by
    intro j u hj
    rw [Nat.zero_add, cell_of_heap hvb]
    simpa using hj
  have h1v : ∀ u ∈ [Value.string x], u.oneCell' = true := by simp [Value.oneCell']
  have h1c : ∀ u ∈ ks.map Value.string, u.oneCell' = true := by
    intro u hu
    obtain ⟨k, _, rfl⟩ := List.mem_map.1 hu
    rfl
  have hmap : (insAt ks i x).map Value.string = (ks.map Value.string).take i ++ [Value.string x] ++ (ks.map Value.string).drop i := by simp [insAt, List.map_take, List.map_drop]
  have hlen2 : ((insAt ks i x).map Value.string).length = (ks.length + 1) * 1 := by rw [List.length_map, insAt_length ks i x hi]; omega
  rcases h.2 with ⟨rfl, h0⟩ | ⟨g, cap, cur, rfl, hg, hnc, hcm, hcs, htake⟩
  · obtain rfl : ks = [] := List.eq_nil_of_length_eq_zero h0
    have hi0 : i = 0 := by simpa using hi
    subst hi0
    refine (slInsert_end_grow none 0 0 vb 0 1 1 [] [.string x] w (by omega) (Nat.le_refl _) (by omega) (by omega) rfl rfl (fun _ => rfl) (fun a h => by cases h) hvs h1v).mono ?_
    rintro e w' ⟨rfl, rfl⟩
    have hge := grownCap_ge w (0 + 1) 0 9
    have hcmx := grownCap_le_maxLen w (0 + 1) 0 9 (by unfold maxLen; omega)
    refine ⟨_, _, rfl, ⟨hlen2, .inr ⟨_, _, _, rfl, Go.heap_alloc_new w.drew _, hge, hcmx, ?_, ?_⟩⟩, (Keeps.drew _ w).al _, .inr (Nat.le_refl _)⟩
    · simp [size_zeroCells, Value.cells]
      omega
    · simp [insAt]
  · have hcur : cap ≤ cur.size := by simpa using hcs
    have hcells : ∀ j u, (ks.map Value.string)[j]? = some u → w.cell? ⟨g, 0 + j, none⟩ = some u := by
      intro j u hj
      have hjl : j < ks.length := by simpa using (List.getElem?_eq_some_iff.1 hj).1
      rw [Nat.zero_add, h.cellAt j (by omega), hj]
    have hfz : ∀ j, w.frozen? ⟨g, j, none⟩ = false := fun j => frozen_of_heap hg j
    have hsp : ∀ j, j < cap → (w.cell? ⟨g, j, none⟩).isSome = true := fun j hj => by
      rw [cell_of_heap hg]
      simp
      omega
    have htake' : cur.toList.take ks.length = ks.map Value.string := by simpa using htake
    have hgv : g ≠ vb := by
      rintro rfl
      exact hne rfl
    by_cases hroom : ks.length + 1 ≤ cap
    · by_cases hin : i = ks.length
      · subst hin
        refine (slInsert_end_room g 0 ks.length cap vb 0 1 1 [.string x] w (by omega) hroom (by unfold maxLen at hcm; omega) rfl (fun j hj => hsp _ (by omega)) (fun j hj => hfz _) hvs h1v).mono ?_
        rintro e w' ⟨rfl, rfl⟩
        refine ⟨g, cap, rfl, ⟨hlen2, .inr ⟨g, cap, _, rfl, heap_setCells _ w g _ cur hg, hroom, hcm, by rw [putL_size]; exact hcs, ?_⟩⟩, (Keeps.setCells _ _ _ _).mono (fun k _ hk => by have hk' : k = g := hk; simp [Value.ownBlock, hk']), .inl rfl⟩
        rw [putL_toList _ _ _ (by simp; omega)]
        simp only [Nat.zero_add, Nat.mul_one, htake', List.length_cons, List.length_nil]
        rw [List.take_left' (by simp)]
        simp [insAt]
      · have hlt : i < ks.length := by omega
        refine (slInsert_shift g 0 ks.length cap i vb 0 1 1 (ks.map Value.string) [.string x] w hlt (by omega) hroom (by unfold maxLen at hcm; omega) (Ne.symm hgv) (by simp) rfl hcells (fun j hj => by rw [Nat.zero_add]; exact hsp _ (by omega)) (fun j hj => hfz _) hvs h1c h1v 9 9 1 cur.size (by simp [World.shape?, hvb]) (by simp [World.shape?, hg]) (by omega) (frozen_of_heap hvb 0) (frozen_of_heap hvb 1)).mono ?_
        rintro e w' ⟨rfl, rfl⟩
        have hg1 := heap_setCells (e := 9) (fz := (0, 0)) ((ks.map Value.string).drop i) w.drew g (0 + (i + 1)) cur hg
        have hg2 := heap_setCells [.string x] _ g (0 + i) _ hg1
        refine ⟨g, cap, rfl, ⟨hlen2, .inr ⟨g, cap, _, rfl, hg2, hroom, hcm, by rw [putL_size, putL_size]; exact hcs, ?_⟩⟩, (((Keeps.drew (· = g) w).tr (Keeps.setCells _ _ _ _) (fun _ h => h)).tr (Keeps.setCells _ _ _ _) (fun _ h => h)).mono (fun k _ hk => by have hk' : k = g := hk; simp [Value.ownBlock, hk']), .inl rfl⟩
        rw [putL_toList _ _ _ (by rw [putL_size]; simp; omega), putL_toList _ _ _ (by simp; omega)]
        rw [hmap]
        simp only [Nat.zero_add, Nat.mul_one, List.length_cons, List.length_nil, List.length_drop, List.length_map]
        have e1 : List.take i cur.toList = (ks.map Value.string).take i := by rw [← htake', List.take_take, Nat.min_eq_left (by omega)]
        have e2 : List.take i (List.take (i + 1) cur.toList ++ (ks.map Value.string).drop i ++ List.drop (i + 1 + (ks.length - i)) cur.toList) = (ks.map Value.string).take i := by
          rw [List.append_assoc, List.take_append_of_le_length (by simp; omega), List.take_take, Nat.min_eq_left (by omega), e1]
        have e3 : List.drop (i + 1) (List.take (i + 1) cur.toList ++ (ks.map Value.string).drop i ++ List.drop (i + 1 + (ks.length - i)) cur.toList) = (ks.map Value.string).drop i ++ List.drop (i + 1 + (ks.length - i)) cur.toList := by
          rw [List.append_assoc, List.drop_append_of_le_length (by simp; omega), List.drop_take, Nat.sub_self]
          simp
        rw [e2, e3, ← List.append_assoc]
        rw [List.take_left' (by simp; omega)]
    · by_cases hin : i = ks.length
      · subst hin
        refine (slInsert_end_grow (some ⟨g, 0, none⟩) ks.length cap vb 0 1 1 (ks.map Value.string) [.string x] w (by omega) hnc (by omega) (by omega) (by simp) rfl (fun h => by cases h) (fun a ha => by cases ha; intro j u hj; rw [Addr.add_lit]; exact hcells j u hj) hvs h1v).mono ?_
        rintro e w' ⟨rfl, rfl⟩
        have hge := grownCap_ge w (ks.length + 1) cap 9
        have hcmx := grownCap_le_maxLen w (ks.length + 1) cap 9 (by unfold maxLen; omega)
        refine ⟨_, _, rfl, ⟨hlen2, .inr ⟨_, _, _, rfl, Go.heap_alloc_new w.drew _, hge, hcmx, ?_, ?_⟩⟩, (Keeps.drew _ w).al _, .inr (Nat.le_refl _)⟩
        · simp [size_zeroCells, Value.cells]
          omega
        · simp only [Array.toList_append, Nat.mul_one]
          rw [List.take_left' (by simp)]
          simp [insAt]
      · have hlt : i < ks.length := by omega
        refine (slInsert_grow g 0 ks.length cap i vb 0 1 1 (ks.map Value.string) [.string x] w hlt (by omega) hnc (by omega) (by omega) (by simp) rfl hcells hvs h1c h1v).mono ?_
        rintro e w' ⟨rfl, rfl⟩
        have hge := grownCap_ge w (ks.length + 1) cap 9
        have hcmx := grownCap_le_maxLen w (ks.length + 1) cap 9 (by unfold maxLen; omega)
        generalize grownCap w (ks.length + 1) cap 9 = nc at hge hcmx
        have hsz0 : (((ks.map Value.string).take i).toArray ++ Builtin.zeroCells (Value.string ⟨#[]⟩).cells (ks.length + 1 - i) ++ Builtin.zeroCells (Value.string ⟨#[]⟩).cells (nc - (ks.length + 1))).size = nc := by
          simp [size_zeroCells, Value.cells]
          omega
        have htk : (((ks.map Value.string).take i).toArray ++ Builtin.zeroCells (Value.string ⟨#[]⟩).cells (ks.length + 1 - i) ++ Builtin.zeroCells (Value.string ⟨#[]⟩).cells (nc - (ks.length + 1))).toList.take i = (ks.map Value.string).take i := by
          simp only [Array.toList_append, List.append_assoc]
          rw [List.take_left' (by simp; omega)]
        generalize ((ks.map Value.string).take i).toArray ++ Builtin.zeroCells (Value.string ⟨#[]⟩).cells (ks.length + 1 - i) ++ Builtin.zeroCells (Value.string ⟨#[]⟩).cells (nc - (ks.length + 1)) = A at hsz0 htk ⊢
        have hg0 := heap_new w (.cells A 9)
        have hg1 := heap_setCells (e := 9) (fz := (0, 0)) [.string x] (w.alloc (.cells A 9)).drew w.heap.size i _ hg0
        have hg2 := heap_setCells (e := 9) (fz := (0, 0)) ((ks.map Value.string).drop i) (((w.alloc (.cells A 9)).drew.setCells w.heap.size i [.string x]).drew) w.heap.size (i + 1) _ hg1
        refine ⟨_, _, rfl, ⟨hlen2, .inr ⟨_, _, _, rfl, hg2, hge, hcmx, by rw [putL_size, putL_size, hsz0]; omega, ?_⟩⟩, ?_, .inr (Nat.le_refl _)⟩
        · rw [putL_toList _ _ _ (by rw [putL_size, hsz0]; simp; omega), putL_toList _ _ _ (by rw [hsz0]; simp; omega), hmap, htk]
          simp only [Nat.mul_one, List.length_cons, List.length_nil]
          have e2 : List.take (i + 1) ((ks.map Value.string).take i ++ [.string x] ++ List.drop (i + (0 + 1)) A.toList) = (ks.map Value.string).take i ++ [.string x] := List.take_left' (by simp; omega)
          rw [e2]
          exact List.take_left' (by simp; omega)
        · refine (((((Keeps.refl _ w).al _).dr).trans (Keeps.setCells _ _ _ _) (fun k hk h => ?_)).dr).trans (Keeps.setCells _ _ _ _) (fun k hk h => ?_)
          · have h' : k = w.heap.size := h
            omega
          · have h' : k = w.heap.size := h
            omega

end Go.Proofs.YtpagenipflmlfaaGreatDoor

/- slices.Sorted(maps.Keys(m)) at this program. -/

namespace Go.Proofs

open Go.RowKit Go.Maps Go.Sort Go.Shelf

theorem Tryz.sorts76 (m : Nat) : AnyZ.SortsIn Tryz.prog Tryz.sorted76_ren Fence.wide m :=
  ⟨fun blk off cap ss W hH hblk hsz => callsIn_wide.2 (AnyM.slices_Sort_string Tryz.sort119 blk off cap ss W hH hblk hsz),
   fun p cap W => callsIn_wide.2 (AnyM.slices_Sort_string_none Tryz.sort119 p cap W)⟩

theorem Tryz.maps_Keys_77 (mb : Option Nat) (W : World) : CallsIn Fence.wide 5 Tryz.prog 77 #[.map mb] W fun e w' => e = .returned (.func (.func 120) #[] #[.pointer (some ⟨W.heap.size, 0, none⟩)]) ∧ w' = W.alloc (.cells #[.map mb] 90) :=
  AnyZ.keys_in Tryz.keys77 Fence.wide 5 trivial rfl mb W

set_option maxHeartbeats 1000000 in
theorem Tryz.slices_Sorted_keys_76_77 {H : Type} (b nn : Nat) (D0 : DataW H) (R : Value → Option (DataW H × List MemPlace)) (w : World) (hown : w.ownsMap Tryz.prog 9 R b nn D0) (hmax : Maps.size D0 ≤ maxLen) (hbytes : Maps.size D0 * 16 ≤ 140737488355328) :
    CallsIn Fence.wide 5 Tryz.prog 76 #[.func (.func 120) #[] #[.pointer (some ⟨w.heap.size, 0, none⟩)]] (w.alloc (.cells #[.map (some b)] 90)) fun e w' => ∃ (v : Value) (ss : List (List UInt8)), e = .returned v ∧ ss.Perm (strKeys D0) ∧
      w'.ownsRow (w.alloc (.cells #[.map (some b)] 90)).heap.size 9 1 v ss.length ((ss.mergeSort (fun x y => decide (x ≤ y))).map encStr) ∧ (v = .slice none 0 0 ↔ ss = []) ∧ Below (w.alloc (.cells #[.map (some b)] 90)).heap.size (w.alloc (.cells #[.map (some b)] 90)) w' := by
  have hbl := hown.lt
  have hseq : SeqGives Fence.wide 2 Tryz.prog 120 #[.pointer (some ⟨w.heap.size, 0, none⟩)] encStr (fun ss => ss.Perm (strKeys D0)) (Maps.size D0) (w.alloc (.cells #[.map (some b)] 90)) :=
    AnyZ.keys_gives (ρ := Tryz.keys77_ren) { Tryz.keys77 with } Fence.wide _ trivial rfl (by omega) w.heap.size b nn D0 _ (by simp) (by simp) (by
      obtain ⟨es, clock, hb, Ft, hs, hD⟩ := hown
      exact ⟨es, clock, (Below.heap_alloc _ _ b hbl).trans hb, Ft, hs, hD⟩)
  exact AnyZ.sorted_in Tryz.sorted76 Fence.wide 5 trivial trivial trivial trivial rfl (by omega) (Tryz.sorts76 _) (enters_of Tryz.func119 (by kernel_rfl) rfl) 120 #[.pointer (some ⟨w.heap.size, 0, none⟩)] trivial (enters_of Tryz.func120 (by kernel_rfl) rfl) _ _ hmax hbytes _ hseq

theorem Tryz.maps_Keys_93 (mb : Option Nat) (W : World) : CallsIn Fence.wide 5 Tryz.prog 93 #[.map mb] W fun e w' => e = .returned (.func (.func 127) #[] #[.pointer (some ⟨W.heap.size, 0, none⟩)]) ∧ w' = W.alloc (.cells #[.map mb] 102) :=
  AnyZ.keys_in Tryz.keys93 Fence.wide 5 trivial rfl mb W

set_option maxHeartbeats 1000000 in
theorem Tryz.slices_Sorted_keys_76_93 {H : Type} (b nn : Nat) (D0 : DataW H) (R : Value → Option (DataW H × List MemPlace)) (w : World) (hown : w.ownsMap Tryz.prog 9 R b nn D0) (hmax : Maps.size D0 ≤ maxLen) (hbytes : Maps.size D0 * 16 ≤ 140737488355328) :
    CallsIn Fence.wide 5 Tryz.prog 76 #[.func (.func 127) #[] #[.pointer (some ⟨w.heap.size, 0, none⟩)]] (w.alloc (.cells #[.map (some b)] 102)) fun e w' => ∃ (v : Value) (ss : List (List UInt8)), e = .returned v ∧ ss.Perm (strKeys D0) ∧
      w'.ownsRow (w.alloc (.cells #[.map (some b)] 102)).heap.size 9 1 v ss.length ((ss.mergeSort (fun x y => decide (x ≤ y))).map encStr) ∧ (v = .slice none 0 0 ↔ ss = []) ∧ Below (w.alloc (.cells #[.map (some b)] 102)).heap.size (w.alloc (.cells #[.map (some b)] 102)) w' := by
  have hbl := hown.lt
  have hseq : SeqGives Fence.wide 2 Tryz.prog 127 #[.pointer (some ⟨w.heap.size, 0, none⟩)] encStr (fun ss => ss.Perm (strKeys D0)) (Maps.size D0) (w.alloc (.cells #[.map (some b)] 102)) :=
    AnyZ.keys_gives (ρ := Tryz.keys93_ren) { Tryz.keys93 with } Fence.wide _ trivial rfl (by omega) w.heap.size b nn D0 _ (by simp) (by simp) (by
      obtain ⟨es, clock, hb, Ft, hs, hD⟩ := hown
      exact ⟨es, clock, (Below.heap_alloc _ _ b hbl).trans hb, Ft, hs, hD⟩)
  exact AnyZ.sorted_in Tryz.sorted76 Fence.wide 5 trivial trivial trivial trivial rfl (by omega) (Tryz.sorts76 _) (enters_of Tryz.func119 (by kernel_rfl) rfl) 127 #[.pointer (some ⟨w.heap.size, 0, none⟩)] trivial (enters_of Tryz.func127 (by kernel_rfl) rfl) _ _ hmax hbytes _ hseq

end Go.Proofs

/- The keys that a work has put or deleted, in rising order. -/

namespace Go.Proofs.YtpagenipflmlfaaGreatDoor

open Go.RowKit Go.Maps Go.Sort Go.Shelf

/-- The map as the shelf's contracts read it. -/
theorem MapAt.owns {w : World} {b : Nat} {l : List (ByteArray × Value)} (h : MapAt Value.string w b l) (hk : ∀ p ∈ l, p.1.size ≤ maxLen) (hl : l.length ≤ maxLen) :
    ∃ D : DataW Unit, w.ownsMap Tryz.prog 9 (fun _ => some (.nil, [])) b l.length D ∧ (strKeys D).Perm (l.map (fun p => p.1.data.toList)) ∧ Maps.size D = l.length := by
  obtain ⟨es, clock, hb, hs, he⟩ := h
  have hsz : es.size = l.length := by
    have := congrArg List.length he
    simpa using this
  have hrd : ∀ x ∈ es.toList, ∃ s : ByteArray, x.key = .string s ∧ s.size ≤ maxLen ∧ WideElems.rd (H := Unit) Tryz.prog 9 (fun _ => some (.nil, [])) x = some (.string s.data.toList, .nil) := by
    intro x hx
    have : (x.key, x.val) ∈ l.map (fun p => (Value.string p.1, p.2)) := by rw [← he]; exact List.mem_map.2 ⟨x, hx, rfl⟩
    obtain ⟨p, hp, hpe⟩ := List.mem_map.1 this
    have hkey : x.key = .string p.1 := (Prod.mk.inj hpe).1.symm
    refine ⟨p.1, hkey, hk p hp, ?_⟩
    simp [WideElems.rd, hkey, WideMaps.keyOf_string_mk Tryz.underlying9 (hk p hp)]
  refine ⟨_, ⟨es, clock, hb, ⟨by omega, hs, fun x hx => ?_⟩, by omega, rfl⟩, ?_, ?_⟩
  · obtain ⟨s, _, _, h⟩ := hrd x hx
    exact ⟨_, h⟩
  · simp only [strKeys]
    have hp := (WideShapes.sorted_perm (es.toList.map (WideElems.rg (H := Unit) Tryz.prog 9 (fun _ => some (.nil, []))))).map (fun p => Go.strOf p.1)
    refine hp.trans ?_
    have e : (es.toList.map (WideElems.rg (H := Unit) Tryz.prog 9 (fun _ => some (.nil, [])))).map (fun p => Go.strOf p.1) = l.map (fun p => p.1.data.toList) := by
      rw [List.map_map]
      have e2 : l.map (fun p => p.1.data.toList) = (l.map (fun p => (Value.string p.1, p.2))).map (fun q => match q.1 with | .string s => s.data.toList | _ => []) := by
        rw [List.map_map]; rfl
      rw [e2, ← he, List.map_map]
      apply List.map_congr_left
      intro x hx
      obtain ⟨s, hkey, _, h⟩ := hrd x hx
      simp [WideElems.rg, h, hkey, Go.strOf]
    rw [e]
  · simp only [Maps.size]
    rw [(WideShapes.sorted_perm _).length_eq]
    simp [hsz]

theorem row_of_owns {w : World} {base : Nat} {e : TypeId} {size : Nat} {v : Value} {n : Nat} {xs : List Value} (h : w.ownsRow base e size v n xs) : Row w e size v n xs := by
  refine ⟨h.1, ?_⟩
  rcases h.2 with h2 | ⟨g, cap, cur, hv, _, hh, h3, h4, h5, h6⟩
  · exact .inl h2
  · exact .inr ⟨g, cap, cur, hv, hh, h3, h4, by omega, h6⟩

/-- The bytes' lists sorted, as keys. -/
def asKeys (ss : List (List UInt8)) : List ByteArray := (ss.mergeSort (fun x y => decide (x ≤ y))).map (fun l => ⟨l.toArray⟩)

theorem asKeys_rises {ss : List (List UInt8)} (hn : ss.Nodup) : Rises (asKeys ss) := by
  unfold Rises asKeys
  rw [List.pairwise_map]
  have h1 : (ss.mergeSort (fun x y => decide (x ≤ y))).Pairwise (fun x y => decide (x ≤ y) = true) := List.pairwise_mergeSort (fun a b c hab hbc => by simp at *; exact List.le_trans hab hbc) (fun a b => by simp; exact List.le_total a b) ss
  have h2 : (ss.mergeSort (fun x y => decide (x ≤ y))).Nodup := (List.mergeSort_perm ss _).nodup_iff.2 hn
  rw [List.nodup_iff_pairwise_ne] at h2
  refine (h1.and h2).imp ?_
  rintro a b ⟨hab, hne⟩
  rw [ltK_iff]
  have hab' : a ≤ b := by simpa using hab
  rcases List.le_iff_lt_or_eq.1 hab' with h | h
  · exact h
  · exact absurd h hne

theorem asKeys_perm {ss : List (List UInt8)} {ks : List ByteArray} (h : ss.Perm (ks.map (fun k => k.data.toList))) : (asKeys ss).Perm ks := by
  unfold asKeys
  have h1 : (ss.mergeSort (fun x y => decide (x ≤ y))).Perm (ks.map (fun k => k.data.toList)) := (List.mergeSort_perm ss _).trans h
  have h2 := h1.map (fun l : List UInt8 => (⟨l.toArray⟩ : ByteArray))
  have e : (ks.map (fun k => k.data.toList)).map (fun l : List UInt8 => (⟨l.toArray⟩ : ByteArray)) = ks := by
    rw [List.map_map]
    conv => rhs; rw [← List.map_id ks]
    apply List.map_congr_left
    intro k _
    simp
  rw [e] at h2
  exact h2

theorem nodup_map_inj {α β : Type} {f : α → β} (hf : ∀ a b, f a = f b → a = b) : ∀ {l : List α}, l.Nodup → (l.map f).Nodup
  | [], _ => by simp
  | x :: r, h => by
    simp only [List.nodup_cons, List.map_cons] at h ⊢
    refine ⟨fun hx => ?_, nodup_map_inj hf h.2⟩
    obtain ⟨y, hy, e⟩ := List.mem_map.1 hx
    exact h.1 (hf _ _ e ▸ hy)

theorem below_empty (ks : List ByteArray) : below ks ⟨#[]⟩ = 0 := by
  unfold below
  cases ks with
  | nil => rfl
  | cons k r =>
    have : ltK k ⟨#[]⟩ = false := by
      unfold ltK
      rw [ByteArray.toList_eq (⟨#[]⟩ : ByteArray)]
      cases k.toList <;> rfl
    simp [this]

set_option maxRecDepth 100000 in
set_option maxHeartbeats 800000 in
theorem keys_core (wb mb : Nat) (l : List (ByteArray × Value)) (w : World) (hc : w.cell? ⟨wb, 1, none⟩ = some (.map (some mb))) (hm : MapAt Value.string w mb l) (hk : ∀ p ∈ l, p.1.size ≤ maxLen) (hl : l.length ≤ 1000000) :
    Calls Tryz.prog 58 #[.pointer (some ⟨wb, 0, none⟩), .string ⟨#[]⟩] w fun e w' => ∃ v ks, e = .returned v ∧ Row w' 9 1 v ks.length (ks.map Value.string) ∧ Rises ks ∧ ks.Perm (l.map (·.1)) ∧ Keeps (fun _ => False) w w' ∧ (∀ k, v.ownBlock = some k → w.heap.size < k) := by
  have hnd := hm.nodup
  obtain ⟨D, hD1, hD2, hD3⟩ := hm.owns hk (by unfold maxLen; omega)
  have hsrt := fun W : World => True
  have hSK := Tryz.slices_Sorted_keys_76_93 mb l.length D _ w hD1 (by rw [hD3]; unfold maxLen; omega) (by rw [hD3]; omega)
  have HD2 : Hid ((strKeys D).Perm (l.map (fun p => p.1.data.toList))) := hD2
  have HND : Hid ((l.map (·.1)).Nodup) := hnd
  have HL : Hid (l.length ≤ 1000000) := hl
  clear hD1 hD2 hD3 hnd hm hk hl hsrt
  refine (callsIn_wide (n := 6)).1 ?_
  have hfK : Fence.wide.fn 93 := trivial
  have hfS : Fence.wide.fn 76 := trivial
  have hfB : Fence.wide.fn 92 := trivial
  refine callsIn_of_wp Tryz.func58 rfl trivial ?_ rfl
  simp only [Tryz.ntmps58, List.size_toArray, List.length_cons, List.length_nil, Nat.reduceAdd, Nat.reduceSub, Array.replicate_succ, Array.replicate_zero, List.push_toArray, List.append_toArray, List.nil_append, List.cons_append]
  gi_wp2_with (first
    | (gi_at_call 93; go_must (refine (Tryz.maps_Keys_93 _ _).mono ?_; rintro e w' ⟨rfl, rfl⟩))
    | (gi_at_call 76; go_must (refine hSK.mono ?_; rintro e w' ⟨v, ss, rfl, hS, hrow, hnil, hb⟩)))
  have hks : Rises (asKeys ss) := asKeys_rises ((hS.trans HD2.out).nodup_iff.2 (by
    have := HND.out
    have e : l.map (fun p => p.1.data.toList) = (l.map (·.1)).map (fun k => k.data.toList) := by rw [List.map_map]; rfl
    rw [e]
    exact nodup_map_inj (fun _ _ h => data_inj h) this))
  have hperm : (asKeys ss).Perm (l.map (·.1)) := asKeys_perm (by
    have := hS.trans HD2.out
    rwa [show l.map (fun p => p.1.data.toList) = (l.map (·.1)).map (fun k => k.data.toList) from by rw [List.map_map]; rfl] at this)
  have hlen : (asKeys ss).length = ss.length := by simp [asKeys]
  have hR : Row w' 9 1 v (asKeys ss).length ((asKeys ss).map Value.string) := by
    rw [hlen]
    have := row_of_owns hrow
    have e : (asKeys ss).map Value.string = (ss.mergeSort (fun x y => decide (x ≤ y))).map encStr := by simp [asKeys, Function.comp_def]
    rw [e]
    exact this
  have hb0 : below (asKeys ss) ⟨#[]⟩ = 0 := below_empty _
  have hsl : ss.length = l.length := by have := (hS.trans HD2.out).length_eq; simpa using this
  have hB := search_keys v (asKeys ss) ⟨#[]⟩ w' hR hks (by rw [hlen, hsl]; have := HL.out; omega)
  rw [hb0] at hB
  have hkk : Keeps (fun _ => False) w w' := ((Keeps.refl _ w).al _).tr (Keeps.below hb) (fun _ h => h)
  generalize memB (asKeys ss) ⟨#[]⟩ = mb1 at hB
  generalize asKeys ss = ks at *
  have HW : Hid (∀ k, v.ownBlock = some k → w.heap.size < k) := fun k hk => by have := (hrow.lt k hk).1; simp at this; omega
  clear hSK hS hrow hnil hb hb0 hsl hlen
  have HR : Hid (Row w' 9 1 v ks.length (ks.map Value.string)) := hR
  have HK : Hid (Rises ks) := hks
  have HP : Hid (ks.Perm (l.map (·.1))) := hperm
  have HKK : Hid (Keeps (fun _ => False) w w') := hkk
  rcases hR.shape with ⟨rfl, h0⟩ | ⟨g, cap, rfl, hcap1, hcap2⟩
  · clear hR hks hperm hkk
    gi_wp2_with (gi_at_call 92; go_must (refine (callsIn_wide.2 hB).mono ?_; rintro e w2 ⟨rfl, hk2⟩))
    go_ret
    exact ⟨_, ks, rfl, HR.out.kept hk2 (fun _ _ h => h), HK.out, HP.out, HKK.out.tr hk2 (fun _ h => h), HW.out⟩
  · clear hR hks hperm hkk
    unfold maxLen at hcap2
    gi_wp2_with (gi_at_call 92; go_must (refine (callsIn_wide.2 hB).mono ?_; rintro e w2 ⟨rfl, hk2⟩))
    go_ret
    exact ⟨_, ks, rfl, HR.out.kept hk2 (fun _ _ h => h), HK.out, HP.out, HKK.out.tr hk2 (fun _ h => h), HW.out⟩

end Go.Proofs.YtpagenipflmlfaaGreatDoor

/- A version more: how the store lies behind it. -/

namespace Go.Proofs.YtpagenipflmlfaaGreatDoor

open Go.RowKit

section

variable {α β : Type} [DecidableEq α]

theorem del_put : ∀ (l : List (α × β)) (k : α) (v : β), del (put l k v) k = del l k
  | [], k, v => by simp [put, del]
  | (a, x) :: r, k, v => by
    unfold put
    by_cases e : a = k
    · rw [if_pos e]
      simp [del, e]
    · rw [if_neg e]
      simp [del, e, del_put r k v]

theorem perm_of_look : ∀ {l : List (α × β)} {k : α} {x : β}, look l k = some x → l.Perm ((k, x) :: del l k)
  | (a, y) :: r, k, x, h => by
    unfold look at h
    unfold del
    by_cases e : a = k
    · rw [if_pos e] at h ⊢
      subst e
      cases h
      exact List.Perm.refl _
    · rw [if_neg e] at h ⊢
      exact ((perm_of_look h).cons _).trans (List.Perm.swap _ _ _)

theorem look_put_same (l : List (α × β)) (k : α) (v : β) : look (put l k v) k = some v := by rw [look_put, if_pos rfl]

end

/-- the slice that stands at a key -/
def slOf (hist : List (ByteArray × HsR)) (key : ByteArray) : Value := ((look hist key).map HsR.sl).getD (.slice none 0 0)

/-- the store's blocks but for those of the list of keys and of the key's versions -/
def Rep.restOf (R : Rep) (key : ByteArray) : List Nat := R.sb :: (R.fpWorks ++ (R.vm.toList ++ (del R.hist key).flatMap (fun p => p.2.sl.ownBlock.toList)))

theorem hist_perm (hist : List (ByteArray × HsR)) (key : ByteArray) : (hist.flatMap (fun p => p.2.sl.ownBlock.toList)).Perm ((slOf hist key).ownBlock.toList ++ (del hist key).flatMap (fun p => p.2.sl.ownBlock.toList)) := by
  unfold slOf
  cases h : look hist key with
  | none =>
    rw [del_none h]
    simp [Value.ownBlock]
  | some x =>
    have := (perm_of_look h).flatMap_right (fun p => p.2.sl.ownBlock.toList)
    simpa using this

theorem fp_perm (R : Rep) (key : ByteArray) : R.fp.Perm (R.kv.ownBlock.toList ++ ((slOf R.hist key).ownBlock.toList ++ R.restOf key)) := by
  unfold Rep.fp Rep.fpPast Rep.restOf
  have h1 := hist_perm R.hist key
  have h2 : (R.fpWorks ++ (R.kv.ownBlock.toList ++ R.vm.toList ++ R.hist.flatMap (fun p => p.2.sl.ownBlock.toList))).Perm (R.kv.ownBlock.toList ++ ((slOf R.hist key).ownBlock.toList ++ (R.fpWorks ++ (R.vm.toList ++ (del R.hist key).flatMap (fun p => p.2.sl.ownBlock.toList))))) := by
    refine (List.Perm.append_left _ (List.Perm.append_left _ h1)).trans ?_
    generalize (del R.hist key).flatMap (fun p => p.2.sl.ownBlock.toList) = D
    generalize (slOf R.hist key).ownBlock.toList = B
    generalize R.kv.ownBlock.toList = A
    generalize R.vm.toList = V
    generalize R.fpWorks = F
    -- F ++ (A ++ V ++ (B ++ D)) ~ A ++ (B ++ (F ++ (V ++ D)))
    rw [List.append_assoc]
    refine (List.perm_append_comm_assoc F A _).trans ?_
    refine List.Perm.append_left _ ?_
    refine (List.Perm.append_left F (List.perm_append_comm_assoc V B D)).trans ?_
    exact List.perm_append_comm_assoc F B _
  refine (h2.cons _).trans ?_
  refine (List.perm_middle.symm).trans ?_
  refine List.Perm.append_left _ ?_
  exact List.perm_middle.symm

theorem hist_nodup {w : World} {kv : Value} {keys : List ByteArray} {vm : Option Nat} {hist : List (ByteArray × HsR)} (h : PastAt w kv keys vm hist) : (hist.map (·.1)).Nodup := by
  have := h.histMap.nodup
  simpa [List.map_map, Function.comp_def] using this

/-- A key has one version more. -/
theorem StoreAt.added {w w' : World} {R : Rep} {S : Nat → Prop} (key : ByteArray) {kv' sl' : Value} {keys' : List ByteArray} {b : Nat} {vs' : List Ver} (h : StoreAt w R) (hk : Keeps S w w')
    (hS : ∀ k, k < w.heap.size → S k → k = R.sb ∨ R.kv.ownBlock = some k ∨ R.vm = some k ∨ (slOf R.hist key).ownBlock = some k)
    (ht : w'.heap[R.sb]? = some (.cells (topCells { R with kv := kv', vm := some b }) 65 (0, 0)))
    (hkr : Row w' 9 1 kv' keys'.length (keys'.map Value.string))
    (hm : MapAt Value.string w' b (put (R.hist.map fun p => (p.1, p.2.sl)) key sl'))
    (hsl : Row w' 107 3 sl' vs'.length (vs'.flatMap Ver.cells))
    (c1 : ∀ g, kv'.ownBlock = some g → R.kv.ownBlock = some g ∨ w.heap.size ≤ g) (c2 : ∀ g, sl'.ownBlock = some g → (slOf R.hist key).ownBlock = some g ∨ w.heap.size ≤ g) (c3 : R.vm = some b ∨ R.vm = none ∧ w.heap.size ≤ b)
    (c4 : (kv'.ownBlock.toList ++ sl'.ownBlock.toList ++ [b]).Nodup) :
    StoreAt w' { R with kv := kv', keys := keys', vm := some b, hist := put R.hist key ⟨sl', vs'⟩ } := by
  have hlt := fp_lt h
  have hnd0 := h.nodup
  have hnd := ((fp_perm R key).nodup_iff).1 hnd0
  rw [List.nodup_append, List.nodup_append] at hnd
  obtain ⟨-, ⟨-, hrest, hd2⟩, hd1⟩ := hnd
  have hrlt : ∀ k ∈ R.restOf key, k < w.heap.size := fun k hk1 => hlt k ((fp_perm R key).mem_iff.2 (List.mem_append_right _ (List.mem_append_right _ hk1)))
  have hrs : R.sb ∈ R.restOf key := by simp [Rep.restOf]
  -- what lies elsewhere is kept
  have hns : ∀ k ∈ R.fpWorks, ¬ S k := by
    intro k hk1 hs
    have hkr1 : k ∈ R.restOf key := by simp [Rep.restOf, hk1]
    rcases hS k (hrlt k hkr1) hs with e | e | e | e
    · have := hrest
      simp only [Rep.restOf, List.nodup_cons, List.mem_append, not_or] at this
      exact this.1.1 (e ▸ hk1)
    · exact hd1 k (by simp [e]) k (List.mem_append_right _ hkr1) rfl
    · have := hrest
      simp only [Rep.restOf, List.nodup_cons, List.nodup_append] at this
      exact this.2.2.2 k hk1 k (by simp [e]) rfl
    · exact hd2 k (by simp [e]) k hkr1 rfl
  have hnh : ∀ p ∈ R.hist, p.1 ≠ key → ∀ g, p.2.sl.ownBlock = some g → ¬ S g := by
    intro p hp hpk g hg hs
    have hdel : p ∈ del R.hist key := by
      rw [del_filter _ (hist_nodup h.past)]
      exact List.mem_filter.2 ⟨hp, by simpa using hpk⟩
    have hgd : g ∈ (del R.hist key).flatMap (fun p => p.2.sl.ownBlock.toList) := List.mem_flatMap.2 ⟨p, hdel, by simp [hg]⟩
    have hkr1 : g ∈ R.restOf key := by simp only [Rep.restOf, List.mem_cons, List.mem_append]; exact .inr (.inr (.inr hgd))
    rcases hS g (hrlt g hkr1) hs with e | e | e | e
    · have := hrest
      simp only [Rep.restOf, List.nodup_cons, List.mem_append, not_or] at this
      exact this.1.2.2 (e ▸ hgd)
    · exact hd1 g (by simp [e]) g (List.mem_append_right _ hkr1) rfl
    · have := hrest
      simp only [Rep.restOf, List.nodup_cons, List.nodup_append] at this
      exact this.2.2.1.2.2 g (by simp [e]) g hgd rfl
    · exact hd2 g (by simp [e]) g hkr1 rfl
  have hw := h.works.kept hk hns
  refine ⟨ht, ⟨hw.worksMap, hw.worksEach, hw.pinsMap, hw.copyMap⟩, ⟨hkr, ?_, ?_⟩, ?_⟩
  · show MapAt _ _ _ _
    have e : (put R.hist key ⟨sl', vs'⟩).map (fun p => (p.1, p.2.sl)) = put (R.hist.map fun p => (p.1, p.2.sl)) key sl' := (put_map HsR.sl R.hist key ⟨sl', vs'⟩).symm
    rw [e]
    exact hm
  · intro p hp
    rcases mem_put (hist_nodup h.past) hp with rfl | ⟨hp1, hp2⟩
    · exact hsl
    · exact (h.past.histEach p hp1).kept hk (hnh p hp1 hp2)
  · -- the blocks
    refine ((fp_perm { R with kv := kv', keys := keys', vm := some b, hist := put R.hist key ⟨sl', vs'⟩ } key).nodup_iff).2 ?_
    have e1 : slOf (put R.hist key ⟨sl', vs'⟩) key = sl' := by unfold slOf; rw [look_put_same]; rfl
    have e2 : Rep.restOf { R with kv := kv', keys := keys', vm := some b, hist := put R.hist key ⟨sl', vs'⟩ } key = R.sb :: (R.fpWorks ++ (b :: (del R.hist key).flatMap (fun p => p.2.sl.ownBlock.toList))) := by
      simp only [Rep.restOf, del_put]
      rfl
    show (kv'.ownBlock.toList ++ ((slOf (put R.hist key ⟨sl', vs'⟩) key).ownBlock.toList ++ Rep.restOf { R with kv := kv', keys := keys', vm := some b, hist := put R.hist key ⟨sl', vs'⟩ } key)).Nodup
    rw [e1, e2]
    -- the rest, with b
    have hbase : (R.sb :: (R.fpWorks ++ (b :: (del R.hist key).flatMap (fun p => p.2.sl.ownBlock.toList)))).Nodup ∧ ∀ k, k ∈ R.sb :: (R.fpWorks ++ (b :: (del R.hist key).flatMap (fun p => p.2.sl.ownBlock.toList))) → k ∈ R.restOf key ∨ k = b := by
      constructor
      · rcases c3 with e | ⟨e, hbw⟩
        · have : Rep.restOf R key = R.sb :: (R.fpWorks ++ (b :: (del R.hist key).flatMap (fun p => p.2.sl.ownBlock.toList))) := by simp [Rep.restOf, e]
          rw [← this]
          exact hrest
        · have e0 : Rep.restOf R key = R.sb :: (R.fpWorks ++ (del R.hist key).flatMap (fun p => p.2.sl.ownBlock.toList)) := by simp [Rep.restOf, e]
          have hbn : b ∉ R.restOf key := fun hb => by have := hrlt b hb; omega
          have hpm : (R.sb :: (R.fpWorks ++ (b :: (del R.hist key).flatMap (fun p => p.2.sl.ownBlock.toList)))).Perm (b :: R.restOf key) := by
            rw [e0]
            exact (List.perm_middle.cons _).trans (List.Perm.swap _ _ _)
          rw [hpm.nodup_iff]
          exact List.nodup_cons.2 ⟨hbn, hrest⟩
      · intro k hk1
        simp only [Rep.restOf, List.mem_cons, List.mem_append] at hk1 ⊢
        rcases hk1 with h | h | h | h
        · exact .inl (.inl h)
        · exact .inl (.inr (.inl h))
        · exact .inr h
        · exact .inl (.inr (.inr (.inr h)))
    simp only [List.append_assoc, List.nodup_append] at c4
    obtain ⟨d1, ⟨d2, -, d4⟩, d5⟩ := c4
    refine List.nodup_append.2 ⟨d1, List.nodup_append.2 ⟨d2, hbase.1, ?_⟩, ?_⟩
    · intro a ha c hc e
      subst e
      have ha' : sl'.ownBlock = some a := by simpa using ha
      rcases hbase.2 a hc with hr | rfl
      · rcases c2 a ha' with h2 | h2
        · exact hd2 a (by simp [h2]) a hr rfl
        · have := hrlt a hr; omega
      · exact d4 a ha a (by simp) rfl
    · intro a ha c hc e
      subst e
      have ha' : kv'.ownBlock = some a := by simpa using ha
      rcases List.mem_append.1 hc with hc | hc
      · exact d5 a ha a (List.mem_append_left _ hc) rfl
      · rcases hbase.2 a hc with hr | rfl
        · rcases c1 a ha' with h2 | h2
          · exact hd1 a (by simp [h2]) a (List.mem_append_right _ hr) rfl
          · have := hrlt a hr; omega
        · exact d5 a ha a (List.mem_append_right _ (by simp)) rfl

end Go.Proofs.YtpagenipflmlfaaGreatDoor
