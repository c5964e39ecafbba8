/- The library's Insert, of one key. -/
import Derived.Test.YtfcocbcihhdbkaaSA
namespace Go.Proofs.Ytfcocbcihhdbkaa
open Go.RowKit

/-- cells laid one behind the other -/
def putL : Array Value → Nat → List Value → Array Value
  | c, _, [] => c
  | c, o, v :: r => putL (c.setIfInBounds o v) (o + 1) r

theorem putL_size : ∀ (vs : List Value) (c : Array Value) (o : Nat), (putL c o vs).size = c.size
  | [], c, o => rfl
  | v :: r, c, o => by simp [putL, putL_size r]

theorem heap_setCells {e : TypeId} {fz : Nat × Nat} : ∀ (vs : List Value) (w : World) (b o : Nat) (c : Array Value), w.heap[b]? = some (.cells c e fz) → (w.setCells b o vs).heap[b]? = some (.cells (putL c o vs) e fz)
  | [], _, _, _, _, h => h
  | v :: r, _, b, o, _, h => heap_setCells r _ b (o + 1) _ (heap_setCell_same h v)

theorem putL_toList : ∀ (vs : List Value) (c : Array Value) (o : Nat), o + vs.length ≤ c.size → (putL c o vs).toList = c.toList.take o ++ vs ++ c.toList.drop (o + vs.length)
  | [], c, o, _ => by simp [putL]
  | v :: r, c, o, h => by
    simp only [List.length_cons] at h
    rw [putL, putL_toList r _ _ (by simp; omega)]
    have ho : o < c.toList.length := by simp; omega
    simp only [Array.toList_setIfInBounds, List.length_cons]
    rw [List.take_set, List.drop_set]
    rw [if_pos (by omega)]
    rw [List.take_succ_eq_append_getElem ho, List.set_append_right _ _ (by simp; omega)]
    have e : o - (List.take o c.toList).length = 0 := by simp; omega
    rw [e]
    simp only [List.set_cons_zero, List.append_assoc, List.cons_append, List.nil_append]
    rw [show o + 1 + r.length = o + (r.length + 1) from by omega]

theorem Keeps.setCells : ∀ (vs : List Value) (w : World) (b o : Nat), Keeps (· = b) w (w.setCells b o vs)
  | [], _, _, _ => Keeps.refl _ _
  | v :: r, w, b, o => (Keeps.setCell w ⟨b, o, none⟩ v).tr (Keeps.setCells r _ b (o + 1)) (fun _ h => h)

/-- one key more, at its place -/
def insAt (ks : List ByteArray) (i : Nat) (x : ByteArray) : List ByteArray := ks.take i ++ x :: ks.drop i

theorem insAt_length (ks : List ByteArray) (i : Nat) (x : ByteArray) (hi : i ≤ ks.length) : (insAt ks i x).length = ks.length + 1 := by
  simp [insAt]
  omega

theorem insert_key (v : Value) (ks : List ByteArray) (i : Nat) (x : ByteArray) (vb : Nat) (w : World) (h : Row w 9 1 v ks.length (ks.map Value.string)) (hi : i ≤ ks.length) (hl : ks.length < 1000000000000) (hvb : w.heap[vb]? = some (.cells #[.string x] 9 (0, 0))) (hne : v.ownBlock ≠ some vb) :
    Calls Try.prog 79 #[v, .int .i64 i, .slice (some ⟨vb, 0, none⟩) 1 1] w fun e w' => ∃ g cap, e = .returned (.slice (some ⟨g, 0, none⟩) (ks.length + 1) cap) ∧ Row w' 9 1 (.slice (some ⟨g, 0, none⟩) (ks.length + 1) cap) (ks.length + 1) ((insAt ks i x).map Value.string) ∧ Keeps (fun k => v.ownBlock = some k) w w' ∧ (v.ownBlock = some g ∨ w.heap.size ≤ g) := by
  have hvs : ∀ j u, [Value.string x][j]? = some u → w.cell? ⟨vb, 0 + j, none⟩ = some u := by
    intro j u hj
    rw [Nat.zero_add, cell_of_heap hvb]
    simpa using hj
  have h1v : ∀ u ∈ [Value.string x], u.oneCell' = true := by simp [Value.oneCell']
  have h1c : ∀ u ∈ ks.map Value.string, u.oneCell' = true := by
    intro u hu
    obtain ⟨k, _, rfl⟩ := List.mem_map.1 hu
    rfl
  have hmap : (insAt ks i x).map Value.string = (ks.map Value.string).take i ++ [Value.string x] ++ (ks.map Value.string).drop i := by simp [insAt, List.map_take, List.map_drop]
  have hlen2 : ((insAt ks i x).map Value.string).length = (ks.length + 1) * 1 := by rw [List.length_map, insAt_length ks i x hi]; omega
  rcases h.2 with ⟨rfl, h0⟩ | ⟨g, cap, cur, rfl, hg, hnc, hcm, hcs, htake⟩
  · obtain rfl : ks = [] := List.eq_nil_of_length_eq_zero h0
    have hi0 : i = 0 := by simpa using hi
    subst hi0
    refine (slInsert_end_grow none 0 0 vb 0 1 1 [] [.string x] w (by omega) (Nat.le_refl _) (by omega) (by omega) rfl rfl (fun _ => rfl) (fun a h => by cases h) hvs h1v).mono ?_
    rintro e w' ⟨rfl, rfl⟩
    have hge := grownCap_ge w (0 + 1) 0 9
    have hcmx := grownCap_le_maxLen w (0 + 1) 0 9 (by unfold maxLen; omega)
    refine ⟨_, _, rfl, ⟨hlen2, .inr ⟨_, _, _, rfl, Go.heap_alloc_new w.drew _, hge, hcmx, ?_, ?_⟩⟩, (Keeps.drew _ w).al _, .inr (Nat.le_refl _)⟩
    · simp [size_zeroCells, Value.cells]
      omega
    · simp [insAt]
  · have hcur : cap ≤ cur.size := by simpa using hcs
    have hcells : ∀ j u, (ks.map Value.string)[j]? = some u → w.cell? ⟨g, 0 + j, none⟩ = some u := by
      intro j u hj
      have hjl : j < ks.length := by simpa using (List.getElem?_eq_some_iff.1 hj).1
      rw [Nat.zero_add, h.cellAt j (by omega), hj]
    have hfz : ∀ j, w.frozen? ⟨g, j, none⟩ = false := fun j => frozen_of_heap hg j
    have hsp : ∀ j, j < cap → (w.cell? ⟨g, j, none⟩).isSome = true := fun j hj => by
      rw [cell_of_heap hg]
      simp
      omega
    have htake' : cur.toList.take ks.length = ks.map Value.string := by simpa using htake
    have hgv : g ≠ vb := by
      rintro rfl
      exact hne rfl
    by_cases hroom : ks.length + 1 ≤ cap
    · by_cases hin : i = ks.length
      · subst hin
        refine (slInsert_end_room g 0 ks.length cap vb 0 1 1 [.string x] w (by omega) hroom (by unfold maxLen at hcm; omega) rfl (fun j hj => hsp _ (by omega)) (fun j hj => hfz _) hvs h1v).mono ?_
        rintro e w' ⟨rfl, rfl⟩
        refine ⟨g, cap, rfl, ⟨hlen2, .inr ⟨g, cap, _, rfl, heap_setCells _ w g _ cur hg, hroom, hcm, by rw [putL_size]; exact hcs, ?_⟩⟩, (Keeps.setCells _ _ _ _).mono (fun k _ hk => by have hk' : k = g := hk; simp [Value.ownBlock, hk']), .inl rfl⟩
        rw [putL_toList _ _ _ (by simp; omega)]
        simp only [Nat.zero_add, Nat.mul_one, htake', List.length_cons, List.length_nil]
        rw [List.take_left' (by simp)]
        simp [insAt]
      · have hlt : i < ks.length := by omega
        refine (slInsert_shift g 0 ks.length cap i vb 0 1 1 (ks.map Value.string) [.string x] w hlt (by omega) hroom (by unfold maxLen at hcm; omega) (Ne.symm hgv) (by simp) rfl hcells (fun j hj => by rw [Nat.zero_add]; exact hsp _ (by omega)) (fun j hj => hfz _) hvs h1c h1v 9 9 1 cur.size (by simp [World.shape?, hvb]) (by simp [World.shape?, hg]) (by omega) (frozen_of_heap hvb 0) (frozen_of_heap hvb 1)).mono ?_
        rintro e w' ⟨rfl, rfl⟩
        have hg1 := heap_setCells (e := 9) (fz := (0, 0)) ((ks.map Value.string).drop i) w.drew g (0 + (i + 1)) cur hg
        have hg2 := heap_setCells [.string x] _ g (0 + i) _ hg1
        refine ⟨g, cap, rfl, ⟨hlen2, .inr ⟨g, cap, _, rfl, hg2, hroom, hcm, by rw [putL_size, putL_size]; exact hcs, ?_⟩⟩, (((Keeps.drew (· = g) w).tr (Keeps.setCells _ _ _ _) (fun _ h => h)).tr (Keeps.setCells _ _ _ _) (fun _ h => h)).mono (fun k _ hk => by have hk' : k = g := hk; simp [Value.ownBlock, hk']), .inl rfl⟩
        rw [putL_toList _ _ _ (by rw [putL_size]; simp; omega), putL_toList _ _ _ (by simp; omega)]
        rw [hmap]
        simp only [Nat.zero_add, Nat.mul_one, List.length_cons, List.length_nil, List.length_drop, List.length_map]
        have e1 : List.take i cur.toList = (ks.map Value.string).take i := by rw [← htake', List.take_take, Nat.min_eq_left (by omega)]
        have e2 : List.take i (List.take (i + 1) cur.toList ++ (ks.map Value.string).drop i ++ List.drop (i + 1 + (ks.length - i)) cur.toList) = (ks.map Value.string).take i := by
          rw [List.append_assoc, List.take_append_of_le_length (by simp; omega), List.take_take, Nat.min_eq_left (by omega), e1]
        have e3 : List.drop (i + 1) (List.take (i + 1) cur.toList ++ (ks.map Value.string).drop i ++ List.drop (i + 1 + (ks.length - i)) cur.toList) = (ks.map Value.string).drop i ++ List.drop (i + 1 + (ks.length - i)) cur.toList := by
          rw [List.append_assoc, List.drop_append_of_le_length (by simp; omega), List.drop_take, Nat.sub_self]
          simp
        rw [e2, e3, ← List.append_assoc]
        rw [List.take_left' (by simp; omega)]
    · by_cases hin : i = ks.length
      · subst hin
        refine (slInsert_end_grow (some ⟨g, 0, none⟩) ks.length cap vb 0 1 1 (ks.map Value.string) [.string x] w (by omega) hnc (by omega) (by omega) (by simp) rfl (fun h => by cases h) (fun a ha => by cases ha; intro j u hj; rw [Addr.add_lit]; exact hcells j u hj) hvs h1v).mono ?_
        rintro e w' ⟨rfl, rfl⟩
        have hge := grownCap_ge w (ks.length + 1) cap 9
        have hcmx := grownCap_le_maxLen w (ks.length + 1) cap 9 (by unfold maxLen; omega)
        refine ⟨_, _, rfl, ⟨hlen2, .inr ⟨_, _, _, rfl, Go.heap_alloc_new w.drew _, hge, hcmx, ?_, ?_⟩⟩, (Keeps.drew _ w).al _, .inr (Nat.le_refl _)⟩
        · simp [size_zeroCells, Value.cells]
          omega
        · simp only [Array.toList_append, Nat.mul_one]
          rw [List.take_left' (by simp)]
          simp [insAt]
      · have hlt : i < ks.length := by omega
        refine (slInsert_grow g 0 ks.length cap i vb 0 1 1 (ks.map Value.string) [.string x] w hlt (by omega) hnc (by omega) (by omega) (by simp) rfl hcells hvs h1c h1v).mono ?_
        rintro e w' ⟨rfl, rfl⟩
        have hge := grownCap_ge w (ks.length + 1) cap 9
        have hcmx := grownCap_le_maxLen w (ks.length + 1) cap 9 (by unfold maxLen; omega)
        generalize grownCap w (ks.length + 1) cap 9 = nc at hge hcmx
        have hsz0 : (((ks.map Value.string).take i).toArray ++ Builtin.zeroCells (Value.string ⟨#[]⟩).cells (ks.length + 1 - i) ++ Builtin.zeroCells (Value.string ⟨#[]⟩).cells (nc - (ks.length + 1))).size = nc := by
          simp [size_zeroCells, Value.cells]
          omega
        have htk : (((ks.map Value.string).take i).toArray ++ Builtin.zeroCells (Value.string ⟨#[]⟩).cells (ks.length + 1 - i) ++ Builtin.zeroCells (Value.string ⟨#[]⟩).cells (nc - (ks.length + 1))).toList.take i = (ks.map Value.string).take i := by
          simp only [Array.toList_append, List.append_assoc]
          rw [List.take_left' (by simp; omega)]
        generalize ((ks.map Value.string).take i).toArray ++ Builtin.zeroCells (Value.string ⟨#[]⟩).cells (ks.length + 1 - i) ++ Builtin.zeroCells (Value.string ⟨#[]⟩).cells (nc - (ks.length + 1)) = A at hsz0 htk ⊢
        have hg0 := heap_new w (.cells A 9)
        have hg1 := heap_setCells (e := 9) (fz := (0, 0)) [.string x] (w.alloc (.cells A 9)).drew w.heap.size i _ hg0
        have hg2 := heap_setCells (e := 9) (fz := (0, 0)) ((ks.map Value.string).drop i) (((w.alloc (.cells A 9)).drew.setCells w.heap.size i [.string x]).drew) w.heap.size (i + 1) _ hg1
        refine ⟨_, _, rfl, ⟨hlen2, .inr ⟨_, _, _, rfl, hg2, hge, hcmx, by rw [putL_size, putL_size, hsz0]; omega, ?_⟩⟩, ?_, .inr (Nat.le_refl _)⟩
        · rw [putL_toList _ _ _ (by rw [putL_size, hsz0]; simp; omega), putL_toList _ _ _ (by rw [hsz0]; simp; omega), hmap, htk]
          simp only [Nat.mul_one, List.length_cons, List.length_nil]
          have e2 : List.take (i + 1) ((ks.map Value.string).take i ++ [.string x] ++ List.drop (i + (0 + 1)) A.toList) = (ks.map Value.string).take i ++ [.string x] := List.take_left' (by simp; omega)
          rw [e2]
          exact List.take_left' (by simp; omega)
        · refine (((((Keeps.refl _ w).al _).dr).trans (Keeps.setCells _ _ _ _) (fun k hk h => ?_)).dr).trans (Keeps.setCells _ _ _ _) (fun k hk h => ?_)
          · have h' : k = w.heap.size := h
            omega
          · have h' : k = w.heap.size := h
            omega

end Go.Proofs.Ytfcocbcihhdbkaa
