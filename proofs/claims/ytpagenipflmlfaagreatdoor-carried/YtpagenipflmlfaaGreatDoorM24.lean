import Derived.Test.YtpagenipflmlfaaGreatDoorM23

/- Scan, from whatever key on, with whatever bound. -/

namespace Go.Proofs.YtpagenipflmlfaaGreatDoor

open Go.RowKit Go.Shelf

attribute [local go_sem] Oper.semAt_some

/-- at most so many, if that is 0 or above -/
def takeM {α : Type} (most : Int) (l : List α) : List α := if most < 0 then l else l.take most.toNat

/-- what Scan leaves -/
def ScanPostG (R : Rep) (x : WkR) (from_ : ByteArray) (most : Int) (w : World) (e : Ending) (w' : World) : Prop :=
  ∃ v xs kw, e = .returned (.tuple #[v, .int .i64 0]) ∧ Rises kw ∧ kw.Perm (x.writes.map (·.1)) ∧ MergeAt (R.keys.drop (below R.keys from_)) (kw.drop (below kw from_)) [] [] xs ∧
    Row w' 89 2 v (takeM most (xs.filterMap (pairOf x.writes (versOf R.hist) x.began))).length ((takeM most (xs.filterMap (pairOf x.writes (versOf R.hist) x.began))).flatMap pairCells) ∧ (∀ g, v.ownBlock = some g → w.heap.size ≤ g) ∧ Keeps (fun _ => False) w w'

/-- a merge can be brought to its end -/
theorem merge_whole {a b : List ByteArray} : ∀ (n : Nat) (a' b' pre : List ByteArray), a'.length + b'.length ≤ n → MergeAt a b a' b' pre → ∃ rest, MergeAt a b [] [] (pre ++ rest)
  | 0, a', b', pre, hn, h => by
    have e1 : a' = [] := List.eq_nil_of_length_eq_zero (by omega)
    have e2 : b' = [] := List.eq_nil_of_length_eq_zero (by omega)
    subst e1; subst e2
    exact ⟨[], by simpa using h⟩
  | n + 1, a', b', pre, hn, h => by
    by_cases hne : a' ≠ [] ∨ b' ≠ []
    · have h1 := merge_less a' b' hne
      obtain ⟨rest, h2⟩ := merge_whole n _ _ _ (by omega) (h.step hne)
      exact ⟨leastL a' b' :: rest, by simpa using h2⟩
    · have e1 : a' = [] := Classical.byContradiction (fun e => hne (.inl e))
      have e2 : b' = [] := Classical.byContradiction (fun e => hne (.inr e))
      subst e1; subst e2
      exact ⟨[], by simpa using h⟩

theorem takeM_all {α : Type} {most : Int} {l : List α} (h : most < 0 ∨ (l.length : Int) ≤ most) : takeM most l = l := by
  unfold takeM
  split
  · rfl
  · exact List.take_of_length_le (by omega)

theorem takeM_more {α : Type} {most : Int} {l r : List α} (h : (l.length : Int) = most) : takeM most (l ++ r) = l := by
  unfold takeM
  rw [if_neg (by omega), List.take_append_of_le_length (by omega), List.take_of_length_le (by omega)]

/-- between two rounds, and where it is enough -/
def ScanI (f : ByteArray → Option (ByteArray × ByteArray)) (most : Int) (pB pa pb : Nat) (w5 : World) (pre : List ByteArray) (W : World) : Prop :=
  ScanAt f pB pa pb w5 pre W ∧ (most < 0 ∨ ((pre.filterMap f).length : Int) ≤ most)

def ScanX (f : ByteArray → Option (ByteArray × ByteArray)) (most : Int) (pB pa pb : Nat) (w5 : World) (c : Code) (xs : List ByteArray) (W : World) : Prop :=
  ∃ pre key, xs = pre ++ [key] ∧ ScanAt f pB pa pb w5 pre W ∧ ((pre.filterMap f).length : Int) = most ∧ c = .exit 0

theorem row_eq {w : World} {t : TypeId} {v : Value} {l l' : List (ByteArray × ByteArray)} (e : l' = l) (h : Row w t 2 v l.length (l.flatMap pairCells)) : Row w t 2 v l'.length (l'.flatMap pairCells) := by rw [e]; exact h

theorem rises_drop {ks : List ByteArray} (h : Rises ks) (n : Nat) : Rises (ks.drop n) := h.sublist (List.drop_sublist _ _)

theorem scan_goesOnX {f : ByteArray → Option (ByteArray × ByteArray)} {pB pa pb : Nat} {G : List Nat} {w5 W W4 : World} {v v' : Value} {pre : List ByteArray} {key : ByteArray} {e : TypeId} {m : Nat} {xs : List Value} {most : Int} (a : Act) (hB : pB < w5.heap.size) (hL : ∀ k ∈ pa :: pb :: G, k < w5.heap.size ∧ k ≠ pB)
    (hrow : Row W e 2 v m xs) (hown : ∀ g, v.ownBlock = some g → w5.heap.size ≤ g) (hkeep : Keeps (fun k => k = pB ∨ k = pa ∨ k = pb) w5 W) (hk : Keeps (fun k => k = pB ∨ some k = v.ownBlock) W W4)
    (hb4 : W4.heap[pB]? = some (.cells #[v'] 36 (0, 0))) (hr4 : Row W4 89 2 v' ((pre ++ [key]).filterMap f).length (((pre ++ [key]).filterMap f).flatMap pairCells)) (ho4 : ∀ g, v'.ownBlock = some g → w5.heap.size ≤ g) (hmo : most < 0 ∨ (((pre ++ [key]).filterMap f).length : Int) ≤ most) :
    goesOnX w5.heap.size (KpM (pa :: pb :: G)) (ScanI f most pB pa pb w5) (ScanX f most pB pa pb w5) (pre ++ [key]) W .normal a W4 := by
  refine ⟨⟨hk.size, fun k o hBk hko hc => ?_⟩, ⟨hk.size, fun k hkG => ?_⟩, ⟨v', hb4, hr4, ho4, hkeep.trans hk (fun k hk' e => ?_)⟩, hmo⟩
  · refine (hk.block k (Array.getElem?_eq_some_iff.1 hko).1 ?_).trans hko
    rintro (e | e)
    · omega
    · obtain ⟨cur, hcur⟩ := hrow.cellsAt e.symm
      rw [hcur] at hko
      cases hko
      cases hc
  · obtain ⟨l1, l2⟩ := hL k hkG
    refine hk.block k (Nat.lt_of_lt_of_le l1 hkeep.size) ?_
    rintro (e | e)
    · exact l2 e
    · have := hown k e.symm
      omega
  · rcases e with e | e
    · exact .inl e
    · have := hown k e.symm
      omega

set_option maxRecDepth 100000 in
set_option maxHeartbeats 2000000 in
theorem scan_from (R : Rep) (n : Int) (x : WkR) (from_ : ByteArray) (most : Int) (w : World) (h : StoreAt w R) (g : Good R) (t : Tied R) (hn : look R.works n = some x) (hkl : R.keys.length < 1000000000000) (hfs : from_.size ≤ 10) (hm1 : -9223372036854775808 ≤ most) (hm2 : most ≤ 9223372036854775807) :
    Calls Tryz.prog 30 #[.pointer (some ⟨R.sb, 0, none⟩), .int .i64 n, .string from_, .int .i64 most] w (ScanPostG R x from_ most w) := by
  have hk0 : Keeps (fun _ => False) w ((w.alloc (.cells #[.pointer (some ⟨R.sb, 0, none⟩)] 23)).alloc (.cells #[.int .i64 most] 3)) := ((Keeps.refl _ w).al _).al _
  have hf := find_any R n _ (h.kept hk0 (fun _ _ h => h))
  rw [hn] at hf
  simp only [Option.map_some, Option.getD_some, workPtr] at hf
  have HF := hid hf
  have hdf : decide (10 < (from_.size : Int)) = false := decide_eq_false (by omega)
  have HST := hid h
  have HG := hid g
  have HT := hid t
  have HN := hid hn
  clear hf hk0 h g t hn
  refine (callsIn_wide (n := 8)).1 ?_
  refine callsIn_of_wp_marks Tryz.func30 rfl trivial ?_ rfl
  simp only [Tryz.ntmps30, List.size_toArray, List.length_cons, List.length_nil, Nat.reduceAdd, Nat.reduceSub, Array.replicate_succ, Array.replicate_zero, List.push_toArray, List.append_toArray, List.nil_append, List.cons_append]
  gi_wp2_with (refine ⟨trivial, ?_⟩; gi_at_call 47; go_must (refine (callsIn_wide.2 HF.out).mono ?_; rintro e w1 ⟨rfl, rfl⟩))
  obtain ⟨LA, hLA⟩ : ∃ LA, LA = R.keys.drop (below R.keys from_) := ⟨_, rfl⟩
  have HKEYS : Hid (∀ W, Keeps (fun _ => False) w W → Calls Tryz.prog 57 #[.pointer (some ⟨R.sb, 7, none⟩), .string from_] W fun e w' => ∃ v, e = .returned v ∧ Seg R.kv.ownBlock.toList w' v LA ∧ Keeps (fun _ => False) W w') := fun W hW => by
    rw [hLA]
    exact pastKeys_from R from_ W (HST.out.kept hW (fun _ _ h => h)) HT.out.rises hkl
  have HWK : Hid (∀ W, Keeps (fun _ => False) w W → Calls Tryz.prog 58 #[.pointer (some ⟨x.blk, 0, none⟩), .string from_] W fun e w' => ∃ v ks lb G, e = .returned v ∧ Hid (lb = ks.drop (below ks from_)) ∧ Seg G w' v lb ∧ Rises ks ∧ ks.Perm (x.writes.map (·.1)) ∧ Keeps (fun _ => False) W w' ∧ (∀ k ∈ G, W.heap.size < k ∧ k < w'.heap.size)) := fun W hW => by
    obtain ⟨c0, c1, hm⟩ := (HST.out.kept hW (fun _ _ h => h)).works.work (look_mem HN.out)
    have h30 := HG.out.writes30 _ (look_mem HN.out)
    have hwk := HG.out.wkeys _ (look_mem HN.out)
    refine (keys_from x.blk x.mb from_ _ W c1 hm (fun p hp => ?_) (by simp; simp at h30; omega)).mono ?_
    · obtain ⟨q, hq, rfl⟩ := List.mem_map.1 hp
      have := (hwk q hq).1
      simp [keyB] at this
      unfold maxLen
      simp
      omega
    · rintro e w' ⟨v, ks, G, h1, h2, h3, h4, h5, h6⟩
      exact ⟨v, ks, _, G, h1, hid rfl, h2, h3, by simpa [List.map_map, Function.comp_def] using h4, h5, h6⟩
  have HLAQ := hid hLA
  clear HF hLA
  have hkW : Keeps (fun _ => False) w ((((w.alloc (.cells #[.pointer (some ⟨R.sb, 0, none⟩)] 23)).alloc (.cells #[.int .i64 most] 3)).alloc (.cells #[.pointer (some ⟨x.blk, 0, none⟩)] 101)).alloc (.cells #[.slice none 0 0] 36)) := ((((Keeps.refl _ w).al _).al _).al _).al _
  have HKW := hid hkW
  clear hkW
  rename_i K1 hK1 K0 hK0
  have hrest : ∀ (w3 : World) (oa ob : Option Addr) (ca cb : Nat) (la lb ks : List ByteArray) (Gb : List Nat), Keeps (fun _ => False) ((((w.alloc (.cells #[.pointer (some ⟨R.sb, 0, none⟩)] 23)).alloc (.cells #[.int .i64 most] 3)).alloc (.cells #[.pointer (some ⟨x.blk, 0, none⟩)] 101)).alloc (.cells #[.slice none 0 0] 36)) w3 → la = R.keys.drop (below R.keys from_) → lb = ks.drop (below ks from_) → Seg R.kv.ownBlock.toList w3 (.slice oa la.length ca) la → Seg Gb w3 (.slice ob lb.length cb) lb → Rises ks → ks.Perm (x.writes.map (·.1)) → (∀ k ∈ Gb, w.heap.size + 4 < k ∧ k < w3.heap.size) →
      K0 { tmps := #[Value.pointer (some ⟨R.sb, 0, none⟩), .int .i64 n, .string from_, .int .i64 most, .pointer (some ⟨w.heap.size, 0, none⟩), undef, undef, .pointer (some ⟨w.heap.size + 1, 0, none⟩), .slice none 0 0, .int .i64 0, .pointer (some ⟨w.heap.size + 1 + 1, 0, none⟩), .pointer (some ⟨w.heap.size + 1 + 1 + 1, 0, none⟩), undef, undef, undef, .pointer (some ⟨R.sb, 0, none⟩), .int .i64 n, .pointer (some ⟨x.blk, 0, none⟩), .pointer (some ⟨x.blk, 0, none⟩), .bool false, .string from_, .int .i64 from_.size, .bool false, .pointer (some ⟨R.sb, 0, none⟩), .pointer (some ⟨R.sb, 0, none⟩), .pointer (some ⟨R.sb, 7, none⟩), .string from_, .slice oa la.length ca, .pointer (some ⟨x.blk, 0, none⟩), .string from_, .slice ob lb.length cb, .func (.func 89) #[] #[.pointer (some ⟨w3.heap.size, 0, none⟩), .pointer (some ⟨w3.heap.size + 1, 0, none⟩)], undef, undef, undef, undef, undef, undef, undef, undef, undef, undef, undef, undef, undef, undef, undef, undef, undef, undef, undef, undef], defers := [] } ((w3.alloc (.cells #[.slice oa la.length ca] 43)).alloc (.cells #[.slice ob lb.length cb] 43)) := by
    intro w3 oa ob ca cb la lb ks Gb h1 hla hlb h2a h2 h3 h4 h5
    refine hK0 _ _ ?_
    dsimp only
    have hkw3 : Keeps (fun _ => False) w w3 := HKW.out.tr h1 (fun _ h => h)
    have hz : w.heap.size + 4 ≤ w3.heap.size := by have := h1.size; simp at this; omega
    have hS3 : StoreAt w3 R := HST.out.kept hkw3 (fun _ _ h => h)
    obtain ⟨w5, hw5⟩ : ∃ w5, (w3.alloc (.cells #[.slice oa la.length ca] 43)).alloc (.cells #[.slice ob lb.length cb] 43) = w5 := ⟨_, rfl⟩
    have hk35 : Keeps (fun _ => False) w3 w5 := by rw [← hw5]; exact ((Keeps.refl _ w3).al _).al _
    have hzz : w5.heap.size = w3.heap.size + 2 := by rw [← hw5]; simp
    have qa : w5.heap[w3.heap.size]? = some (.cells #[.slice oa la.length ca] 43 (0, 0)) := by rw [← hw5]; exact (Below.heap_alloc _ _ _ (by simp)).trans (heap_new w3 _)
    have qb : w5.heap[w3.heap.size + 1]? = some (.cells #[.slice ob lb.length cb] 43 (0, 0)) := by
      rw [← hw5]
      have := heap_new (w3.alloc (.cells #[.slice oa la.length ca] 43)) (.cells #[.slice ob lb.length cb] 43)
      simpa using this
    rw [hw5]
    clear hw5
    have hkv : ∀ k ∈ R.kv.ownBlock.toList, k < w.heap.size := fun k hk => fp_lt HST.out k (by simp only [Rep.fp, Rep.fpPast, List.mem_cons, List.mem_append]; exact .inr (.inr (.inl (.inl hk))))
    obtain ⟨G, hGe⟩ : ∃ G, R.kv.ownBlock.toList ++ Gb = G := ⟨_, rfl⟩
    have hG : ∀ k ∈ G, k < w3.heap.size ∧ k ≠ w.heap.size + 1 + 1 + 1 := fun k hk => by
      rw [← hGe] at hk
      rcases List.mem_append.1 hk with hk | hk
      · have := hkv k hk; omega
      · have := h5 k hk; omega
    have hmore : ∀ {G1 G2 : List Nat} {W : World} {v : Value} {l : List ByteArray}, Seg G1 W v l → (∀ k ∈ G1, k ∈ G2) → Seg G2 W v l := fun h hs => by
      rcases h with h | ⟨g, off, cap, hg, r⟩
      · exact .inl h
      · exact .inr ⟨g, off, cap, hs g hg, r⟩
    have hmem : MergeMem G w3.heap.size (w3.heap.size + 1) la lb [] w5 := by
      refine ⟨_, _, la, lb, qa, qb, ?_, ?_, ⟨List.Pairwise.nil, by rw [hla]; exact rises_drop HT.out.rises _, by rw [hlb]; exact rises_drop h3 _, fun k hk => (by cases hk), fun k => by simp, by simp⟩⟩
      · exact (hmore h2a (fun k hk => by rw [← hGe]; exact List.mem_append_left _ hk)).kept (fun k hk => hk35.block k (hG k hk).1 (fun h => h))
      · exact (hmore h2 (fun k hk => by rw [← hGe]; exact List.mem_append_right _ hk)).kept (fun k hk => hk35.block k (hG k hk).1 (fun h => h))
    have hseq := merged1_end G w3.heap.size (w3.heap.size + 1) la lb w5 (fun h => by have := (hG _ h).1; omega) (fun h => by have := (hG _ h).1; omega) (by omega) (fun k hk => by have := (hG k hk).1; omega) hmem
    have bx : ∀ (k : Nat) (o : Obj), ((((w.alloc (.cells #[.pointer (some ⟨R.sb, 0, none⟩)] 23)).alloc (.cells #[.int .i64 most] 3)).alloc (.cells #[.pointer (some ⟨x.blk, 0, none⟩)] 101)).alloc (.cells #[.slice none 0 0] 36)).heap[k]? = some o → w5.heap[k]? = some o := fun k o hk => (hk35.block k (Nat.lt_of_lt_of_le (Array.getElem?_eq_some_iff.1 hk).1 h1.size) (fun h => h)).trans ((h1.block k (Array.getElem?_eq_some_iff.1 hk).1 (fun h => h)).trans hk)
    have b1 : w5.heap[w.heap.size]? = some (.cells #[.pointer (some ⟨R.sb, 0, none⟩)] 23 (0, 0)) := bx _ _ (four_new w _ _ _ _).1
    have b2 : w5.heap[w.heap.size + 1]? = some (.cells #[.int .i64 most] 3 (0, 0)) := bx _ _ (four_new w _ _ _ _).2.1
    have b3 : w5.heap[w.heap.size + 1 + 1]? = some (.cells #[.pointer (some ⟨x.blk, 0, none⟩)] 101 (0, 0)) := bx _ _ (four_new w _ _ _ _).2.2.1
    have b4 : w5.heap[w.heap.size + 1 + 1 + 1]? = some (.cells #[.slice none 0 0] 36 (0, 0)) := bx _ _ (four_new w _ _ _ _).2.2.2
    have HS5 := hid (hS3.kept hk35 (fun _ _ h => h))
    have H24 := hid (And.intro h4 h3)
    have HKS := hid hkw3
    have HK35 := hid hk35
    have B1 := hid b1
    have B2 := hid b2
    have B3 := hid b3
    have HL : Hid (∀ k ∈ w3.heap.size :: (w3.heap.size + 1) :: G, k < w5.heap.size ∧ k ≠ w.heap.size + 1 + 1 + 1) := fun k hk => by
      rcases List.mem_cons.1 hk with rfl | hk
      · omega
      · rcases List.mem_cons.1 hk with rfl | hk
        · omega
        · have := hG k hk; omega
    have hpB : w.heap.size + 1 + 1 + 1 < w5.heap.size := by omega
    have h0 : ScanI (pairOf x.writes (versOf R.hist) x.began) most (w.heap.size + 1 + 1 + 1) w3.heap.size (w3.heap.size + 1) w5 [] w5 := ⟨⟨_, b4, Row.nil _ _ _, fun g hg => by simp [Value.ownBlock] at hg, Keeps.refl _ _⟩, by simp; omega⟩
    have hbound : la.length + lb.length < 2000000000000 := by
      rw [hla, hlb, List.length_drop, List.length_drop]
      have e1 := h4.length_eq
      have e2 := HG.out.writes30 _ (look_mem HN.out)
      simp at e1 e2
      omega
    have HLA := hid (And.intro hla hlb)
    clear h1 h2 h2a h3 h4 h5 hkw3 hS3 hk35 qa qb hkv hGe hG hmem bx b1 b2 b3 b4 hkl hK0 HKEYS HWK hmore hla hlb
    gi_wp2_with fail
    refine wpIn_range_end (α := ByteArray) rfl (by omega) (gf := 89) (lb := #[.pointer (some ⟨w3.heap.size, 0, none⟩), .pointer (some ⟨w3.heap.size + 1, 0, none⟩)]) rfl trivial (enters_of Tryz.func89 (by kernel_rfl) rfl)
      hseq ?cs (fun h k => ⟨Nat.le_trans h.1 k.1, fun j hj => (k.2 j hj).trans (h.2 j hj)⟩) ?kb (fun _ => rfl) (ScanI (pairOf x.writes (versOf R.hist) x.began) most (w.heap.size + 1 + 1 + 1) w3.heap.size (w3.heap.size + 1) w5) (ScanX (pairOf x.writes (versOf R.hist) x.began) most (w.heap.size + 1 + 1 + 1) w3.heap.size (w3.heap.size + 1) w5)
      (fun pre W W' row hs hg hr => ⟨scanAt_own hpB pre W W' row hs.1 hg hr, hs.2⟩) (fun c xs W W' row hs hg hr => by obtain ⟨pre, key, e1, e2, e3⟩ := hs; exact ⟨pre, key, e1, scanAt_own hpB pre W W' row e2 hg hr, e3⟩)
      (fun pre A B hC hs => ⟨scanAt_C (by omega) (by omega) (by omega) (by omega) pre A B hC hs.1, hs.2⟩) h0 (fun key => { tmps := #[Value.pointer (some ⟨R.sb, 0, none⟩), .int .i64 n, .string from_, .int .i64 most, .pointer (some ⟨w.heap.size, 0, none⟩), undef, undef, .pointer (some ⟨w.heap.size + 1, 0, none⟩), .slice none 0 0, .int .i64 0, .pointer (some ⟨w.heap.size + 1 + 1, 0, none⟩), .pointer (some ⟨w.heap.size + 1 + 1 + 1, 0, none⟩), .string key, undef, undef, .pointer (some ⟨R.sb, 0, none⟩), .int .i64 n, .pointer (some ⟨x.blk, 0, none⟩), .pointer (some ⟨x.blk, 0, none⟩), .bool false, .string from_, .int .i64 from_.size, .bool false, .pointer (some ⟨R.sb, 0, none⟩), .pointer (some ⟨R.sb, 0, none⟩), .pointer (some ⟨R.sb, 7, none⟩), .string from_, .slice oa la.length ca, .pointer (some ⟨x.blk, 0, none⟩), .string from_, .slice ob lb.length cb, .func (.func 89) #[] #[.pointer (some ⟨w3.heap.size, 0, none⟩), .pointer (some ⟨w3.heap.size + 1, 0, none⟩)], .string key, undef, undef, undef, undef, undef, undef, undef, undef, undef, undef, undef, undef, undef, undef, undef, undef, undef, undef, undef], defers := [] }) ?assign ?body ?done ?stop
    case cs =>
      rintro A B k hC hk ⟨o, ho, _⟩
      exact hC.block k (Array.getElem?_eq_some_iff.1 ho).1 (by rintro (e | e) <;> omega)
    case kb =>
      intro W l o' hl
      exact ⟨by simp, fun j hj => World.putObj_heap_other (by have := (HL.out j hj).1; omega)⟩
    case assign =>
      intro l key W K hK
      have ez : ∀ t : Array Value, (#[32].zip #[Value.string key]).foldl (fun t (p, v) => t.setIfInBounds p v) t = t.setIfInBounds 32 (.string key) := fun t => by simp [Array.zip]
      simp only [ez]
      gi_wp2
      exact hK
    case body =>
      intro l pre key W hI hlt
      obtain ⟨⟨v, q1, q2, q3, q4⟩, hIm⟩ := hI
      have bk : ∀ (k : Nat) (o : Obj), k < w.heap.size + 1 + 1 + 1 → w5.heap[k]? = some o → W.heap[k]? = some o := fun k o hk ho => (q4.block k (Array.getElem?_eq_some_iff.1 ho).1 (by rintro (e | e | e) <;> omega)).trans ho
      have c4 := cell_of_heap (bk _ _ (by omega) B1.out) 0
      have c7 := cell_of_heap (bk _ _ (by omega) B2.out) 0
      have c10 := cell_of_heap (bk _ _ (by omega) B3.out) 0
      have c11 := cell_of_heap q1 0
      simp at c4 c7 c10 c11
      have hSW : StoreAt W R := HS5.out.kept q4 (fun k hk e => by have := fp_lt HST.out k hk; rcases e with e | e | e <;> omega)
      have hsee := see_any R n x key W hSW HG.out (look_mem HN.out)
      simp only [workPtr] at hsee
      obtain ⟨av, cv, rfl, hmx, -⟩ := q2.form
      have hfl : (pre.filterMap (pairOf x.writes (versOf R.hist) x.began)).length ≤ pre.length := List.length_filterMap_le _ _
      obtain ⟨m, hm⟩ : ∃ m, m = (pre.filterMap (pairOf x.writes (versOf R.hist) x.began)).length := ⟨_, rfl⟩
      rw [← hm] at c11 q1 q2 q3 hfl hIm
      have HM := hid hm
      have HQ1 := hid q1
      have HQ2 := hid q2
      have HQ3 := hid q3
      have HQ4 := hid q4
      have hsv : pairOf x.writes (versOf R.hist) x.began key = if standsB (seeVer x.writes (versOf R.hist key) x.began key) = true then some (key, ((seeVer x.writes (versOf R.hist key) x.began key).getD Ver.zero).value) else none := rfl
      generalize ((seeVer x.writes (versOf R.hist key) x.began key).getD Ver.zero).value = val at hsee hsv
      have HLT := hid hlt
      clear q1 q2 q3 q4 bk hSW hm hseq h0
      by_cases hbr : (m : Int) = most
      · have hbq : ((m : Int) == most) = true := beq_iff_eq.2 hbr
        have HBR := hid hbr
        clear hbr
        gi_wp2
        refine ⟨KeepsFrom.refl _ _, pre, key, rfl, ⟨_, HQ1.out, by rw [← HM.out]; exact HQ2.out, HQ3.out, HQ4.out⟩, by rw [← HM.out]; exact HBR.out, rfl⟩
      have hne1 : ((m : Int) == most) = false := beq_eq_false_iff_ne.2 hbr
      have HIM : Hid (most < 0 ∨ ((m + 1 : Nat) : Int) ≤ most) := by
        show _ ∨ _
        omega
      clear hbr
      cases hst : standsB (seeVer x.writes (versOf R.hist key) x.began key) with
      | false =>
        rw [hst] at hsee hsv
        simp only [Bool.false_eq_true, if_false] at hsv
        have HSEE := hid hsee
        have HSV := hid hsv
        clear hsee hsv hst
        gi_wp2_with (refine ⟨trivial, ?_⟩; gi_at_call 51; go_must (refine (CallsIn.inRound l (callsIn_wide.2 HSEE.out)).mono ?_; rintro e W1 ⟨rfl, k1⟩))
        have epre : (pre ++ [key]).filterMap (pairOf x.writes (versOf R.hist) x.began) = pre.filterMap (pairOf x.writes (versOf R.hist) x.began) := by simp [List.filterMap_append, HSV.out]
        refine scan_goesOnX _ hpB HL.out HQ2.out HQ3.out HQ4.out (k1.mono (fun _ _ h => h.elim)) ((k1.block _ (Array.getElem?_eq_some_iff.1 HQ1.out).1 (fun h => h)).trans HQ1.out) ?_ HQ3.out (by rw [epre, ← HM.out]; exact hIm)
        rw [epre, ← HM.out]
        exact HQ2.out.kept k1 (fun _ _ h => h)
      | true =>
        rw [hst] at hsee hsv
        simp only [if_true] at hsv
        have HSEE := hid hsee
        have HSV := hid hsv
        clear hsee hsv hst
        obtain ⟨i0, hi, hz0, hz1, hz2⟩ := info_parts Tryz.infoPair
        have HAPP : Hid (∀ W1, Keeps (fun _ => False) W W1 → ∃ g' cap' w', (Builtin.append_ #[36, 36] 36 #[.slice av m cv, .slice (some ⟨W1.heap.size, 0, none⟩) 1 1]).run Tryz.prog (W1.alloc (.cells #[.string key, .string val] 89)) = .ok (.slice (some ⟨g', 0, none⟩) (m + 1) cap') w' ∧
            ScanNew W m av cv (w.heap.size + 1 + 1 + 1) w5 g' cap' w' ((pre.filterMap (pairOf x.writes (versOf R.hist) x.began)).flatMap pairCells ++ [.string key, .string val])) := fun W1 k1 => by
          obtain ⟨v', w', r1, r2, r3, r4, r5⟩ := run_append_row (P := Tryz.prog) (W1.alloc (.cells #[.string key, .string val] 89)) 36 36 89 i0 (.agg #[.string ⟨#[]⟩, .string ⟨#[]⟩]) 2 32 Tryz.underlying36 hi hz0 hz1 hz2 rfl (.slice av m cv) m _ ((HQ2.out.kept k1 (fun _ _ h => h)).kept (Keeps.alloc (fun _ => False) _ _) (fun _ _ h => h)) ⟨W1.heap.size, 0, none⟩ 1 1 [.string key, .string val] rfl (pair_new _ _ _ _) (by simp [Value.oneCell']) (by unfold maxLen; omega) (by omega)
          obtain ⟨g', cap', rfl⟩ := r2.succ
          exact ⟨g', cap', w', r1, scan_new k1 HQ1.out HQ3.out HQ4.out r2 r3 r5 hpB⟩
        have Z0 := hid hi
        clear hi hz0 hz1 hz2 Z0
        gi_wp2_with (first | (gi_at_builtin; refine wpListIn_append_run _ rfl _ _ 36 rfl _ _ _ _ rfl rfl HRUN.out ?_) | (refine ⟨trivial, ?_⟩; gi_at_call 51; go_must (refine (CallsIn.inRound l (callsIn_wide.2 HSEE.out)).mono ?_; rintro e W1 ⟨rfl, k1⟩; have d11 := k1.cell (p := ⟨w.heap.size + 1 + 1 + 1, 0, none⟩) c11 (fun h => h); obtain ⟨g', cap', w', hrun, hnew⟩ := HAPP.out W1 k1; have e11 := cell_of_heap hnew.box 0; have f11 := frozen_of_heap hnew.box 0; simp at e11; have HNEW := hid hnew; have HRUN := hid hrun; clear hnew HAPP hrun)))
        have epre : (pre ++ [key]).filterMap (pairOf x.writes (versOf R.hist) x.began) = pre.filterMap (pairOf x.writes (versOf R.hist) x.began) ++ [(key, val)] := by simp [List.filterMap_append, HSV.out]
        refine scan_goesOnX _ hpB HL.out HQ2.out HQ3.out HQ4.out HNEW.out.keep (heap_setCell_same HNEW.out.box _) ?_ HNEW.out.own (by rw [epre, List.length_append, ← HM.out]; exact HIM.out)
        rw [epre]
        have := HNEW.out.row
        simpa [HM.out, List.flatMap_append, pairCells] using this
    case done =>
      rintro D xs W hD hS hI hK
      obtain ⟨⟨v, q1, q2, q3, q4⟩, hIm⟩ := hI
      have c11 := cell_of_heap q1 0
      simp at c11
      obtain ⟨av, cv, rfl, hmx, -⟩ := q2.form
      have HQ := hid (And.intro q1 (And.intro q2 (And.intro q3 q4)))
      have HS := hid hS
      have HK := hid hK
      clear q1 q2 q3 q4 hS hK hseq h0
      gi_wp2
      refine ⟨by simp, .inl ⟨_, _, rfl, run_takeDeferred HK.out, ?_⟩⟩
      refine ⟨_, results_tmp2 rfl _ _ _, ?_⟩
      obtain ⟨q1, q2, q3, q4⟩ := HQ.out
      have kp := Keeps.grown (grownBy_putObj' W D (.deferred none))
      refine ⟨_, xs, ks, rfl, H24.out.2, H24.out.1, by rw [← HLA.out.1, ← HLA.out.2]; exact HS.out, row_eq (takeM_all hIm) (q2.kept kp (fun g hg e => ?_)), fun g hg => ?_, ?_⟩
      · obtain ⟨cur, hcur⟩ := q2.cellsAt hg
        simp only [Option.some.injEq] at e
        rw [e, HK.out] at hcur
        cases hcur
      · have := q3 g hg
        omega
      · have k1 : Keeps (fun _ => False) w W := (HKS.out.tr HK35.out (fun _ h => h)).trans q4 (fun k hk e => by rcases e with e | e | e <;> omega)
        refine k1.trans kp (fun k hk e => ?_)
        simp only [Option.some.injEq] at e
        omega
    case stop =>
      rintro D c xs W hD hS hI hK
      obtain ⟨pre, key, rfl, ⟨v, q1, q2, q3, q4⟩, hIm, rfl⟩ := hI
      obtain ⟨a', b', hS'⟩ := hS
      obtain ⟨rest, hS⟩ := merge_whole _ _ _ _ (Nat.le_refl _) hS'
      clear hS'
      have c11 := cell_of_heap q1 0
      simp at c11
      obtain ⟨av, cv, rfl, hmx, -⟩ := q2.form
      have HQ := hid (And.intro q1 (And.intro q2 (And.intro q3 q4)))
      have HS := hid hS
      have HK := hid hK
      clear q1 q2 q3 q4 hS hK hseq h0
      gi_wp2
      refine ⟨by simp, .inl ⟨_, _, rfl, run_takeDeferred HK.out, ?_⟩⟩
      refine ⟨_, results_tmp2 rfl _ _ _, ?_⟩
      obtain ⟨q1, q2, q3, q4⟩ := HQ.out
      have kp := Keeps.grown (grownBy_putObj' W D (.deferred none))
      refine ⟨_, pre ++ [key] ++ rest, ks, rfl, H24.out.2, H24.out.1, by rw [← HLA.out.1, ← HLA.out.2]; exact HS.out, row_eq (by rw [List.append_assoc, List.filterMap_append, takeM_more hIm]) (q2.kept kp (fun g hg e => ?_)), fun g hg => ?_, ?_⟩
      · obtain ⟨cur, hcur⟩ := q2.cellsAt hg
        simp only [Option.some.injEq] at e
        rw [e, HK.out] at hcur
        cases hcur
      · have := q3 g hg
        omega
      · have k1 : Keeps (fun _ => False) w W := (HKS.out.tr HK35.out (fun _ h => h)).trans q4 (fun k hk e => by rcases e with e | e | e <;> omega)
        refine k1.trans kp (fun k hk e => ?_)
        simp only [Option.some.injEq] at e
        omega
  have HREST := hid hrest
  clear hrest
  refine wpIn_normal ?_
  gi_region_with (first
    | (refine ⟨trivial, ?_⟩; gi_at_call 57; go_must (refine (callsIn_wide.2 (HKEYS.out _ HKW.out.dr)).mono ?_; rintro e w2 ⟨v2, rfl, sg2, k2⟩; obtain ⟨oa, ca, rfl⟩ := sg2.form; have b2 := (Keeps.drew (fun _ => False) _).tr k2 (fun _ h => h); have c10 := b2.cell (p := ⟨w.heap.size + 1 + 1, 0, none⟩) (v := .pointer (some ⟨x.blk, 0, none⟩)) (by simp [go_sem]) (fun h => h)))
    | (refine ⟨trivial, ?_⟩; gi_at_call 58; go_must (refine (callsIn_wide.2 (HWK.out _ (HKW.out.tr b2 (fun _ h => h)))).mono ?_; rintro e w3 ⟨v3, ks, LB, Gb, rfl, hLB, r3, rs3, p3, k3, o3⟩; obtain ⟨ob, cb, rfl⟩ := r3.form))
    | (refine ⟨trivial, ?_⟩; gi_at_call 56; go_must (refine (callsIn_wide.2 (merged_any _ _ _ _ _ _ _)).mono ?_; rintro e w4 ⟨rfl, rfl⟩)))
  all_goals exact HREST.out w3 oa ob ca cb LA LB ks Gb (b2.tr k3 (fun _ h => h)) HLAQ.out hLB.out (sg2.kept (fun k hk => k3.block k (Nat.lt_of_lt_of_le (fp_lt HST.out k (by simp only [Rep.fp, Rep.fpPast, List.mem_cons, List.mem_append]; exact .inr (.inr (.inl (.inl hk))))) (HKW.out.tr b2 (fun _ h => h)).size) (fun h => h))) r3 rs3 p3 (fun k hk => ⟨by have := (o3 k hk).1; have := b2.size; simp at this; omega, (o3 k hk).2⟩)

end Go.Proofs.YtpagenipflmlfaaGreatDoor

/- Scan where it refuses. -/

namespace Go.Proofs.YtpagenipflmlfaaGreatDoor

open Go.RowKit Go.Shelf

attribute [local go_sem] Oper.semAt_some

set_option maxRecDepth 100000 in
set_option maxHeartbeats 400000 in
theorem scan_none (R : Rep) (n : Int) (from_ : ByteArray) (most : Int) (w : World) (h : StoreAt w R) (hn : look R.works n = none) :
    Calls Tryz.prog 30 #[.pointer (some ⟨R.sb, 0, none⟩), .int .i64 n, .string from_, .int .i64 most] w fun e w' => e = .returned (.tuple #[.slice none 0 0, .int .i64 1]) ∧ Keeps (fun _ => False) w w' := by
  have hk0 : Keeps (fun _ => False) w ((w.alloc (.cells #[.pointer (some ⟨R.sb, 0, none⟩)] 23)).alloc (.cells #[.int .i64 most] 3)) := ((Keeps.refl _ w).al _).al _
  have hf := find_any R n _ (h.kept hk0 (fun _ _ h => h))
  rw [hn] at hf
  simp only [Option.map_none, Option.getD_none] at hf
  have HF := hid hf
  clear hf hk0 h hn
  refine (callsIn_wide (n := 8)).1 ?_
  refine callsIn_of_wp_marks Tryz.func30 rfl trivial ?_ rfl
  simp only [Tryz.ntmps30, List.size_toArray, List.length_cons, List.length_nil, Nat.reduceAdd, Nat.reduceSub, Array.replicate_succ, Array.replicate_zero, List.push_toArray, List.append_toArray, List.nil_append, List.cons_append]
  gi_wp2_with (refine ⟨trivial, ?_⟩; gi_at_call 47; go_must (refine (callsIn_wide.2 HF.out).mono ?_; rintro e w1 ⟨rfl, rfl⟩))
  exact ⟨_, results_tmp2 rfl _ _ _, rfl, (((Keeps.refl _ w).al _).al _).al _⟩

set_option maxRecDepth 100000 in
set_option maxHeartbeats 400000 in
theorem scan_text (R : Rep) (n : Int) (x : WkR) (from_ : ByteArray) (most : Int) (w : World) (h : StoreAt w R) (hn : look R.works n = some x) (h1 : 10 < from_.size) :
    Calls Tryz.prog 30 #[.pointer (some ⟨R.sb, 0, none⟩), .int .i64 n, .string from_, .int .i64 most] w fun e w' => e = .returned (.tuple #[.slice none 0 0, .int .i64 2]) ∧ Keeps (fun _ => False) w w' := by
  have hk0 : Keeps (fun _ => False) w ((w.alloc (.cells #[.pointer (some ⟨R.sb, 0, none⟩)] 23)).alloc (.cells #[.int .i64 most] 3)) := ((Keeps.refl _ w).al _).al _
  have hf := find_any R n _ (h.kept hk0 (fun _ _ h => h))
  rw [hn] at hf
  simp only [Option.map_some, Option.getD_some, workPtr] at hf
  have hd : decide (10 < (from_.size : Int)) = true := decide_eq_true (by omega)
  have HF := hid hf
  clear hf hk0 h hn
  refine (callsIn_wide (n := 8)).1 ?_
  refine callsIn_of_wp_marks Tryz.func30 rfl trivial ?_ rfl
  simp only [Tryz.ntmps30, List.size_toArray, List.length_cons, List.length_nil, Nat.reduceAdd, Nat.reduceSub, Array.replicate_succ, Array.replicate_zero, List.push_toArray, List.append_toArray, List.nil_append, List.cons_append]
  gi_wp2_with (refine ⟨trivial, ?_⟩; gi_at_call 47; go_must (refine (callsIn_wide.2 HF.out).mono ?_; rintro e w1 ⟨rfl, rfl⟩))
  exact ⟨_, results_tmp2 rfl _ _ _, rfl, (((Keeps.refl _ w).al _).al _).al _⟩

theorem sum_del {α : Type} [DecidableEq α] {f : Value → Int} : ∀ {l : List (α × Value)} {k : α} {v : Value}, (l.map (·.1)).Nodup → (k, v) ∈ l → ((del l k).map (fun q => f q.2)).sum + f v = (l.map (fun q => f q.2)).sum
  | [], _, _, _, h => by cases h
  | (a, x) :: r, k, v, hn, h => by
    unfold del
    simp only [List.map_cons, List.nodup_cons] at hn
    by_cases e : a = k
    · rw [if_pos e]
      rcases List.mem_cons.1 h with h1 | h1
      · cases h1
        simp only [List.map_cons, List.sum_cons]
        omega
      · exact absurd (List.mem_map.2 ⟨_, h1, e.symm⟩) hn.1
    · rw [if_neg e]
      rcases List.mem_cons.1 h with h1 | h1
      · cases h1
        exact absurd rfl e
      · have := sum_del (f := f) hn.2 h1
        simp only [List.map_cons, List.sum_cons]
        omega

theorem nodup_del {α : Type} [DecidableEq α] {l : List (α × Value)} {k : α} (h : (l.map (·.1)).Nodup) : ((del l k).map (·.1)).Nodup := h.sublist ((del_sublist l k).map _)

/-- A range that adds up. -/
structure AddsUp {α : Type} [DecidableEq α] (l : List (α × Value)) (f : Value → Int) (left : List (α × Value)) (c : Int) : Prop where
  sum : c + (left.map (fun q => f q.2)).sum = (l.map (fun q => f q.2)).sum
  nodup : (left.map (·.1)).Nodup
  sub : ∀ q ∈ left, q ∈ l

theorem AddsUp.start {α : Type} [DecidableEq α] {l : List (α × Value)} {f : Value → Int} (h : (l.map (·.1)).Nodup) : AddsUp l f l 0 := ⟨by omega, h, fun _ h => h⟩

theorem AddsUp.step {α : Type} [DecidableEq α] {l left : List (α × Value)} {f : Value → Int} {c : Int} {k : α} {v : Value} (h : AddsUp l f left c) (hk : (k, v) ∈ left) : AddsUp l f (del left k) (c + f v) :=
  ⟨by have := sum_del (f := f) h.nodup hk; have := h.sum; omega, nodup_del h.nodup, fun q hq => h.sub q ((del_sublist _ _).subset hq)⟩

theorem sum_nonneg : ∀ (l : List Int), (∀ x ∈ l, 0 ≤ x) → 0 ≤ l.sum
  | [], _ => by simp
  | a :: l, h => by have h1 := h a (by simp); have h2 := sum_nonneg l (fun x hx => h x (by simp [hx])); simp; omega

theorem AddsUp.bounds {α : Type} [DecidableEq α] {l left : List (α × Value)} {f : Value → Int} {c : Int} (h : AddsUp l f left c) (hf : ∀ q ∈ l, 0 ≤ f q.2) : c ≤ (l.map (fun q => f q.2)).sum := by
  have h1 := sum_nonneg (left.map (fun q => f q.2)) (fun x hx => by obtain ⟨q, hq, rfl⟩ := List.mem_map.1 hx; exact hf q (h.sub q hq))
  have := h.sum
  omega

theorem AddsUp.bound {α : Type} [DecidableEq α] {l left : List (α × Value)} {f : Value → Int} {c : Int} {k : α} {v : Value} (h : AddsUp l f left c) (hf : ∀ q ∈ l, 0 ≤ f q.2) (hk : (k, v) ∈ left) : c + f v ≤ (l.map (fun q => f q.2)).sum ∧ 0 ≤ f v :=
  ⟨(h.step hk).bounds hf, hf _ (h.sub _ hk)⟩

def valInt : Value → Int
  | .int _ n => n
  | _ => 0

def valLen : Value → Int
  | .slice _ n _ => n
  | _ => 0

/-- how many pins there are -/
def Rep.pinSum (R : Rep) : Int := (R.pins.map (·.2)).sum

set_option maxRecDepth 100000 in
set_option maxHeartbeats 400000 in
theorem allPins_any (R : Rep) (w : World) (h : StoreAt w R) (hp : ∀ p ∈ R.pins, 0 ≤ p.2) (hs : R.pinSum ≤ 1000000000000000) :
    Calls Tryz.prog 23 #[.pointer (some ⟨R.sb, 0, none⟩)] w fun e w' => e = .returned (.int .i64 R.pinSum) ∧ Keeps (fun _ => False) w w' := by
  have c4 : w.cell? ⟨R.sb, 4, none⟩ = some (.map R.pm) := h.cell 4
  have hlt := h.lt
  have hM := h.works.pinsMap
  have hnd := hM.nodup
  have hsum : ((R.pins.map fun p => (p.1, Value.int .i64 p.2)).map (fun q => valInt q.2)).sum = R.pinSum := by unfold Rep.pinSum; rw [List.map_map]; rfl
  have hnn : ∀ q ∈ (R.pins.map fun p => (p.1, Value.int .i64 p.2)), 0 ≤ valInt q.2 := fun q hq => by
    obtain ⟨p, hp', rfl⟩ := List.mem_map.1 hq
    exact hp p hp'
  have hform : ∀ q ∈ (R.pins.map fun p => (p.1, Value.int .i64 p.2)), ∃ z, q.2 = .int .i64 z := fun q hq => by
    obtain ⟨p, hp', rfl⟩ := List.mem_map.1 hq
    exact ⟨_, rfl⟩
  rw [← hsum] at hs ⊢
  clear hsum hp
  generalize (R.pins.map fun p => (p.1, Value.int .i64 p.2)) = l at *
  have HM := hid hM
  have HND := hid hnd
  have HF := hid (And.intro hnn (And.intro hform hs))
  clear h hM hnd hnn hform hs
  go_enter Tryz.func23, Tryz.ntmps23
  go_wp2_with (at_range; go_must (refine wpList_range_opt _ rfl _ 59 rfl 3 3 Tryz.underlying59 R.pm rfl _ HM.out ?_; intro w1 hit hk1 hz1))
  go_frame
  go_loopw [3] (fun i wr => ∃ (c : Int) (left : List (Int × Value)), i = .int .i64 c ∧ 0 ≤ c ∧ OptIter (Value.int .i64) wr w.heap.size R.pm l left ∧ Keeps (fun _ => False) w wr ∧ w.heap.size < wr.heap.size ∧ AddsUp l valInt left c) (fun _ wr => optLeft R.pm w.heap.size wr)
  case atStart => exact ⟨0, _, rfl, Int.le_refl _, hit, hk1, by omega, AddsUp.start HND.out⟩
  case round =>
    obtain ⟨c, left, rfl, hc0, hit', hkr, hzr, hA⟩ := hrel
    clear hit hk1 hz1 w1
    have HA := hid hA
    clear hA
    go_wp2_with (at_next; go_must (refine wpList_next_opt _ rfl _ rfl intKeyOk R.pm w.heap.size rfl _ _ hit' ?_ ?_))
    · intro hnil
      have e := HA.out.sum
      rw [hnil] at e
      have HE := hid e
      clear hnil e
      go_wp2
      go_ret
      refine ⟨ret_int ?_, hkr⟩
      have := HE.out
      simp at this
      exact this
    · intro k v w2 hkv hit2 hk2 hz2 hen
      obtain ⟨z, hz⟩ := HF.out.2.1 _ (HA.out.sub _ hkv)
      simp only at hz
      subst hz
      have hb := HA.out.bound HF.out.1 hkv
      have hS := HF.out.2.2
      have hb1 : c + z ≤ 1000000000000000 := Int.le_trans hb.1 hS
      have hb2 : 0 ≤ z := hb.2
      have HI2 := hid hit2
      have HI1 := hid hit'
      have HKV := hid hkv
      clear hit2 hit' hkv hb hS
      go_wp2
      refine ⟨⟨c + z, del left k, rfl, by omega, HI2.out, hkr.trans hk2 (fun i hi e => ?_), by omega, HA.out.step HKV.out⟩, ?_⟩
      · have e' : i = w.heap.size := e
        omega
      · rw [HI2.out.left_eq, HI1.out.left_eq]
        exact del_less HKV.out

theorem total_hist {w : World} {R : Rep} (h : StoreAt w R) (t : Tied R) : ((R.hist.map fun p => (p.1, p.2.sl)).map (fun q => valLen q.2)).sum = R.total := by
  have e1 : ((R.hist.map fun p => (p.1, p.2.sl)).map (fun q => valLen q.2)) = (R.hist.map (·.1)).map (fun k => ((versOf R.hist k).length : Int)) := by
    rw [List.map_map, List.map_map]
    apply List.map_congr_left
    intro p hp
    obtain ⟨a, cap, e, _⟩ := (h.past.histEach p hp).form
    have e2 := (vers_of_mem (hist_nodup h.past) hp).2
    simp only [Function.comp_apply]
    rw [e, e2]
    rfl
  have hperm : (R.hist.map (·.1)).Perm R.keys := by
    refine (List.perm_ext_iff_of_nodup (hist_nodup h.past) (rises_nodup t.rises)).2 (fun k => ?_)
    rw [← look_isSome, ← memB_iff, t.keys]
  have e3 : ∀ l : List ByteArray, ((l.map (fun k => ((versOf R.hist k).length : Int))).sum) = ((l.map (fun k => (versOf R.hist k).length)).sum : Nat) := fun l => by
    induction l with
    | nil => rfl
    | cons a l ih => simp only [List.map_cons, List.sum_cons, ih]; omega
  rw [e1, e3]
  unfold Rep.total
  congr 1
  exact (hperm.map _).sum_nat

set_option maxRecDepth 100000 in
set_option maxHeartbeats 400000 in
theorem count_all (R : Rep) (w : World) (h : StoreAt w R) (t : Tied R) (hs : R.total ≤ 1000000000000000) :
    Calls Tryz.prog 24 #[.pointer (some ⟨R.sb, 7, none⟩)] w fun e w' => e = .returned (.int .i64 R.total) ∧ Keeps (fun _ => False) w w' := by
  have c6 : w.cell? ⟨R.sb, 8, none⟩ = some (.map R.vm) := h.cell 8
  have hlt := h.lt
  have hM := h.past.histMap
  have hnd := hM.nodup
  have hsum := total_hist h t
  have hform : ∀ q ∈ (R.hist.map fun p => (p.1, p.2.sl)), ∃ a m cap, q.2 = .slice a m cap := fun q hq => by
    obtain ⟨p, hp, rfl⟩ := List.mem_map.1 hq
    obtain ⟨a, cap, e, _⟩ := (h.past.histEach p hp).form
    exact ⟨a, _, cap, e⟩
  have hnn : ∀ q ∈ (R.hist.map fun p => (p.1, p.2.sl)), 0 ≤ valLen q.2 := fun q hq => by
    obtain ⟨a, m, cap, e⟩ := hform q hq
    rw [e]
    simp [valLen]
  have hs' : ((R.hist.map fun p => (p.1, p.2.sl)).map (fun q => valLen q.2)).sum ≤ 1000000000000000 := by rw [hsum]; omega
  rw [← hsum]
  clear hsum hs
  generalize (R.hist.map fun p => (p.1, p.2.sl)) = l at *
  have HM := hid hM
  have HND := hid hnd
  have HF := hid (And.intro hnn (And.intro hform hs'))
  clear h hM hnd hnn hform hs' t
  go_enter Tryz.func24, Tryz.ntmps24
  go_wp2_with (at_range; go_must (refine wpList_range_opt _ rfl _ 61 rfl 9 114 Tryz.underlying61 R.vm rfl _ HM.out ?_; intro w1 hit hk1 hz1))
  go_frame
  go_loopw [3] (fun i wr => ∃ (c : Int) (left : List (ByteArray × Value)), i = .int .i64 c ∧ 0 ≤ c ∧ OptIter Value.string wr w.heap.size R.vm l left ∧ Keeps (fun _ => False) w wr ∧ w.heap.size < wr.heap.size ∧ AddsUp l valLen left c) (fun _ wr => optLeft R.vm w.heap.size wr)
  case atStart => exact ⟨0, _, rfl, Int.le_refl _, hit, hk1, by omega, AddsUp.start HND.out⟩
  case round =>
    obtain ⟨c, left, rfl, hc0, hit', hkr, hzr, hA⟩ := hrel
    clear hit hk1 hz1 w1
    have HA := hid hA
    clear hA
    go_wp2_with (at_next; go_must (refine wpList_next_opt _ rfl _ rfl strKeyOk R.vm w.heap.size rfl _ _ hit' ?_ ?_))
    · intro hnil
      have e := HA.out.sum
      rw [hnil] at e
      have HE := hid e
      clear hnil e
      go_wp2
      go_ret
      refine ⟨ret_int ?_, hkr⟩
      have := HE.out
      simp at this
      exact this
    · intro k v w2 hkv hit2 hk2 hz2 hen
      obtain ⟨a, m, cap, hz⟩ := HF.out.2.1 _ (HA.out.sub _ hkv)
      simp only at hz
      subst hz
      have hb := HA.out.bound HF.out.1 hkv
      have hS := HF.out.2.2
      have hb1 : c + (m : Int) ≤ 1000000000000000 := Int.le_trans hb.1 hS
      have HI2 := hid hit2
      have HI1 := hid hit'
      have HKV := hid hkv
      clear hit2 hit' hkv hb hS
      go_wp2
      refine ⟨⟨c + m, del left k, rfl, by omega, HI2.out, hkr.trans hk2 (fun i hi e => ?_), by omega, HA.out.step HKV.out⟩, ?_⟩
      · have e' : i = w.heap.size := e
        omega
      · rw [HI2.out.left_eq, HI1.out.left_eq]
        exact del_less HKV.out

end Go.Proofs.YtpagenipflmlfaaGreatDoor
