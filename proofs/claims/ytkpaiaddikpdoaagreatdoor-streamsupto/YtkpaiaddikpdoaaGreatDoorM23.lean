import Derived.Test.YtkpaiaddikpdoaaGreatDoorM22

/- Lists that their owner has written full, of records: what is put behind them. -/
namespace Go.Proofs.YtkpaiaddikpdoaaGreatDoor
open Go.RowKit

/-! ### append of one pattern again and again (c: what stands at each place): whatever holds that pattern alone goes on doing so -/

theorem Row.like_kept {w w' : World} {e : TypeId} {size : Nat} {u : Value} {k : Nat} {ys : List Value} {c : Nat → Value} {g : Nat} {cur cur' : Array Value} (h : Row w e size u k ys) (hy : ∀ j y, ys[j]? = some y → y = c j)
    (hg : w.heap[g]? = some (.cells cur e (0, 0))) (hg' : w'.heap[g]? = some (.cells cur' e (0, 0))) (hs : cur'.size = cur.size) (hc : ∀ (j : Nat) v, cur'[j]? = some v → cur[j]? = some v ∨ v = c j) (ho : ∀ j, j ≠ g → w'.heap[j]? = w.heap[j]?) : Row w' e size u k ys := by
  refine ⟨h.1, ?_⟩
  rcases h.2 with h2 | ⟨b, cap, cb, rfl, hb, h3, h4, h5, h6⟩
  · exact .inl h2
  · by_cases e1 : b = g
    · subst e1
      rw [hg] at hb
      simp only [Option.some.injEq, Obj.cells.injEq] at hb
      obtain ⟨rfl, -⟩ := hb
      refine .inr ⟨b, cap, cur', rfl, hg', h3, h4, by rw [hs]; exact h5, ?_⟩
      have hlen := h.1
      have hle : k * size ≤ cur.size := Nat.le_trans (Nat.mul_le_mul_right _ h3) h5
      apply List.ext_getElem?
      intro j
      by_cases hj : j < k * size
      · rw [List.getElem?_take_of_lt hj]
        have hj1 : j < cur.toList.length := by simp; omega
        have hyj : ys[j]? = cur.toList[j]? := by rw [← h6, List.getElem?_take_of_lt hj]
        have hjy : j < ys.length := by omega
        have hyc : ys[j]? = some (c j) := by rw [List.getElem?_eq_getElem hjy, ← hy j _ (List.getElem?_eq_getElem hjy)]
        have hj2 : j < cur'.size := by omega
        have hv : cur'[j]? = some cur'[j] := Array.getElem?_eq_getElem hj2
        rw [hyc, Array.getElem?_toList, hv]
        rcases hc j _ hv with e2 | e2
        · rw [hyj, Array.getElem?_toList, e2] at hyc
          exact hyc
        · rw [e2]
      · rw [List.getElem?_eq_none (by simp; omega), List.getElem?_eq_none (by omega)]
    · exact .inr ⟨b, cap, cb, rfl, by rw [ho b e1]; exact hb, h3, h4, h5, h6⟩

theorem run_append_like {P : Program} (w : World) (t ty e : TypeId) (i : TypeInfo) (z : Value) (size bytes : Nat) (ht : P.underlying t = some (.slice e)) (hi : P.info? e = some i) (hz : i.zero = some z)
    (hsize : i.size = size) (hby : i.bytes = bytes) (hzs : z.cells.size = size)
    (v : Value) (n : Nat) (xs : List Value) (hown : Row w e size v n xs)
    (a : Addr) (m c : Nat) (news : List Value) (hl : news.length = m * size) (hnews : ∀ j u, news[j]? = some u → w.cell? (a.add j) = some u) (h1 : ∀ u ∈ news, u.oneCell' = true)
    (h63 : n + m ≤ maxLen) (hbytes : (n + m) * bytes ≤ 140737488355328) (x : Nat → Value) (hx : ∀ j u, news[j]? = some u → u = x (n * size + j)) :
    ∃ v' w', (Builtin.append_ #[t, t] ty #[v, .slice (some a) m c]).run P w = .ok v' w' ∧ Row w' e size v' (n + m) (xs ++ news) ∧ w.grownBy w' v.ownBlock ∧
      (v' = .slice none 0 0 ↔ v = .slice none 0 0 ∧ m = 0) ∧ (v'.ownBlock = v.ownBlock ∨ v'.ownBlock = some w.heap.size) ∧ ∀ u k ys, Row w e size u k ys → (∀ j y, ys[j]? = some y → y = x j) → Row w' e size u k ys := by
  subst hsize
  subst hby
  have hsmall : n + m ≤ 9223372036854775807 := by simp only [maxLen] at h63; omega
  have hlen : (xs ++ news).length = (n + m) * i.size := by rw [List.length_append, hown.1, hl, Nat.add_mul]
  have grown : ∀ (old : Nat), old < n + m → ∀ (row : Option Nat),
      Row (w.drew.alloc (.cells (xs.toArray ++ news.toArray ++ Builtin.zeroCells z.cells (grownCap w (n + m) old e - (n + m))) e)) e i.size
        (.slice (some ⟨w.heap.size, 0, none⟩) (n + m) (grownCap w (n + m) old e)) (n + m) (xs ++ news) ∧
      w.grownBy (w.drew.alloc (.cells (xs.toArray ++ news.toArray ++ Builtin.zeroCells z.cells (grownCap w (n + m) old e - (n + m))) e)) row := by
    intro old ho row
    have hge := grownCap_ge w (n + m) old e
    have hcm : grownCap w (n + m) old e ≤ maxLen := grownCap_le_maxLen w (n + m) old e h63
    refine ⟨⟨hlen, .inr ⟨w.heap.size, _, _, rfl, Go.heap_alloc_new w.drew _, hge, hcm, ?_, ?_⟩⟩, ⟨rfl, rfl, rfl, by simp, fun k hk _ => Go.heap_alloc_old w.drew _ hk⟩⟩
    · simp only [Array.size_append, List.size_toArray, size_zeroCells, hzs, hown.1, hl, ← Nat.add_mul]
      apply Nat.mul_le_mul_right
      omega
    · simp only [Array.toList_append, List.append_assoc]
      rw [← List.append_assoc, ← hlen]
      exact List.take_left
  have kept : ∀ (o : Obj) u k ys, Row w e i.size u k ys → (∀ j y, ys[j]? = some y → y = x j) → Row (w.drew.alloc o) e i.size u k ys := fun o u k ys hr _ =>
    hr.kept ((Keeps.refl (fun _ => False) w).dr.al o) (fun _ _ h => h)
  rcases hown.2 with ⟨rfl, rfl⟩ | ⟨g, cap, cur, rfl, hg, hnc, hcm, hcs, htake⟩
  · have hxs : xs = [] := List.eq_nil_of_length_eq_zero (by simpa using hown.1)
    subst hxs
    by_cases hm : m = 0
    · subst hm
      have hn : news = [] := List.eq_nil_of_length_eq_zero (by simpa using hl)
      subst hn
      refine ⟨.slice none 0 0, w, ?_, Row.nil w e i.size, ⟨rfl, rfl, rfl, Nat.le_refl _, fun _ _ _ => rfl⟩, by simp, Or.inl rfl, fun _ _ _ h _ => h⟩
      simp [Builtin.append_, run_underlying ht, sizeOf, typeInfo, hi, Builtin.lenOf, Builtin.firstCells, loadCells, loadCellsFrom]
    · have hr := run_append_nil (P := P) w t ty e i z ht hi hz a m c news hl hnews (by omega) (by omega) (by have hb := hbytes; simp only [Nat.zero_add] at hb; omega)
      have hgr := grown 0 (by omega) (Value.ownBlock (.slice none 0 0))
      simp only [Nat.zero_add, List.nil_append, Array.empty_append] at hgr ⊢
      exact ⟨_, _, hr, hgr.1, hgr.2, by simp [hm], Or.inr rfl, kept _⟩
  · by_cases hroom : n + m ≤ cap
    · have hfit : n * i.size + news.length ≤ cur.size := by rw [hl, ← Nat.add_mul]; exact Nat.le_trans (Nat.mul_le_mul_right _ hroom) hcs
      have hr := run_append_room (P := P) w t ty e i ht hi g n cap cur hg a m c news hl hnews h1 hroom hfit
      refine ⟨_, _, hr, ⟨hlen, .inr ⟨g, cap, _, rfl, setRow_heap w g cur _ e _ hg, hroom, hcm, ?_, ?_⟩⟩, ⟨rfl, rfl, rfl, by simp, fun k _ hk => setRow_other w g k _ (fun e => hk (by simp [Value.ownBlock, e]))⟩, by simp, Or.inl rfl, fun u k ys hu hy => ?_⟩
      · simp only [List.size_toArray, List.length_append, List.length_take, List.length_drop, Array.length_toList]
        omega
      · rw [htake, ← hlen]
        exact List.take_left
      · refine Row.like_kept hu hy hg (setRow_heap w g cur _ e _ hg) ?_ ?_ (fun j hj => setRow_other w g j _ hj)
        · simp only [List.size_toArray, List.length_append, List.length_take, List.length_drop, Array.length_toList]
          omega
        · intro j v hv
          simp only [List.getElem?_toArray] at hv
          rw [List.getElem?_append, List.getElem?_append] at hv
          split at hv
          · split at hv
            · rename_i h2 h3
              left
              simp only [List.length_take, Array.length_toList] at h3
              rw [List.getElem?_take_of_lt (by omega), Array.getElem?_toList] at hv
              exact hv
            · rename_i h2 h3
              right
              simp only [List.length_take, Array.length_toList] at h3 hv
              have := hx _ v hv
              rw [this]
              congr 1
              omega
          · rename_i h2
            left
            simp only [List.length_append, List.length_take, Array.length_toList] at h2 hv
            rw [List.getElem?_drop, Array.getElem?_toList] at hv
            rw [← hv]
            congr 1
            omega
    · have holds : ∀ j u, xs[j]? = some u → w.cell? ((⟨g, 0, none⟩ : Addr).add j) = some u := by
        intro j u hj
        have hjl : j < n * i.size := by
          have := (List.getElem?_eq_some_iff.1 hj).1
          rw [hown.1] at this
          exact this
        have := hown.cellAt j hjl
        rw [Addr.add_lit, Nat.zero_add, this, hj]
      have hr := run_append_grow (P := P) w t ty e i z ht hi hz ⟨g, 0, none⟩ n cap xs hown.1 holds a m c news hl hnews (by omega) (by omega) (growslice_fits (by omega) hbytes)
      have hgr := grown cap (by omega) (Value.ownBlock (.slice (some ⟨g, 0, none⟩) n cap))
      exact ⟨_, _, hr, hgr.1, hgr.2, by simp, Or.inr rfl, kept _⟩

/-- .. at the operation. -/
theorem wpList_append_like {P : Program} (w : World) {ops : Array Oper} {rest : List Oper} {o : Oper} {a : Act} {Q : Exit → Act → World → Prop} (hgd : o.guard = none) (s x : Operand) (t : TypeId)
    (ho : o.op = .call { callee := .builtin .append, args := #[s, x], argTypes := #[t, t] })
    (e : TypeId) (i : TypeInfo) (z : Value) (size bytes : Nat) (ht : P.underlying t = some (.slice e)) (hi : P.info? e = some i) (hz : i.zero = some z)
    (hsize : i.size = size) (hby : i.bytes = bytes) (hzs : z.cells.size = size)
    (v : Value) (n : Nat) (xs : List Value) (hs : a.eval s = v) (hown : Row w e size v n xs)
    (ad : Addr) (m c : Nat) (news : List Value) (hx : a.eval x = .slice (some ad) m c) (hl : news.length = m * size) (hnews : ∀ j u, news[j]? = some u → w.cell? (ad.add j) = some u) (h1 : ∀ u ∈ news, u.oneCell' = true)
    (h63 : n + m ≤ maxLen) (hbytes : (n + m) * bytes ≤ 140737488355328) (y : Nat → Value) (hy : ∀ j u, news[j]? = some u → u = y (n * size + j))
    (h : ∀ v' w', Row w' e size v' (n + m) (xs ++ news) → w.grownBy w' v.ownBlock → (v'.ownBlock = v.ownBlock ∨ v'.ownBlock = some w.heap.size) → (∀ u k ys, Row w e size u k ys → (∀ j q, ys[j]? = some q → q = y j) → Row w' e size u k ys) → wpList P ops Q rest (a.put o.dst v') w') :
    wpList P ops Q (o :: rest) a w := by
  refine wpList_plain hgd fun K hK => ?_
  obtain ⟨v', w', hr, h2, h3, h4, h5, h6⟩ := run_append_like (P := P) w t o.type e i z size bytes ht hi hz hsize hby hzs v n xs hown ad m c news hl hnews h1 h63 hbytes y hy
  unfold Oper.wp execOp
  simp only [ho, resolve, invoke, builtin, Sem.run_bind, Sem.run_pure, Result.andThen_ok, List.map_toArray, List.map_cons, List.map_nil, hs, hx, hr]
  exact hK _ _ (h v' w' h2 h3 h5 h6)

theorem Row.setAt {w : World} {e : TypeId} {size g n cap : Nat} {xs : List Value} (h : Row w e size (.slice (some ⟨g, 0, none⟩) n cap) n xs) (i : Nat) (u : Value) : Row (w.setCell ⟨g, i, none⟩ u) e size (.slice (some ⟨g, 0, none⟩) n cap) n (xs.set i u) := by
  refine ⟨by simpa using h.1, ?_⟩
  rcases h.2 with ⟨h2, _⟩ | ⟨g', cap', cur, hv, hh, h3, h4, h5, h6⟩
  · simp at h2
  · simp at hv
    obtain ⟨rfl, rfl⟩ := hv
    refine .inr ⟨g, cap, cur.setIfInBounds i u, rfl, heap_setCell_same hh u, h3, h4, by simpa using h5, ?_⟩
    rw [← h6]
    simp [List.take_set]

end Go.Proofs.YtkpaiaddikpdoaaGreatDoor

/- The book of a law: its lists of records, each with its mark. -/
namespace Go.Proofs.YtkpaiaddikpdoaaGreatDoor
open Go.RowKit Go.Shelf


/-! ### records written full -/
def patR (m : ByteArray) (j : Nat) : Value := if j % 3 = 2 then .bool true else .string m
def fullR (m : ByteArray) (n : Nat) : List Value := (List.range (n * 3)).map (patR m)

theorem fullR_len (m : ByteArray) (n : Nat) : (fullR m n).length = n * 3 := by simp [fullR]
theorem fullR_get (m : ByteArray) {n j : Nat} (h : j < n * 3) : (fullR m n)[j]? = some (patR m j) := by simp [fullR, h]
theorem fullR_like (m : ByteArray) (n : Nat) : ∀ j y, (fullR m n)[j]? = some y → y = patR m j := by
  intro j y h
  have hj : j < n * 3 := by have := (List.getElem?_eq_some_iff.1 h).1; rwa [fullR_len] at this
  rw [fullR_get m hj] at h
  exact (Option.some.inj h).symm
theorem patR_add (m : ByteArray) (n j : Nat) : patR m (n * 3 + j) = patR m j := by
  unfold patR
  rw [show (n * 3 + j) % 3 = j % 3 by omega]
theorem fullR_add (m : ByteArray) (n k : Nat) : fullR m n ++ fullR m k = fullR m (n + k) := by
  apply List.ext_getElem?
  intro j
  by_cases h : j < n * 3
  · rw [List.getElem?_append_left (by rw [fullR_len]; exact h), fullR_get m h, fullR_get m (by omega)]
  · rw [List.getElem?_append_right (by rw [fullR_len]; omega), fullR_len]
    by_cases h2 : j < (n + k) * 3
    · rw [fullR_get m (by omega), fullR_get m h2, ← patR_add m n, show n * 3 + (j - n * 3) = j by omega]
    · rw [List.getElem?_eq_none (by rw [fullR_len]; omega), List.getElem?_eq_none (by rw [fullR_len]; omega)]
theorem fullR_new (m : ByteArray) (n k : Nat) : ∀ j u, (fullR m k)[j]? = some u → u = patR m (n * 3 + j) := fun j u h => by rw [patR_add]; exact fullR_like m k j u h

/-- a list that is written full, as far as the loop has come -/
def mixR (m : ByteArray) (xs : List Value) (i : Nat) : List Value := fullR m i ++ xs.drop (i * 3)
theorem mixR_zero (m : ByteArray) (xs : List Value) : mixR m xs 0 = xs := by simp [mixR, fullR]
theorem mixR_full (m : ByteArray) {xs : List Value} {n : Nat} (h : xs.length = n * 3) : mixR m xs n = fullR m n := by
  unfold mixR
  rw [List.drop_of_length_le (by omega), List.append_nil]
theorem mixR_len (m : ByteArray) {xs : List Value} {n i : Nat} (h : xs.length = n * 3) (hi : i ≤ n) : (mixR m xs i).length = n * 3 := by
  unfold mixR
  rw [List.length_append, fullR_len, List.length_drop]
  omega
theorem mixR_next (m : ByteArray) {xs : List Value} {n i : Nat} (h : xs.length = n * 3) (hi : i < n) : (((mixR m xs i).set (i * 3) (.string m)).set (i * 3 + 1) (.string m)).set (i * 3 + 2) (.bool true) = mixR m xs (i + 1) := by
  have hl := mixR_len m h (Nat.le_of_lt hi)
  apply List.ext_getElem?
  intro j
  rw [List.getElem?_set, List.getElem?_set, List.getElem?_set]
  simp only [List.length_set, hl]
  have hm : ∀ j, j < (i + 1) * 3 → (mixR m xs (i + 1))[j]? = some (patR m j) := fun j hj => by
    unfold mixR
    rw [List.getElem?_append_left (by rw [fullR_len]; exact hj), fullR_get m hj]
  by_cases h2 : i * 3 + 2 = j
  · rw [if_pos h2, if_pos (by omega), hm j (by omega)]
    unfold patR
    rw [if_pos (by omega)]
  · rw [if_neg h2]
    by_cases h1 : i * 3 + 1 = j
    · rw [if_pos h1, if_pos (by omega), hm j (by omega)]
      unfold patR
      rw [if_neg (by omega)]
    · rw [if_neg h1]
      by_cases h0 : i * 3 = j
      · rw [if_pos h0, if_pos (by omega), hm j (by omega)]
        unfold patR
        rw [if_neg (by omega)]
      · rw [if_neg h0]
        unfold mixR
        by_cases h3 : j < i * 3
        · rw [List.getElem?_append_left (by rw [fullR_len]; exact h3), List.getElem?_append_left (by rw [fullR_len]; omega), fullR_get m h3, fullR_get m (by omega)]
        · rw [List.getElem?_append_right (by rw [fullR_len]; omega), List.getElem?_append_right (by rw [fullR_len]; omega), List.getElem?_drop, List.getElem?_drop, fullR_len, fullR_len]
          congr 1
          omega

/-! ### the book of a law: lists of records, each with its mark -/

structure BookRAt (K : Nat) (w : World) (bb : Nat) (vp vm : Value) (nx : Int) (Ls : List (Value × ByteArray)) : Prop where
  top : w.heap[bb]? = some (.cells #[.slice none 0 0, .slice none 0 0, vp, vm, .int .i64 nx] 28 (0, 0))
  pairs : Row w 32 1 vp Ls.length (Ls.map fun p => p.1)
  marks : Row w 9 1 vm Ls.length (Ls.map fun p => .string p.2)
  lists : ∀ p ∈ Ls, ∃ n, n ≤ 100000000000 ∧ Row w 31 3 p.1 n (fullR p.2 n)
  len : Ls.length ≤ 4 * K
  nx : 0 ≤ nx ∧ nx ≤ K

def bookRFp (bb : Nat) (vp vm : Value) (Ls : List (Value × ByteArray)) : List Nat := bb :: (vp.ownBlock.toList ++ (vm.ownBlock.toList ++ Ls.flatMap (fun p => p.1.ownBlock.toList)))

/-- the book at bb; its blocks are G -/
def BookR (K : Nat) (w : World) (bb : Nat) (G : List Nat) : Prop := ∃ vp vm nx Ls, BookRAt K w bb vp vm nx Ls ∧ G = bookRFp bb vp vm Ls

theorem mem_bookRFp {bb : Nat} {vp vm : Value} {Ls : List (Value × ByteArray)} {k : Nat} : k ∈ bookRFp bb vp vm Ls ↔ k = bb ∨ vp.ownBlock = some k ∨ vm.ownBlock = some k ∨ ∃ p ∈ Ls, p.1.ownBlock = some k := by
  simp only [bookRFp, List.mem_cons, List.mem_append, List.mem_flatMap, Option.mem_toList]

theorem BookRAt.kept {K : Nat} {w w' : World} {bb : Nat} {vp vm : Value} {nx : Int} {Ls : List (Value × ByteArray)} {S : Nat → Prop} (h : BookRAt K w bb vp vm nx Ls) (hk : Keeps S w w') (hS : ∀ k ∈ bookRFp bb vp vm Ls, ¬ S k) : BookRAt K w' bb vp vm nx Ls := by
  refine ⟨(hk.block _ (Array.getElem?_eq_some_iff.1 h.top).1 (hS _ (mem_bookRFp.2 (.inl rfl)))).trans h.top, h.pairs.kept hk (fun g hg => hS g (mem_bookRFp.2 (.inr (.inl hg)))), h.marks.kept hk (fun g hg => hS g (mem_bookRFp.2 (.inr (.inr (.inl hg))))), fun p hp => ?_, h.len, h.nx⟩
  obtain ⟨n, h1, h2⟩ := h.lists p hp
  exact ⟨n, h1, h2.kept hk (fun g hg => hS g (mem_bookRFp.2 (.inr (.inr (.inr ⟨p, hp, hg⟩)))))⟩

theorem BookRAt.lt {K : Nat} {w : World} {bb : Nat} {vp vm : Value} {nx : Int} {Ls : List (Value × ByteArray)} (h : BookRAt K w bb vp vm nx Ls) : ∀ k ∈ bookRFp bb vp vm Ls, k < w.heap.size := by
  intro k hk
  rcases mem_bookRFp.1 hk with rfl | h1 | h1 | ⟨p, hp, h1⟩
  · exact (Array.getElem?_eq_some_iff.1 h.top).1
  · exact h.pairs.lt h1
  · exact h.marks.lt h1
  · obtain ⟨n, _, h2⟩ := h.lists p hp
    exact h2.lt h1

theorem BookR.kept {K : Nat} {w w' : World} {bb : Nat} {G : List Nat} {S : Nat → Prop} (h : BookR K w bb G) (hk : Keeps S w w') (hS : ∀ k ∈ G, ¬ S k) : BookR K w' bb G := by
  obtain ⟨vp, vm, nx, Ls, h1, rfl⟩ := h
  exact ⟨vp, vm, nx, Ls, h1.kept hk hS, rfl⟩

theorem BookR.lt {K : Nat} {w : World} {bb : Nat} {G : List Nat} (h : BookR K w bb G) : ∀ k ∈ G, k < w.heap.size := by
  obtain ⟨vp, vm, nx, Ls, h1, rfl⟩ := h
  exact h1.lt

theorem BookR.more {K K' : Nat} {w : World} {bb : Nat} {G : List Nat} (h : BookR K w bb G) (hK : K ≤ K') : BookR K' w bb G := by
  obtain ⟨vp, vm, nx, Ls, h1, rfl⟩ := h
  exact ⟨vp, vm, nx, Ls, ⟨h1.top, h1.pairs, h1.marks, h1.lists, by have := h1.len; omega, by have := h1.nx; omega⟩, rfl⟩

theorem new_bookR {w : World} {bb : Nat} (h : w.heap[bb]? = some (.cells #[.slice none 0 0, .slice none 0 0, .slice none 0 0, .slice none 0 0, .int .i64 0] 28 (0, 0))) : BookR 0 w bb [bb] :=
  ⟨_, _, _, [], ⟨h, Row.nil _ _ _, Row.nil _ _ _, fun p hp => (by cases hp), by simp, by simp⟩, by simp [bookRFp, Value.ownBlock]⟩

theorem Tryz.infoRecs : (Tryz.prog.info? 32).map (fun i => (i.zero, i.size, i.bytes)) = some (some (.slice none 0 0), 1, 24) := by kernel_rfl

/-- what ownsRecords leaves -/
def OwnsRPost (K bb : Nat) (vp vm : Value) (Ls : List (Value × ByteArray)) (v : Value) (w w' : World) : Prop :=
  ∃ G', BookR (K + 1) w' bb G' ∧ Keeps (fun k => k ∈ bookRFp bb vp vm Ls ∨ v.ownBlock = some k) w w' ∧ ∀ k ∈ G', k ∈ bookRFp bb vp vm Ls ∨ v.ownBlock = some k ∨ w.heap.size ≤ k

/-- the end of it: what holds behind the appends -/
theorem ownsR_close {K bb : Nat} {vp vm vp' vm' v v1 v2 v3 : Value} {nx : Int} {Ls : List (Value × ByteArray)} {m : ByteArray} {n : Nat} {w w6 w' : World} (h : BookRAt K w bb vp vm nx Ls) (hv : ∀ g, v.ownBlock = some g → g ∉ bookRFp bb vp vm Ls) (hn : n ≤ 20000000000)
    (k6 : Keeps (fun k => k = bb ∨ v.ownBlock = some k) w w6) (k7 : Keeps (fun k => k = bb ∨ vp.ownBlock = some k ∨ vm.ownBlock = some k) w6 w')
    (b6 : ∃ cs, w6.heap[bb]? = some (.cells cs 28 (0, 0))) (top : w'.heap[bb]? = some (.cells #[.slice none 0 0, .slice none 0 0, vp', vm', .int .i64 (nx + 1)] 28 (0, 0)))
    (r0 : Row w6 31 3 v n (fullR m n)) (r1 : Row w6 31 3 v1 (n + 1) (fullR m (n + 1))) (r2 : Row w6 31 3 v2 (n + 2) (fullR m (n + 2))) (r3 : Row w6 31 3 v3 (n + 3) (fullR m (n + 3)))
    (o1 : ∀ g, v1.ownBlock = some g → v.ownBlock = some g ∨ w.heap.size ≤ g) (o2 : ∀ g, v2.ownBlock = some g → v.ownBlock = some g ∨ w.heap.size ≤ g) (o3 : ∀ g, v3.ownBlock = some g → v.ownBlock = some g ∨ w.heap.size ≤ g)
    (rp : Row w' 32 1 vp' (Ls.length + 4) ((Ls.map fun p => p.1) ++ [v, v1, v2, v3])) (rm : Row w' 9 1 vm' (Ls.length + 4) ((Ls.map fun p => .string p.2) ++ [.string m, .string m, .string m, .string m]))
    (op : ∀ g, vp'.ownBlock = some g → vp.ownBlock = some g ∨ w.heap.size ≤ g) (om : ∀ g, vm'.ownBlock = some g → vm.ownBlock = some g ∨ w.heap.size ≤ g) : OwnsRPost K bb vp vm Ls v w w' := by
  have hsz := k6.size
  have hp6 : Row w6 32 1 vp Ls.length (Ls.map fun p => p.1) := h.pairs.kept k6 (fun g hg e => by
    rcases e with rfl | e
    · exact (h.pairs.typeIs hg).ne (e' := 28) (by decide) ⟨_, h.top⟩
    · exact hv g e (mem_bookRFp.2 (.inr (.inl hg))))
  have hm6 : Row w6 9 1 vm Ls.length (Ls.map fun p => .string p.2) := h.marks.kept k6 (fun g hg e => by
    rcases e with rfl | e
    · exact (h.marks.typeIs hg).ne (e' := 28) (by decide) ⟨_, h.top⟩
    · exact hv g e (mem_bookRFp.2 (.inr (.inr (.inl hg)))))
  have pk : ∀ {u : Value} {k : Nat} {ys : List Value}, Row w6 31 3 u k ys → Row w' 31 3 u k ys := fun {u k ys} hu => hu.kept k7 (fun g hg e => by
    rcases e with rfl | e | e
    · exact (hu.typeIs hg).ne (e' := 28) (by decide) b6
    · exact (hu.typeIs hg).ne (e' := 32) (by decide) (hp6.typeIs e)
    · exact (hu.typeIs hg).ne (e' := 9) (by decide) (hm6.typeIs e))
  have hlen := h.len
  have hnx := h.nx
  refine ⟨_, ⟨vp', vm', nx + 1, Ls ++ [(v, m), (v1, m), (v2, m), (v3, m)], ⟨top, by simpa using rp, by simpa using rm, fun p hp => ?_, by simp; omega, by omega⟩, rfl⟩, ?_, fun k hk => ?_⟩
  · rcases List.mem_append.1 hp with hp | hp
    · obtain ⟨j, hj, hrow⟩ := h.lists p hp
      refine ⟨j, hj, pk (hrow.kept k6 (fun g hg e => ?_))⟩
      rcases e with rfl | e
      · exact (hrow.typeIs hg).ne (e' := 28) (by decide) ⟨_, h.top⟩
      · exact hv g e (mem_bookRFp.2 (.inr (.inr (.inr ⟨p, hp, hg⟩))))
    · simp only [List.mem_cons, List.not_mem_nil, or_false] at hp
      rcases hp with rfl | rfl | rfl | rfl
      · exact ⟨n, by omega, pk r0⟩
      · exact ⟨n + 1, by omega, pk r1⟩
      · exact ⟨n + 2, by omega, pk r2⟩
      · exact ⟨n + 3, by omega, pk r3⟩
  · exact (k6.mono (T := fun k => k ∈ bookRFp bb vp vm Ls ∨ v.ownBlock = some k) (fun k _ hk => by
      rcases hk with rfl | hk
      · exact .inl (mem_bookRFp.2 (.inl rfl))
      · exact .inr hk)).tr k7 (fun k hk => by
      rcases hk with rfl | hk | hk
      · exact .inl (mem_bookRFp.2 (.inl rfl))
      · exact .inl (mem_bookRFp.2 (.inr (.inl hk)))
      · exact .inl (mem_bookRFp.2 (.inr (.inr (.inl hk)))))
  · rcases mem_bookRFp.1 hk with rfl | h1 | h1 | ⟨p, hp, h1⟩
    · exact .inl (mem_bookRFp.2 (.inl rfl))
    · exact (op k h1).elim (fun e => .inl (mem_bookRFp.2 (.inr (.inl e)))) (fun e => .inr (.inr e))
    · exact (om k h1).elim (fun e => .inl (mem_bookRFp.2 (.inr (.inr (.inl e))))) (fun e => .inr (.inr e))
    · rcases List.mem_append.1 hp with hp | hp
      · exact .inl (mem_bookRFp.2 (.inr (.inr (.inr ⟨p, hp, h1⟩))))
      · simp only [List.mem_cons, List.not_mem_nil, or_false] at hp
        rcases hp with rfl | rfl | rfl | rfl
        · exact .inr (.inl h1)
        · exact .inr (o1 k h1)
        · exact .inr (o2 k h1)
        · exact .inr (o3 k h1)

end Go.Proofs.YtkpaiaddikpdoaaGreatDoor

/- ownsRecords: the walk. -/
namespace Go.Proofs.YtkpaiaddikpdoaaGreatDoor
open Go.RowKit Go.Shelf

set_option maxRecDepth 100000 in
set_option maxHeartbeats 4000000 in
theorem ownsRecords_any {K bb : Nat} {vp vm : Value} {nx : Int} {Ls : List (Value × ByteArray)} (v : Value) (n : Nat) (xs : List Value) (w : World) (h : BookRAt K w bb vp vm nx Ls) (hr : Row w 31 3 v n xs) (hv : ∀ g, v.ownBlock = some g → g ∉ bookRFp bb vp vm Ls) (hn : n ≤ 20000000000) (hK : K ≤ 10000000000) :
    Calls Tryz.prog 14 #[.pointer (some ⟨bb, 0, none⟩), v] w fun e w' => e = .returned (.tuple #[]) ∧ OwnsRPost K bb vp vm Ls v w w' := by
  have HM := hid (mark_any bb (.slice none 0 0) (.slice none 0 0) vp vm nx w h.top h.nx.1 (by have := h.nx.2; omega))
  obtain ⟨oa, ca, rfl, hm, sa⟩ := hr.form
  obtain ⟨op, cp, rfl, hmp, -⟩ := h.pairs.form
  obtain ⟨om, cm, rfl, hmm, -⟩ := h.marks.form
  have HB := hid h
  have HV := hid hv
  have SA := hid sa
  have HXL : Hid (xs.length = n * 3) := hr.1
  have HLL : Hid (Ls.length ≤ 40000000000) := by have := h.len; show _ ≤ _; omega
  have HR := hid hr
  obtain ⟨i0, hi, hz0, hz1, hz2⟩ := info_parts Tryz.infoRec
  obtain ⟨i1, hi1, hz10, hz11, hz12⟩ := info_parts Tryz.infoRecs
  obtain ⟨i2, hi2, hz20, hz21, hz22⟩ := info_parts Tryz.infoTxt
  unfold maxLen at hm hmp hmm
  clear h hr hv sa hK
  go_enter Tryz.func14, Tryz.ntmps14
  go_wp2_with fail
  refine (HM.out).mono ?_
  rintro e w1 ⟨m, rfl, k1, t1⟩
  have HR1 : Hid (Row w1 31 3 (.slice oa n ca) n xs) := HR.out.kept k1 (fun g hg e => HV.out g hg (mem_bookRFp.2 (.inl e)))
  have K1 := hid k1
  have T1 := hid t1
  clear k1 t1 HM HR
  go_wp2_with fail
  go_loopw [6] (fun i wr => ∃ k : Nat, k ≤ n ∧ i = .int .i64 k ∧ Keeps (fun j => (Value.slice oa n ca).ownBlock = some j) (w1.alloc (.cells #[.string m, .string m, .bool true] 31)) wr ∧ Row wr 31 3 (.slice oa n ca) n (mixR m xs k)) (fun i _ => n - (intOf i).toNat)
  case atStart => exact ⟨0, Nat.zero_le _, rfl, Keeps.refl _ _, by rw [mixR_zero]; exact HR1.out.kept (Keeps.alloc (fun _ => False) _ _) (fun _ _ h => h)⟩
  case round =>
    obtain ⟨k, hk, rfl, hkr, hrr⟩ := hrel
    have hbox : ∀ W : World, Keeps (fun j => (Value.slice oa n ca).ownBlock = some j) (w1.alloc (.cells #[.string m, .string m, .bool true] 31)) W → W.heap[w1.heap.size]? = some (.cells #[.string m, .string m, .bool true] 31 (0, 0))   := fun W hW => box_kept hW (fun e => by have := HR1.out.lt e; omega)
    have HBOX := hid hbox
    have b0 : wr.cell? ⟨w1.heap.size, 0, none⟩ = some (.string m) := cell_of_heap (hbox _ hkr) 0
    have b1 : wr.cell? ⟨w1.heap.size, 1, none⟩ = some (.string m) := cell_of_heap (hbox _ hkr) 1
    have b2 : wr.cell? ⟨w1.heap.size, 2, none⟩ = some (.bool true) := cell_of_heap (hbox _ hkr) 2
    have HKR := hid hkr
    have HRR := hid hrr
    clear hbox hkr hrr
    by_cases hlt : k < n
    · obtain ⟨g, rfl⟩ := SA.out (by omega)
      have hl : (mixR m xs k).length = n * 3 := HRR.out.1
      obtain ⟨u0, e0⟩ : ∃ u, (mixR m xs k)[k * 3]? = some u := ⟨_, List.getElem?_eq_getElem (by omega)⟩
      obtain ⟨u1, e1⟩ : ∃ u, (mixR m xs k)[k * 3 + 1]? = some u := ⟨_, List.getElem?_eq_getElem (by omega)⟩
      obtain ⟨u2, e2⟩ : ∃ u, (mixR m xs k)[k * 3 + 2]? = some u := ⟨_, List.getElem?_eq_getElem (by omega)⟩
      have c0 : wr.cell? ⟨g, k * 3, none⟩ = some u0 := (HRR.out.cellAt (k * 3) (by omega)).trans e0
      have c1 : wr.cell? ⟨g, k * 3 + 1, none⟩ = some u1 := (HRR.out.cellAt (k * 3 + 1) (by omega)).trans e1
      have c2 : wr.cell? ⟨g, k * 3 + 2, none⟩ = some u2 := (HRR.out.cellAt (k * 3 + 2) (by omega)).trans e2
      have f0 := HRR.out.frozenAt (k * 3)
      have f1 := HRR.out.frozenAt (k * 3 + 1)
      have f2 := HRR.out.frozenAt (k * 3 + 2)
      clear e0 e1 e2 hl
      go_wp2
      refine ⟨⟨k + 1, by omega, by go_num, ((HKR.out.st (p := ⟨g, k * 3, none⟩) (.inr rfl) _).st (p := ⟨g, k * 3 + 1, none⟩) (.inr rfl) _).st (p := ⟨g, k * 3 + 2, none⟩) (.inr rfl) _, ?_⟩, by simp only [intOf]; omega⟩
      have := ((HRR.out.setAt (k * 3) (.string m)).setAt (k * 3 + 1) (.string m)).setAt (k * 3 + 2) (.bool true)
      rw [mixR_next m HXL.out hlt] at this
      exact this
    · have e : k = n := by omega
      subst e
      have HR0 : Hid (Row wr 31 3 (.slice oa k ca) k (fullR m k)) := by
        have := HRR.out
        rw [mixR_full m HXL.out] at this
        exact this
      clear HRR
      have HZ : Hid (w.heap.size ≤ wr.heap.size) := by
        have z1 := K1.out.size
        have z2 := HKR.out.size
        simp at z2
        show _ ≤ _
        omega
      go_upto_region 7 with (at_builtin; go_must (refine wpList_append_like _ rfl _ _ 32 rfl 31 i0 _ 3 40 Tryz.underlying32 hi hz0 hz1 hz2 rfl (.slice oa k ca) k _ rfl (HR0.out.kept (Keeps.alloc (fun _ => False) _ _) (fun _ _ h => h)) ⟨wr.heap.size, 0, none⟩ 1 1 [.string m, .string m, .bool true] rfl rfl (news_arr wr #[.string m, .string m, .bool true] _) (by simp [Value.oneCell']) (by unfold maxLen; omega) (by omega) (patR m) (fullR_new m k 1) ?_; intro v1 w4 a1 g1 o1 s1; have X1 := hid (And.intro a1 (And.intro g1 (And.intro o1 s1))); clear a1 g1 o1 s1))
      obtain ⟨a1, g1, o1, s1⟩ := X1.out
      have A1 : Hid (Row w4 31 3 v1 (k + 1) (fullR m (k + 1))) := by
        have := a1
        rw [show [Value.string m, .string m, .bool true] = fullR m 1 from rfl, fullR_add] at this
        exact this
      have B0 : Hid (Row w4 31 3 (.slice oa k ca) k (fullR m k)) := s1 _ _ _ (HR0.out.kept (Keeps.alloc (fun _ => False) _ _) (fun _ _ h => h)) (fullR_like m _)
      have HK4 : Hid (Keeps (fun j => (Value.slice oa k ca).ownBlock = some j) (w1.alloc (.cells #[.string m, .string m, .bool true] 31)) w4) := (HKR.out.al _).tr (Keeps.grown g1) (fun _ e => e.symm)
      have HZ4 : Hid (wr.heap.size < w4.heap.size) := by have := g1.size; simp at this; show _ < _; omega
      have O1 : Hid (∀ g, v1.ownBlock = some g → (Value.slice oa k ca).ownBlock = some g ∨ w.heap.size ≤ g) := fun g hg => by
        rcases o1 with e | e
        · exact .inl (e ▸ hg)
        · rw [hg] at e
          have e' : g = wr.heap.size + 1 := by simpa using e
          have := HZ.out
          exact .inr (by omega)
      have q0 : w4.cell? ⟨w1.heap.size, 0, none⟩ = some (.string m) := cell_of_heap (HBOX.out _ HK4.out) 0
      have q1 : w4.cell? ⟨w1.heap.size, 1, none⟩ = some (.string m) := cell_of_heap (HBOX.out _ HK4.out) 1
      have q2 : w4.cell? ⟨w1.heap.size, 2, none⟩ = some (.bool true) := cell_of_heap (HBOX.out _ HK4.out) 2
      clear X1 a1 g1 o1 s1 b0 b1 b2 HR0 HKR
      go_upto_region 8 with (at_builtin; go_must (refine wpList_append_like _ rfl _ _ 32 rfl 31 i0 _ 3 40 Tryz.underlying32 hi hz0 hz1 hz2 rfl (.slice oa k ca) k _ rfl (B0.out.kept (Keeps.alloc (fun _ => False) _ _) (fun _ _ h => h)) ⟨w4.heap.size, 0, none⟩ 2 2 [.string m, .string m, .bool true, .string m, .string m, .bool true] rfl rfl (news_arr w4 #[.string m, .string m, .bool true, .string m, .string m, .bool true] _) (by simp [Value.oneCell']) (by unfold maxLen; omega) (by omega) (patR m) (fullR_new m k 2) ?_; intro v2 w5 a1 g1 o1 s1; have X1 := hid (And.intro a1 (And.intro g1 (And.intro o1 s1))); clear a1 g1 o1 s1))
      obtain ⟨a1, g1, o1, s1⟩ := X1.out
      have A2 : Hid (Row w5 31 3 v2 (k + 2) (fullR m (k + 2))) := by
        have := a1
        rw [show [Value.string m, .string m, .bool true, .string m, .string m, .bool true] = fullR m 2 from rfl, fullR_add] at this
        exact this
      have C0 : Hid (Row w5 31 3 (.slice oa k ca) k (fullR m k)) := s1 _ _ _ (B0.out.kept (Keeps.alloc (fun _ => False) _ _) (fun _ _ h => h)) (fullR_like m _)
      have C1 : Hid (Row w5 31 3 v1 (k + 1) (fullR m (k + 1))) := s1 _ _ _ (A1.out.kept (Keeps.alloc (fun _ => False) _ _) (fun _ _ h => h)) (fullR_like m _)
      have HK5 : Hid (Keeps (fun j => (Value.slice oa k ca).ownBlock = some j) (w1.alloc (.cells #[.string m, .string m, .bool true] 31)) w5) := (HK4.out.al _).tr (Keeps.grown g1) (fun _ e => e.symm)
      have HZ5 : Hid (w4.heap.size < w5.heap.size) := by have := g1.size; simp at this; show _ < _; omega
      have O2 : Hid (∀ g, v2.ownBlock = some g → (Value.slice oa k ca).ownBlock = some g ∨ w.heap.size ≤ g) := fun g hg => by
        rcases o1 with e | e
        · exact .inl (e ▸ hg)
        · rw [hg] at e
          have e' : g = w4.heap.size + 1 := by simpa using e
          have := HZ.out
          have := HZ4.out
          exact .inr (by omega)
      have r0 : w5.cell? ⟨w1.heap.size, 0, none⟩ = some (.string m) := cell_of_heap (HBOX.out _ HK5.out) 0
      have r1 : w5.cell? ⟨w1.heap.size, 1, none⟩ = some (.string m) := cell_of_heap (HBOX.out _ HK5.out) 1
      have r2 : w5.cell? ⟨w1.heap.size, 2, none⟩ = some (.bool true) := cell_of_heap (HBOX.out _ HK5.out) 2
      clear X1 a1 g1 o1 s1 q0 q1 q2 B0 A1 HK4
      go_upto_region 9 with (at_builtin; go_must (refine wpList_append_like _ rfl _ _ 32 rfl 31 i0 _ 3 40 Tryz.underlying32 hi hz0 hz1 hz2 rfl (.slice oa k ca) k _ rfl (C0.out.kept (Keeps.alloc (fun _ => False) _ _) (fun _ _ h => h)) ⟨w5.heap.size, 0, none⟩ 3 3 [.string m, .string m, .bool true, .string m, .string m, .bool true, .string m, .string m, .bool true] rfl rfl (news_arr w5 #[.string m, .string m, .bool true, .string m, .string m, .bool true, .string m, .string m, .bool true] _) (by simp [Value.oneCell']) (by unfold maxLen; omega) (by omega) (patR m) (fullR_new m k 3) ?_; intro v3 w6 a1 g1 o1 s1; have X1 := hid (And.intro a1 (And.intro g1 (And.intro o1 s1))); clear a1 g1 o1 s1))
      obtain ⟨a1, g1, o1, s1⟩ := X1.out
      have A3 : Hid (Row w6 31 3 v3 (k + 3) (fullR m (k + 3))) := by
        have := a1
        rw [show [Value.string m, .string m, .bool true, .string m, .string m, .bool true, .string m, .string m, .bool true] = fullR m 3 from rfl, fullR_add] at this
        exact this
      have D0 : Hid (Row w6 31 3 (.slice oa k ca) k (fullR m k)) := s1 _ _ _ (C0.out.kept (Keeps.alloc (fun _ => False) _ _) (fun _ _ h => h)) (fullR_like m _)
      have D1 : Hid (Row w6 31 3 v1 (k + 1) (fullR m (k + 1))) := s1 _ _ _ (C1.out.kept (Keeps.alloc (fun _ => False) _ _) (fun _ _ h => h)) (fullR_like m _)
      have D2 : Hid (Row w6 31 3 v2 (k + 2) (fullR m (k + 2))) := s1 _ _ _ (A2.out.kept (Keeps.alloc (fun _ => False) _ _) (fun _ _ h => h)) (fullR_like m _)
      have HK6 : Hid (Keeps (fun j => (Value.slice oa k ca).ownBlock = some j) (w1.alloc (.cells #[.string m, .string m, .bool true] 31)) w6) := (HK5.out.al _).tr (Keeps.grown g1) (fun _ e => e.symm)
      have HZ6 : Hid (w.heap.size ≤ w6.heap.size) := by have := g1.size; have h1 := HZ5.out; have h2 := HZ4.out; have h3 := HZ.out; simp at this; show _ ≤ _; omega
      have O3 : Hid (∀ g, v3.ownBlock = some g → (Value.slice oa k ca).ownBlock = some g ∨ w.heap.size ≤ g) := fun g hg => by
        rcases o1 with e | e
        · exact .inl (e ▸ hg)
        · rw [hg] at e
          have e' : g = w5.heap.size + 1 := by simpa using e
          have := HZ.out
          have := HZ4.out
          have := HZ5.out
          exact .inr (by omega)
      clear X1 a1 g1 o1 s1 r0 r1 r2 C0 C1 A2 HK5
      have hbb : bb < w1.heap.size := (Array.getElem?_eq_some_iff.1 T1.out).1
      have T6 : Hid (w6.heap[bb]? = some (.cells #[.slice none 0 0, .slice none 0 0, .slice op Ls.length cp, .slice om Ls.length cm, .int .i64 (nx + 1)] 28 (0, 0))) := by
        show _ = _
        rw [HK6.out.block bb (by simp; omega) (fun e => HV.out bb e (mem_bookRFp.2 (.inl rfl))), (Keeps.alloc (fun _ => False) w1 _).block bb hbb (fun h => h)]
        exact T1.out
      have KW6 : Hid (Keeps (fun j => j = bb ∨ (Value.slice oa k ca).ownBlock = some j) w w6) := ((K1.out.mono (T := fun j => j = bb ∨ (Value.slice oa k ca).ownBlock = some j) (fun _ _ h => .inl h)).al _).tr HK6.out (fun _ h => .inr h)
      have P6 : Hid (Row w6 32 1 (.slice op Ls.length cp) Ls.length (Ls.map fun p => p.1)) := HB.out.pairs.kept KW6.out (fun g hg e => by
        rcases e with rfl | e
        · exact (HB.out.pairs.typeIs hg).ne (e' := 28) (by decide) ⟨_, HB.out.top⟩
        · exact HV.out g e (mem_bookRFp.2 (.inr (.inl hg))))
      have M6 : Hid (Row w6 9 1 (.slice om Ls.length cm) Ls.length (Ls.map fun p => .string p.2)) := HB.out.marks.kept KW6.out (fun g hg e => by
        rcases e with rfl | e
        · exact (HB.out.marks.typeIs hg).ne (e' := 28) (by decide) ⟨_, HB.out.top⟩
        · exact HV.out g e (mem_bookRFp.2 (.inr (.inr (.inl hg)))))
      have r0 : w6.cell? ⟨bb, 2, none⟩ = some (.slice op Ls.length cp) := cell_of_heap T6.out 2
      obtain ⟨p1, c1, rfl⟩ := D1.out.succ
      obtain ⟨p2, c2, rfl⟩ := D2.out.succ
      obtain ⟨p3, c3, rfl⟩ := A3.out.succ
      have HLI : (Ls.length : Int) ≤ 40000000000 := by have := HLL.out; omega
      clear HK6
      have HT7 : Hid (∀ W w7 : World, Keeps (fun _ => False) w6 W → W.grownBy w7 (Value.slice op Ls.length cp).ownBlock → w7.heap[bb]? = some (.cells #[.slice none 0 0, .slice none 0 0, .slice op Ls.length cp, .slice om Ls.length cm, .int .i64 (nx + 1)] 28 (0, 0))) := fun W w7 hk hg => by
        have hb6 : bb < w6.heap.size := (Array.getElem?_eq_some_iff.1 T6.out).1
        rw [(Keeps.grown hg).block bb (Nat.lt_of_lt_of_le hb6 hk.size) (fun e => (P6.out.typeIs e.symm).ne (e' := 28) (by decide) ⟨_, T6.out⟩), hk.block _ hb6 (fun h => h)]
        exact T6.out
      go_upto_region 10 with (at_builtin; go_must (refine wpList_append_row _ rfl _ _ 26 rfl 32 i1 _ 1 24 Tryz.underlying26 hi1 hz10 hz11 hz12 rfl (.slice op Ls.length cp) Ls.length _ rfl (P6.out.kept (Keeps.alloc (fun _ => False) _ _) (fun _ _ h => h)) ⟨w6.heap.size, 0, none⟩ 4 4 [.slice oa k ca, .slice (some ⟨p1, 0, none⟩) (k + 1) c1, .slice (some ⟨p2, 0, none⟩) (k + 1 + 1) c2, .slice (some ⟨p3, 0, none⟩) (k + 2 + 1) c3] rfl rfl (news_arr w6 #[.slice oa k ca, .slice (some ⟨p1, 0, none⟩) (k + 1) c1, .slice (some ⟨p2, 0, none⟩) (k + 1 + 1) c2, .slice (some ⟨p3, 0, none⟩) (k + 2 + 1) c3] _) (by simp [Value.oneCell']) (by have := HLL.out; unfold maxLen; omega) (by have := HLL.out; omega) ?_; intro vq w7 a1 g1 _ o1; obtain ⟨gq, cq, rfl⟩ := Row.succ (n := Ls.length + 3) a1; have t7 := HT7.out _ _ (Keeps.alloc _ _ _) g1; have y0 : w7.cell? ⟨bb, 2, none⟩ = some (.slice op Ls.length cp) := cell_of_heap t7 2; have z0 : w7.frozen? ⟨bb, 2, none⟩ = false := frozen_of_heap t7 2; have X1 := hid (And.intro a1 (And.intro g1 (And.intro o1 t7))); clear a1 g1 o1 t7))
      obtain ⟨a1, g1, o1, t7⟩ := X1.out
      have T8 : Hid ((w7.setCell ⟨bb, 2, none⟩ (.slice (some ⟨gq, 0, none⟩) (Ls.length + 3 + 1) cq)).heap[bb]? = some (.cells #[.slice none 0 0, .slice none 0 0, .slice (some ⟨gq, 0, none⟩) (Ls.length + 3 + 1) cq, .slice om Ls.length cm, .int .i64 (nx + 1)] 28 (0, 0))) := (heap_setCell_same t7 _).trans (by simp)
      have K8 : Hid (Keeps (fun j => j = bb ∨ (Value.slice op Ls.length cp).ownBlock = some j) w6 (w7.setCell ⟨bb, 2, none⟩ (.slice (some ⟨gq, 0, none⟩) (Ls.length + 3 + 1) cq))) := (((Keeps.refl (fun j => j = bb ∨ (Value.slice op Ls.length cp).ownBlock = some j) w6).al _).tr (Keeps.grown g1) (fun _ e => .inr e.symm)).tr (Keeps.setCell _ _ _) (fun _ e => .inl e)
      have P8 : Hid (Row (w7.setCell ⟨bb, 2, none⟩ (.slice (some ⟨gq, 0, none⟩) (Ls.length + 3 + 1) cq)) 32 1 (.slice (some ⟨gq, 0, none⟩) (Ls.length + 3 + 1) cq) (Ls.length + 4) ((Ls.map fun p => p.1) ++ [.slice oa k ca, .slice (some ⟨p1, 0, none⟩) (k + 1) c1, .slice (some ⟨p2, 0, none⟩) (k + 1 + 1) c2, .slice (some ⟨p3, 0, none⟩) (k + 2 + 1) c3])) := Row.kept a1 (Keeps.setCell _ _ _) (fun g hg e => (Row.typeIs a1 hg).ne (e' := 28) (by decide) ⟨_, (show g = bb from e) ▸ t7⟩)
      have M8 : Hid (Row (w7.setCell ⟨bb, 2, none⟩ (.slice (some ⟨gq, 0, none⟩) (Ls.length + 3 + 1) cq)) 9 1 (.slice om Ls.length cm) Ls.length (Ls.map fun p => .string p.2)) := M6.out.kept K8.out (fun g hg e => by
        rcases e with rfl | e
        · exact (M6.out.typeIs hg).ne (e' := 28) (by decide) ⟨_, T6.out⟩
        · exact (M6.out.typeIs hg).ne (e' := 32) (by decide) (P6.out.typeIs e))
      have OP : Hid (∀ g, (Value.slice (some ⟨gq, 0, none⟩) (Ls.length + 3 + 1) cq).ownBlock = some g → (Value.slice op Ls.length cp).ownBlock = some g ∨ w.heap.size ≤ g) := fun g hg => by
        rcases o1 with e | e
        · exact .inl (e ▸ hg)
        · rw [hg] at e
          have e' : g = w6.heap.size + 1 := by simpa using e
          have := HZ6.out
          exact .inr (by omega)
      have T6' : Hid (∃ cs, w6.heap[bb]? = some (.cells cs 28 (0, 0))) := ⟨_, T6.out⟩
      clear X1 a1 g1 o1 t7 y0 z0 r0 HT7 P6 M6 T6 T1 K1
      generalize w7.setCell ⟨bb, 2, none⟩ (.slice (some ⟨gq, 0, none⟩) (Ls.length + 3 + 1) cq) = w8 at *
      have y1 : w8.cell? ⟨bb, 3, none⟩ = some (.slice om Ls.length cm) := cell_of_heap T8.out 3
      have HT9 : Hid (∀ W w9 : World, Keeps (fun _ => False) w8 W → W.grownBy w9 (Value.slice om Ls.length cm).ownBlock → w9.heap[bb]? = some (.cells #[.slice none 0 0, .slice none 0 0, .slice (some ⟨gq, 0, none⟩) (Ls.length + 3 + 1) cq, .slice om Ls.length cm, .int .i64 (nx + 1)] 28 (0, 0))) := fun W w9 hk hg => by
        have hb8 : bb < w8.heap.size := (Array.getElem?_eq_some_iff.1 T8.out).1
        rw [(Keeps.grown hg).block bb (Nat.lt_of_lt_of_le hb8 hk.size) (fun e => (M8.out.typeIs e.symm).ne (e' := 28) (by decide) ⟨_, T8.out⟩), hk.block _ hb8 (fun h => h)]
        exact T8.out
      go_wp2_with (at_builtin; go_must (refine wpList_append_row _ rfl _ _ 23 rfl 9 i2 _ 1 16 Tryz.underlying23 hi2 hz20 hz21 hz22 rfl (.slice om Ls.length cm) Ls.length _ rfl (M8.out.kept (Keeps.alloc (fun _ => False) _ _) (fun _ _ h => h)) ⟨w8.heap.size, 0, none⟩ 4 4 [.string m, .string m, .string m, .string m] rfl rfl (news_arr w8 #[.string m, .string m, .string m, .string m] _) (by simp [Value.oneCell']) (by have := HLL.out; unfold maxLen; omega) (by have := HLL.out; omega) ?_; intro vq w9 a1 g1 _ o1; obtain ⟨gs, cs, rfl⟩ := Row.succ (n := Ls.length + 3) a1; have t9 := HT9.out _ _ (Keeps.alloc _ _ _) g1; have y2 : w9.cell? ⟨bb, 3, none⟩ = some (.slice om Ls.length cm) := cell_of_heap t9 3; have z2 : w9.frozen? ⟨bb, 3, none⟩ = false := frozen_of_heap t9 3; have X1 := hid (And.intro a1 (And.intro g1 (And.intro o1 t9))); clear a1 g1 o1 t9))
      go_end0
      obtain ⟨a1, g1, o1, t9⟩ := X1.out
      have hz8 := K8.out.size
      have hz6 := HZ6.out
      have K9 : Keeps (fun j => j = bb ∨ (Value.slice om Ls.length cm).ownBlock = some j) w8 (w9.setCell ⟨bb, 3, none⟩ (.slice (some ⟨gs, 0, none⟩) (Ls.length + 3 + 1) cs)) := (((Keeps.refl (fun j => j = bb ∨ (Value.slice om Ls.length cm).ownBlock = some j) w8).al _).tr (Keeps.grown g1) (fun _ e => .inr e.symm)).tr (Keeps.setCell _ _ _) (fun _ e => .inl e)
      have K7 : Keeps (fun j => j = bb ∨ (Value.slice op Ls.length cp).ownBlock = some j ∨ (Value.slice om Ls.length cm).ownBlock = some j) w6 (w9.setCell ⟨bb, 3, none⟩ (.slice (some ⟨gs, 0, none⟩) (Ls.length + 3 + 1) cs)) := (K8.out.mono (T := fun j => j = bb ∨ (Value.slice op Ls.length cp).ownBlock = some j ∨ (Value.slice om Ls.length cm).ownBlock = some j) (fun j _ h => h.imp id .inl)).tr K9 (fun j h => h.imp id .inr)
      have T10 : (w9.setCell ⟨bb, 3, none⟩ (.slice (some ⟨gs, 0, none⟩) (Ls.length + 3 + 1) cs)).heap[bb]? = some (.cells #[.slice none 0 0, .slice none 0 0, .slice (some ⟨gq, 0, none⟩) (Ls.length + 3 + 1) cq, .slice (some ⟨gs, 0, none⟩) (Ls.length + 3 + 1) cs, .int .i64 (nx + 1)] 28 (0, 0)) := (heap_setCell_same t9 _).trans (by simp)
      refine ⟨rfl, ownsR_close HB.out HV.out hn KW6.out K7 T6'.out T10 D0.out D1.out D2.out A3.out O1.out O2.out O3.out ?_ ?_ OP.out ?_⟩
      · exact P8.out.kept K9 (fun g hg e => by
          rcases e with rfl | e
          · exact (P8.out.typeIs hg).ne (e' := 28) (by decide) ⟨_, T8.out⟩
          · exact (P8.out.typeIs hg).ne (e' := 9) (by decide) (M8.out.typeIs e))
      · exact Row.kept a1 (Keeps.setCell _ _ _) (fun g hg e => (Row.typeIs a1 hg).ne (e' := 28) (by decide) ⟨_, (show g = bb from e) ▸ t9⟩)
      · intro g hg
        rcases o1 with e | e
        · exact .inl (e ▸ hg)
        · rw [hg] at e
          have e' : g = w8.heap.size + 1 := by simpa using e
          exact .inr (by omega)

end Go.Proofs.YtkpaiaddikpdoaaGreatDoor
