import Derived.Test.YtfcocbcihhdbkaaGreatDoorM28
import Derived.BigRegion
import Derived.Deep.RegionHeld3

/- Lists that their owner has written full: what is put behind them. -/
namespace Go.Proofs.YtfcocbcihhdbkaaGreatDoor
open Go.RowKit

/-! ### append of one thing again and again: whatever holds that thing alone goes on doing so -/

theorem Row.same_kept {w w' : World} {e : TypeId} {size : Nat} {u : Value} {k : Nat} {ys : List Value} {c : Value} {g : Nat} {cur cur' : Array Value} (h : Row w e size u k ys) (hy : ∀ y ∈ ys, y = c)
    (hg : w.heap[g]? = some (.cells cur e (0, 0))) (hg' : w'.heap[g]? = some (.cells cur' e (0, 0))) (hs : cur'.size = cur.size) (hc : ∀ (j : Nat) v, cur'[j]? = some v → cur[j]? = some v ∨ v = c) (ho : ∀ j, j ≠ g → w'.heap[j]? = w.heap[j]?) : Row w' e size u k ys := by
  refine ⟨h.1, ?_⟩
  rcases h.2 with h2 | ⟨b, cap, cb, rfl, hb, h3, h4, h5, h6⟩
  · exact .inl h2
  · by_cases e1 : b = g
    · subst e1
      rw [hg] at hb
      simp only [Option.some.injEq, Obj.cells.injEq] at hb
      obtain ⟨rfl, -⟩ := hb
      refine .inr ⟨b, cap, cur', rfl, hg', h3, h4, by rw [hs]; exact h5, ?_⟩
      have hlen := h.1
      have hle : k * size ≤ cur.size := Nat.le_trans (Nat.mul_le_mul_right _ h3) h5
      apply List.ext_getElem?
      intro j
      by_cases hj : j < k * size
      · rw [List.getElem?_take_of_lt hj]
        have hj1 : j < cur.toList.length := by simp; omega
        have hyj : ys[j]? = cur.toList[j]? := by rw [← h6, List.getElem?_take_of_lt hj]
        have hjy : j < ys.length := by omega
        have hyc : ys[j]? = some c := by rw [List.getElem?_eq_getElem hjy, hy _ (List.getElem_mem hjy)]
        have hj2 : j < cur'.size := by omega
        have hv : cur'[j]? = some cur'[j] := Array.getElem?_eq_getElem hj2
        rw [hyc, Array.getElem?_toList, hv]
        rcases hc j _ hv with e2 | e2
        · rw [hyj, Array.getElem?_toList, e2] at hyc
          exact hyc
        · rw [e2]
      · rw [List.getElem?_eq_none (by simp; omega), List.getElem?_eq_none (by omega)]
    · exact .inr ⟨b, cap, cb, rfl, by rw [ho b e1]; exact hb, h3, h4, h5, h6⟩

theorem run_append_same {P : Program} (w : World) (t ty e : TypeId) (i : TypeInfo) (z : Value) (size bytes : Nat) (ht : P.underlying t = some (.slice e)) (hi : P.info? e = some i) (hz : i.zero = some z)
    (hsize : i.size = size) (hby : i.bytes = bytes) (hzs : z.cells.size = size)
    (v : Value) (n : Nat) (xs : List Value) (hown : Row w e size v n xs)
    (a : Addr) (m c : Nat) (news : List Value) (hl : news.length = m * size) (hnews : ∀ j u, news[j]? = some u → w.cell? (a.add j) = some u) (h1 : ∀ u ∈ news, u.oneCell' = true)
    (h63 : n + m ≤ maxLen) (hbytes : (n + m) * bytes ≤ 140737488355328) (x : Value) (hx : ∀ u ∈ news, u = x) :
    ∃ v' w', (Builtin.append_ #[t, t] ty #[v, .slice (some a) m c]).run P w = .ok v' w' ∧ Row w' e size v' (n + m) (xs ++ news) ∧ w.grownBy w' v.ownBlock ∧
      (v' = .slice none 0 0 ↔ v = .slice none 0 0 ∧ m = 0) ∧ (v'.ownBlock = v.ownBlock ∨ v'.ownBlock = some w.heap.size) ∧ ∀ u k ys, Row w e size u k ys → (∀ y ∈ ys, y = x) → Row w' e size u k ys := by
  subst hsize
  subst hby
  have hsmall : n + m ≤ 9223372036854775807 := by simp only [maxLen] at h63; omega
  have hlen : (xs ++ news).length = (n + m) * i.size := by rw [List.length_append, hown.1, hl, Nat.add_mul]
  have grown : ∀ (old : Nat), old < n + m → ∀ (row : Option Nat),
      Row (w.drew.alloc (.cells (xs.toArray ++ news.toArray ++ Builtin.zeroCells z.cells (grownCap w (n + m) old e - (n + m))) e)) e i.size
        (.slice (some ⟨w.heap.size, 0, none⟩) (n + m) (grownCap w (n + m) old e)) (n + m) (xs ++ news) ∧
      w.grownBy (w.drew.alloc (.cells (xs.toArray ++ news.toArray ++ Builtin.zeroCells z.cells (grownCap w (n + m) old e - (n + m))) e)) row := by
    intro old ho row
    have hge := grownCap_ge w (n + m) old e
    have hcm : grownCap w (n + m) old e ≤ maxLen := grownCap_le_maxLen w (n + m) old e h63
    refine ⟨⟨hlen, .inr ⟨w.heap.size, _, _, rfl, Go.heap_alloc_new w.drew _, hge, hcm, ?_, ?_⟩⟩, ⟨rfl, rfl, rfl, by simp, fun k hk _ => Go.heap_alloc_old w.drew _ hk⟩⟩
    · simp only [Array.size_append, List.size_toArray, size_zeroCells, hzs, hown.1, hl, ← Nat.add_mul]
      apply Nat.mul_le_mul_right
      omega
    · simp only [Array.toList_append, List.append_assoc]
      rw [← List.append_assoc, ← hlen]
      exact List.take_left
  have kept : ∀ (o : Obj) u k ys, Row w e i.size u k ys → (∀ y ∈ ys, y = x) → Row (w.drew.alloc o) e i.size u k ys := fun o u k ys hr _ =>
    hr.kept ((Keeps.refl (fun _ => False) w).dr.al o) (fun _ _ h => h)
  rcases hown.2 with ⟨rfl, rfl⟩ | ⟨g, cap, cur, rfl, hg, hnc, hcm, hcs, htake⟩
  · have hxs : xs = [] := List.eq_nil_of_length_eq_zero (by simpa using hown.1)
    subst hxs
    by_cases hm : m = 0
    · subst hm
      have hn : news = [] := List.eq_nil_of_length_eq_zero (by simpa using hl)
      subst hn
      refine ⟨.slice none 0 0, w, ?_, Row.nil w e i.size, ⟨rfl, rfl, rfl, Nat.le_refl _, fun _ _ _ => rfl⟩, by simp, Or.inl rfl, fun _ _ _ h _ => h⟩
      simp [Builtin.append_, run_underlying ht, sizeOf, typeInfo, hi, Builtin.lenOf, Builtin.firstCells, loadCells, loadCellsFrom]
    · have hr := run_append_nil (P := P) w t ty e i z ht hi hz a m c news hl hnews (by omega) (by omega) (by have hb := hbytes; simp only [Nat.zero_add] at hb; omega)
      have hgr := grown 0 (by omega) (Value.ownBlock (.slice none 0 0))
      simp only [Nat.zero_add, List.nil_append, Array.empty_append] at hgr ⊢
      exact ⟨_, _, hr, hgr.1, hgr.2, by simp [hm], Or.inr rfl, kept _⟩
  · by_cases hroom : n + m ≤ cap
    · have hfit : n * i.size + news.length ≤ cur.size := by rw [hl, ← Nat.add_mul]; exact Nat.le_trans (Nat.mul_le_mul_right _ hroom) hcs
      have hr := run_append_room (P := P) w t ty e i ht hi g n cap cur hg a m c news hl hnews h1 hroom hfit
      refine ⟨_, _, hr, ⟨hlen, .inr ⟨g, cap, _, rfl, setRow_heap w g cur _ e _ hg, hroom, hcm, ?_, ?_⟩⟩, ⟨rfl, rfl, rfl, by simp, fun k _ hk => setRow_other w g k _ (fun e => hk (by simp [Value.ownBlock, e]))⟩, by simp, Or.inl rfl, fun u k ys hu hy => ?_⟩
      · simp only [List.size_toArray, List.length_append, List.length_take, List.length_drop, Array.length_toList]
        omega
      · rw [htake, ← hlen]
        exact List.take_left
      · refine Row.same_kept hu hy hg (setRow_heap w g cur _ e _ hg) ?_ ?_ (fun j hj => setRow_other w g j _ hj)
        · simp only [List.size_toArray, List.length_append, List.length_take, List.length_drop, Array.length_toList]
          omega
        · intro j v hv
          simp only [List.getElem?_toArray] at hv
          rw [List.getElem?_append, List.getElem?_append] at hv
          split at hv
          · split at hv
            · rename_i h2 h3
              left
              simp only [List.length_take, Array.length_toList] at h3
              rw [List.getElem?_take_of_lt (by omega), Array.getElem?_toList] at hv
              exact hv
            · right
              exact hx v (List.mem_of_getElem? hv)
          · rename_i h2
            left
            simp only [List.length_append, List.length_take, Array.length_toList] at h2 hv
            rw [List.getElem?_drop, Array.getElem?_toList] at hv
            rw [← hv]
            congr 1
            omega
    · have holds : ∀ j u, xs[j]? = some u → w.cell? ((⟨g, 0, none⟩ : Addr).add j) = some u := by
        intro j u hj
        have hjl : j < n * i.size := by
          have := (List.getElem?_eq_some_iff.1 hj).1
          rw [hown.1] at this
          exact this
        have := hown.cellAt j hjl
        rw [Addr.add_lit, Nat.zero_add, this, hj]
      have hr := run_append_grow (P := P) w t ty e i z ht hi hz ⟨g, 0, none⟩ n cap xs hown.1 holds a m c news hl hnews (by omega) (by omega) (growslice_fits (by omega) hbytes)
      have hgr := grown cap (by omega) (Value.ownBlock (.slice (some ⟨g, 0, none⟩) n cap))
      exact ⟨_, _, hr, hgr.1, hgr.2, by simp, Or.inr rfl, kept _⟩

/-- .. at the operation. -/
theorem wpList_append_same {P : Program} (w : World) {ops : Array Oper} {rest : List Oper} {o : Oper} {a : Act} {Q : Exit → Act → World → Prop} (hgd : o.guard = none) (s x : Operand) (t : TypeId)
    (ho : o.op = .call { callee := .builtin .append, args := #[s, x], argTypes := #[t, t] })
    (e : TypeId) (i : TypeInfo) (z : Value) (size bytes : Nat) (ht : P.underlying t = some (.slice e)) (hi : P.info? e = some i) (hz : i.zero = some z)
    (hsize : i.size = size) (hby : i.bytes = bytes) (hzs : z.cells.size = size)
    (v : Value) (n : Nat) (xs : List Value) (hs : a.eval s = v) (hown : Row w e size v n xs)
    (ad : Addr) (m c : Nat) (news : List Value) (hx : a.eval x = .slice (some ad) m c) (hl : news.length = m * size) (hnews : ∀ j u, news[j]? = some u → w.cell? (ad.add j) = some u) (h1 : ∀ u ∈ news, u.oneCell' = true)
    (h63 : n + m ≤ maxLen) (hbytes : (n + m) * bytes ≤ 140737488355328) (y : Value) (hy : ∀ u ∈ news, u = y)
    (h : ∀ v' w', Row w' e size v' (n + m) (xs ++ news) → w.grownBy w' v.ownBlock → (v'.ownBlock = v.ownBlock ∨ v'.ownBlock = some w.heap.size) → (∀ u k ys, Row w e size u k ys → (∀ q ∈ ys, q = y) → Row w' e size u k ys) → wpList P ops Q rest (a.put o.dst v') w') :
    wpList P ops Q (o :: rest) a w := by
  refine wpList_plain hgd fun K hK => ?_
  obtain ⟨v', w', hr, h2, h3, h4, h5, h6⟩ := run_append_same (P := P) w t o.type e i z size bytes ht hi hz hsize hby hzs v n xs hown ad m c news hl hnews h1 h63 hbytes y hy
  unfold Oper.wp execOp
  simp only [ho, resolve, invoke, builtin, Sem.run_bind, Sem.run_pure, Result.andThen_ok, List.map_toArray, List.map_cons, List.map_nil, hs, hx, hr]
  exact hK _ _ (h v' w' h2 h3 h5 h6)

end Go.Proofs.YtfcocbcihhdbkaaGreatDoor

/- The book of a law. -/
namespace Go.Proofs.YtfcocbcihhdbkaaGreatDoor
open Go.RowKit Go.Shelf

/-! ### the book of a law: lists, each with its mark -/

structure BookAt (K : Nat) (w : World) (bb : Nat) (vp vm : Value) (nx : Int) (Ls : List (Value × ByteArray)) : Prop where
  top : w.heap[bb]? = some (.cells #[vp, vm, .slice none 0 0, .slice none 0 0, .int .i64 nx] 31 (0, 0))
  pairs : Row w 55 1 vp Ls.length (Ls.map fun p => p.1)
  marks : Row w 9 1 vm Ls.length (Ls.map fun p => .string p.2)
  lists : ∀ p ∈ Ls, ∃ n, n ≤ 100000000000 ∧ Row w 90 2 p.1 n (List.replicate (n * 2) (.string p.2))
  len : Ls.length ≤ 4 * K
  nx : 0 ≤ nx ∧ nx ≤ K

def bookFp (bb : Nat) (vp vm : Value) (Ls : List (Value × ByteArray)) : List Nat := bb :: (vp.ownBlock.toList ++ (vm.ownBlock.toList ++ Ls.flatMap (fun p => p.1.ownBlock.toList)))

/-- the book at bb; its blocks are G -/
def Book (K : Nat) (w : World) (bb : Nat) (G : List Nat) : Prop := ∃ vp vm nx Ls, BookAt K w bb vp vm nx Ls ∧ G = bookFp bb vp vm Ls

theorem mem_bookFp {bb : Nat} {vp vm : Value} {Ls : List (Value × ByteArray)} {k : Nat} : k ∈ bookFp bb vp vm Ls ↔ k = bb ∨ vp.ownBlock = some k ∨ vm.ownBlock = some k ∨ ∃ p ∈ Ls, p.1.ownBlock = some k := by
  simp only [bookFp, List.mem_cons, List.mem_append, List.mem_flatMap, Option.mem_toList]

theorem BookAt.kept {K : Nat} {w w' : World} {bb : Nat} {vp vm : Value} {nx : Int} {Ls : List (Value × ByteArray)} {S : Nat → Prop} (h : BookAt K w bb vp vm nx Ls) (hk : Keeps S w w') (hS : ∀ k ∈ bookFp bb vp vm Ls, ¬ S k) : BookAt K w' bb vp vm nx Ls := by
  refine ⟨(hk.block _ (Array.getElem?_eq_some_iff.1 h.top).1 (hS _ (mem_bookFp.2 (.inl rfl)))).trans h.top, h.pairs.kept hk (fun g hg => hS g (mem_bookFp.2 (.inr (.inl hg)))), h.marks.kept hk (fun g hg => hS g (mem_bookFp.2 (.inr (.inr (.inl hg))))), fun p hp => ?_, h.len, h.nx⟩
  obtain ⟨n, h1, h2⟩ := h.lists p hp
  exact ⟨n, h1, h2.kept hk (fun g hg => hS g (mem_bookFp.2 (.inr (.inr (.inr ⟨p, hp, hg⟩)))))⟩

theorem BookAt.lt {K : Nat} {w : World} {bb : Nat} {vp vm : Value} {nx : Int} {Ls : List (Value × ByteArray)} (h : BookAt K w bb vp vm nx Ls) : ∀ k ∈ bookFp bb vp vm Ls, k < w.heap.size := by
  intro k hk
  rcases mem_bookFp.1 hk with rfl | h1 | h1 | ⟨p, hp, h1⟩
  · exact (Array.getElem?_eq_some_iff.1 h.top).1
  · exact h.pairs.lt h1
  · exact h.marks.lt h1
  · obtain ⟨n, _, h2⟩ := h.lists p hp
    exact h2.lt h1

theorem Book.kept {K : Nat} {w w' : World} {bb : Nat} {G : List Nat} {S : Nat → Prop} (h : Book K w bb G) (hk : Keeps S w w') (hS : ∀ k ∈ G, ¬ S k) : Book K w' bb G := by
  obtain ⟨vp, vm, nx, Ls, h1, rfl⟩ := h
  exact ⟨vp, vm, nx, Ls, h1.kept hk hS, rfl⟩

theorem Book.lt {K : Nat} {w : World} {bb : Nat} {G : List Nat} (h : Book K w bb G) : ∀ k ∈ G, k < w.heap.size := by
  obtain ⟨vp, vm, nx, Ls, h1, rfl⟩ := h
  exact h1.lt

theorem Book.more {K K' : Nat} {w : World} {bb : Nat} {G : List Nat} (h : Book K w bb G) (hK : K ≤ K') : Book K' w bb G := by
  obtain ⟨vp, vm, nx, Ls, h1, rfl⟩ := h
  exact ⟨vp, vm, nx, Ls, ⟨h1.top, h1.pairs, h1.marks, h1.lists, by have := h1.len; omega, by have := h1.nx; omega⟩, rfl⟩

theorem new_book {w : World} {bb : Nat} (h : w.heap[bb]? = some (.cells #[.slice none 0 0, .slice none 0 0, .slice none 0 0, .slice none 0 0, .int .i64 0] 31 (0, 0))) : Book 0 w bb [bb] :=
  ⟨_, _, _, [], ⟨h, Row.nil _ _ _, Row.nil _ _ _, fun p hp => (by cases hp), by simp, by simp⟩, by simp [bookFp, Value.ownBlock]⟩

end Go.Proofs.YtfcocbcihhdbkaaGreatDoor

/- A pair of stores and a book, apart. -/
namespace Go.Proofs.YtfcocbcihhdbkaaGreatDoor
open Go.RowKit Go.Shelf

/-! ### a pair and a book, apart -/

structure Both (N K : Nat) (w : World) (pb bb : Nat) (Fs G : List Nat) : Prop where
  duo : Duo N w pb Fs
  book : Book K w bb G
  apart : ∀ k ∈ pb :: Fs, k ∉ G

/-- what a step leaves -/
def BothAfter (N K pb bb : Nat) (Fs G : List Nat) (w w' : World) : Prop :=
  ∃ Fs' G', Both N K w' pb bb Fs' G' ∧ Keeps (fun k => k ∈ Fs ∨ k ∈ G) w w' ∧ (∀ k ∈ Fs', k ∈ Fs ∨ w.heap.size ≤ k) ∧ ∀ k ∈ G', k ∈ G ∨ w.heap.size ≤ k

theorem Both.duoAfter {N M K pb bb : Nat} {Fs G : List Nat} {w w' : World} (h : Both N K w pb bb Fs G) (hd : DuoAfter M pb Fs w w') : BothAfter M K pb bb Fs G w w' := by
  obtain ⟨Fs', d1, d2, d3⟩ := hd
  refine ⟨Fs', G, ⟨d1, h.book.kept d2 (fun k hk hf => h.apart k (List.mem_cons_of_mem _ hf) hk), fun k hk hg => ?_⟩, d2.mono (fun _ _ h => .inl h), d3, fun _ h => .inl h⟩
  rcases List.mem_cons.1 hk with rfl | hk
  · exact h.apart _ (by simp) hg
  · rcases d3 k hk with h1 | h1
    · exact h.apart k (List.mem_cons_of_mem _ h1) hg
    · have := h.book.lt k hg
      omega

/-- what a scan leaves -/
def BookAfter (K bb : Nat) (G : List Nat) (w w' : World) : Prop := ∃ G', Book K w' bb G' ∧ Keeps (· ∈ G) w w' ∧ ∀ k ∈ G', k ∈ G ∨ w.heap.size ≤ k

theorem Both.bookAfter {N K K' pb bb : Nat} {Fs G : List Nat} {w w' : World} (h : Both N K w pb bb Fs G) (hd : BookAfter K' bb G w w') : BothAfter N K' pb bb Fs G w w' := by
  obtain ⟨G', d1, d2, d3⟩ := hd
  refine ⟨Fs, G', ⟨h.duo.kept d2 (fun k hk hg => h.apart k hk hg), d1, fun k hk hg => ?_⟩, d2.mono (fun _ _ h => .inr h), fun _ h => .inl h, d3⟩
  rcases d3 k hg with h1 | h1
  · exact h.apart k hk h1
  · have := h.duo.lt k hk
    omega

theorem Both.more {N N' K K' pb bb : Nat} {Fs G : List Nat} {w : World} (h : Both N K w pb bb Fs G) (hN : N ≤ N') (hK : K ≤ K') : Both N' K' w pb bb Fs G := ⟨h.duo.more hN, h.book.more hK, h.apart⟩

theorem Both.kept {N K pb bb : Nat} {Fs G : List Nat} {w w' : World} (h : Both N K w pb bb Fs G) (hk : Keeps (fun _ => False) w w') : Both N K w' pb bb Fs G := ⟨h.duo.kept hk (fun _ _ h => h), h.book.kept hk (fun _ _ h => h), h.apart⟩

theorem BothAfter.more {N N' K K' pb bb : Nat} {Fs G : List Nat} {w w' : World} (h : BothAfter N K pb bb Fs G w w') (hN : N ≤ N') (hK : K ≤ K') : BothAfter N' K' pb bb Fs G w w' := by
  obtain ⟨Fs', G', h1, h2⟩ := h
  exact ⟨Fs', G', h1.more hN hK, h2⟩

theorem BothAfter.pre {N K pb bb : Nat} {Fs G : List Nat} {w0 w w' : World} (hk : Keeps (fun _ => False) w0 w) (h : BothAfter N K pb bb Fs G w w') : BothAfter N K pb bb Fs G w0 w' := by
  obtain ⟨Fs', G', h1, h2, h3, h4⟩ := h
  have := hk.size
  exact ⟨Fs', G', h1, (hk.mono (T := fun k => k ∈ Fs ∨ k ∈ G) (fun _ _ h => h.elim)).tr h2 (fun _ h => h), fun k hk => (h3 k hk).imp id (fun h => by omega), fun k hk => (h4 k hk).imp id (fun h => by omega)⟩

theorem BothAfter.then {N K pb bb : Nat} {Fs G : List Nat} {w w1 w' : World} (h : BothAfter N K pb bb Fs G w w1) (hk : Keeps (fun _ => False) w1 w') : BothAfter N K pb bb Fs G w w' := by
  obtain ⟨Fs', G', h1, h2, h3, h4⟩ := h
  exact ⟨Fs', G', h1.kept hk, h2.tr hk (fun _ h => h.elim), h3, h4⟩

end Go.Proofs.YtfcocbcihhdbkaaGreatDoor

/- num, mark. -/
namespace Go.Proofs.YtfcocbcihhdbkaaGreatDoor
open Go.RowKit Go.Shelf

theorem num_any (e : Int) (w : World) : Calls Tryz.prog 35 #[.int .i64 e] w fun r w' => r = .returned (.int .i64 e) ∧ w' = w := by
  go_enter Tryz.func35, Tryz.ntmps35
  go_wp2
  go_ret
  exact ⟨rfl, rfl⟩

/-- three bytes that were just laid, as a text -/
theorem three_bytes (w1 : World) (x y z : Int) : ∃ s : ByteArray, s.size = 3 ∧ ∀ W, W.heap = (w1.alloc (.cells #[.int .u8 x, .int .u8 y, .int .u8 z] 5)).heap → (convert 225 9 (.slice (some ⟨w1.heap.size, 0, none⟩) 3 3)).run Tryz.prog W = .ok (.string s) W := by
  refine ⟨[x, y, z].foldl (fun r n => r.push (UInt8.ofNat n.toNat)) ByteArray.empty, rfl, fun W hW => ?_⟩
  rw [run_convert_bytes_string W _ _ 5 _ _ _ Tryz.underlying225 Tryz.underlying5 Tryz.underlying9]
  refine run_bytesToString W _ 3 3 [x, y, z] ?_
  have h := run_loadCells_list (P := Tryz.prog) (w := W) ⟨w1.heap.size, 0, none⟩ ([x, y, z].map (Value.int .u8)) (fun j v hj => by
    rw [Addr.add_lit, Nat.zero_add]
    have hb : W.heap[w1.heap.size]? = some (.cells #[.int .u8 x, .int .u8 y, .int .u8 z] 5 (0, 0)) := by rw [hW]; exact heap_new w1 _
    rw [cell_of_heap hb]
    simpa using hj)
  exact h

set_option maxRecDepth 100000 in
set_option maxHeartbeats 1000000 in
theorem mark_any (bb : Nat) (vp vm vr vs : Value) (nx : Int) (w : World) (h : w.heap[bb]? = some (.cells #[vp, vm, vr, vs, .int .i64 nx] 31 (0, 0))) (h0 : 0 ≤ nx) (h1 : nx < 1000000000000) :
    Calls Tryz.prog 89 #[.pointer (some ⟨bb, 0, none⟩)] w fun e w' => ∃ m, e = .returned (.string m) ∧ Keeps (· = bb) w w' ∧ w'.heap[bb]? = some (.cells #[vp, vm, vr, vs, .int .i64 (nx + 1)] 31 (0, 0)) := by
  have c4 : w.cell? ⟨bb, 4, none⟩ = some (.int .i64 nx) := cell_of_heap h 4
  have f4 := frozen_of_heap h 4
  have HT : Hid ((w.setCell ⟨bb, 4, none⟩ (.int .i64 (nx + 1))).heap[bb]? = some (.cells #[vp, vm, vr, vs, .int .i64 (nx + 1)] 31 (0, 0))) := (heap_setCell_same h _).trans (by simp)
  clear h
  go_enter Tryz.func89, Tryz.ntmps89
  go_wp2_with fail
  have HK1 : Hid (Keeps (fun k => k = bb) w (w.setCell ⟨bb, 4, none⟩ (.int .i64 (nx + 1)))) := hid (Keeps.setCell w ⟨bb, 4, none⟩ _)
  generalize w.setCell ⟨bb, 4, none⟩ (.int .i64 (nx + 1)) = w1 at *
  have d4 : w1.cell? ⟨bb, 4, none⟩ = some (.int .i64 (nx + 1)) := cell_of_heap HT.out 4
  clear c4 f4
  obtain ⟨s, hsz, hs⟩ := three_bytes w1 ((nx + 1) % 256) ((nx + 1) / 256 % 256) ((nx + 1) / 65536 % 256)
  have hc := hs (w1.alloc (.cells #[.int .u8 ((nx + 1) % 256), .int .u8 ((nx + 1) / 256 % 256), .int .u8 ((nx + 1) / 65536 % 256)] 5)).drew rfl
  clear hs
  go_region
  all_goals
    go_wp2
    go_ret
    refine ⟨_, rfl, (HK1.out.al _).dr, ?_⟩
    exact ((Keeps.alloc (fun _ => False) w1 _).block bb (Array.getElem?_eq_some_iff.1 HT.out).1 (fun h => h)).trans HT.out

end Go.Proofs.YtfcocbcihhdbkaaGreatDoor

/- works: Begin, Get. -/
namespace Go.Proofs.YtfcocbcihhdbkaaGreatDoor
open Go.RowKit Go.Shelf

/-- an Op's cells -/
def opCells (k n mm : Int) (key val : ByteArray) (x5 x6 x7 x8 x9 x10 : Value) : Array Value := #[.int .i64 k, .int .i64 n, .int .i64 mm, .string key, .string val, x5, x6, x7, x8, x9, x10]

/-- what the calls of a step find: the pair's stores, the step's cells -/
structure StepAt (pb xb yb bx : Nat) (n mm : Int) (key val : ByteArray) (W : World) : Prop where
  x : W.cell? ⟨pb, 0, none⟩ = some (.pointer (some ⟨xb, 0, none⟩))
  y : W.cell? ⟨pb, 1, none⟩ = some (.pointer (some ⟨yb, 0, none⟩))
  n : W.cell? ⟨bx, 1, none⟩ = some (.int .i64 n)
  m : W.cell? ⟨bx, 2, none⟩ = some (.int .i64 mm)
  key : W.cell? ⟨bx, 3, none⟩ = some (.string key)
  val : W.cell? ⟨bx, 4, none⟩ = some (.string val)

theorem step_at {pb xb yb : Nat} {tx : ByteArray} {Fs : List Nat} {w W : World} {k n mm : Int} {key val : ByteArray} {x5 x6 x7 x8 x9 x10 : Value} (hp : w.heap[pb]? = some (.cells (pairTop xb yb tx) 81 (0, 0))) (hn : pb ∉ Fs) (hlt : ∀ j ∈ Fs, j < w.heap.size)
    (hk : Keeps (· ∈ Fs) (w.alloc (.cells #[.int .i64 k, .int .i64 n, .int .i64 mm, .string key, .string val, x5, x6, x7, x8, x9, x10] 72)) W) : StepAt pb xb yb w.heap.size n mm key val W := by
  have lp := (Array.getElem?_eq_some_iff.1 hp).1
  have h1 : W.heap[pb]? = some (.cells (pairTop xb yb tx) 81 (0, 0)) := by
    rw [hk.block pb (by simp; omega) hn, (Keeps.alloc (fun _ => False) w _).block pb lp (fun h => h)]
    exact hp
  have h2 := box_kept hk (fun h => by have := hlt _ h; omega)
  exact ⟨cell_of_heap h1 0, cell_of_heap h1 1, cell_of_heap h2 1, cell_of_heap h2 2, cell_of_heap h2 3, cell_of_heap h2 4⟩

set_option maxRecDepth 100000 in
set_option maxHeartbeats 1000000 in
theorem works_begin {N K pb bb : Nat} {Fs G : List Nat} (n mm : Int) (key val : ByteArray) (x5 x6 x7 x8 x9 x10 : Value) (w : World) (h : Both N K w pb bb Fs G) (hN : N ≤ 10000000000) :
    Calls Tryz.prog 73 #[.pointer (some ⟨pb, 0, none⟩), .pointer (some ⟨bb, 0, none⟩), .agg #[.int .i64 1, .int .i64 n, .int .i64 mm, .string key, .string val, x5, x6, x7, x8, x9, x10]] w fun e w' => e = .returned (.bool true) ∧ BothAfter (N + 1000) K pb bb Fs G w w' := by
  have HH := hid h
  obtain ⟨xb, yb, tx, A, B, FG, FF, hp, h2, hpn, rfl⟩ := id h.duo
  have HLT := hid h.duo.lt
  have HD := hid (fun W (hW : Keeps (fun _ => False) w W) => duet_begin ((hW.block pb (Array.getElem?_eq_some_iff.1 hp).1 (fun h => h)).trans hp) hpn (h2.kept hW (fun _ _ h => h)) hN)
  have HS := hid (fun W (hW : Keeps (· ∈ FG ++ FF) (w.alloc (.cells #[.int .i64 1, .int .i64 n, .int .i64 mm, .string key, .string val, x5, x6, x7, x8, x9, x10] 72)) W) => step_at hp hpn (fun j hj => HLT.out j (List.mem_cons_of_mem _ hj)) hW)
  obtain ⟨c0, c1, -, -, -, -⟩ := HS.out _ (Keeps.refl _ _)
  have HNU := hid (fun W => num_any A.beginR.2 W)
  generalize A.beginR.1 = r1 at *
  generalize A.beginR.2 = r2 at *
  clear h hp h2 hpn hN
  go_enter Tryz.func73, Tryz.ntmps73
  go_wp2_with (first
    | (go_at_call 40; go_must (refine (HD.out _ ((Keeps.refl _ _).al _)).mono ?_; rintro e w1 ⟨rfl, k1, hy⟩; have HY := hid hy; obtain ⟨d0, d1, -, -, -, -⟩ := HS.out _ k1; clear hy))
    | (go_at_call 76; go_must (refine (HY.out _ (Keeps.refl _ _)).mono ?_; rintro e w3 ⟨rfl, k3, hd⟩; have HDD := hid hd; clear hd))
    | (go_at_call 35; go_must (refine (HNU.out _).mono ?_; rintro e w3 ⟨rfl, rfl⟩)))
  go_ret
  refine ⟨rfl, ?_⟩
  exact ((HH.out.kept ((Keeps.refl _ _).al _)).duoAfter HDD.out).pre ((Keeps.refl _ _).al _)

end Go.Proofs.YtfcocbcihhdbkaaGreatDoor

/- ownsPairs. -/
namespace Go.Proofs.YtfcocbcihhdbkaaGreatDoor
open Go.RowKit Go.Shelf

/-- a list that is written full, as far as the loop has come -/
def mixL (m : ByteArray) (xs : List Value) (i : Nat) : List Value := List.replicate (i * 2) (.string m) ++ xs.drop (i * 2)

theorem mixL_zero (m : ByteArray) (xs : List Value) : mixL m xs 0 = xs := by simp [mixL]
theorem mixL_full (m : ByteArray) {xs : List Value} {n : Nat} (h : xs.length = n * 2) : mixL m xs n = List.replicate (n * 2) (.string m) := by
  unfold mixL
  rw [List.drop_of_length_le (by omega), List.append_nil]

theorem mixL_next (m : ByteArray) {xs : List Value} {n i : Nat} (h : xs.length = n * 2) (hi : i < n) : ((mixL m xs i).set (i * 2) (.string m)).set (i * 2 + 1) (.string m) = mixL m xs (i + 1) := by
  have hl : (mixL m xs i).length = n * 2 := by simp [mixL, h]; omega
  have hl2 : (mixL m xs (i + 1)).length = n * 2 := by simp [mixL, h]; omega
  apply List.ext_getElem?
  intro j
  rw [List.getElem?_set, List.getElem?_set]
  simp only [List.length_set, hl]
  by_cases h1 : i * 2 + 1 = j
  · rw [if_pos h1, if_pos (by omega)]
    unfold mixL
    rw [List.getElem?_append_left (by simp; omega), List.getElem?_replicate, if_pos (by omega)]
  · rw [if_neg h1]
    by_cases h2 : i * 2 = j
    · rw [if_pos h2, if_pos (by omega)]
      unfold mixL
      rw [List.getElem?_append_left (by simp; omega), List.getElem?_replicate, if_pos (by omega)]
    · rw [if_neg h2]
      unfold mixL
      by_cases h3 : j < i * 2
      · rw [List.getElem?_append_left (by simp; omega), List.getElem?_append_left (by simp; omega), List.getElem?_replicate, List.getElem?_replicate, if_pos h3, if_pos (by omega)]
      · rw [List.getElem?_append_right (by simp; omega), List.getElem?_append_right (by simp; omega), List.getElem?_drop, List.getElem?_drop]
        simp only [List.length_replicate]
        congr 1
        omega

theorem rep_add (m : ByteArray) (n k : Nat) : List.replicate (n * 2) (Value.string m) ++ List.replicate (k * 2) (Value.string m) = List.replicate ((n + k) * 2) (Value.string m) := by
  rw [List.replicate_append_replicate, ← Nat.add_mul]

theorem rep_all (m : ByteArray) (n : Nat) : ∀ y ∈ List.replicate n (Value.string m), y = .string m := fun _ hy => List.eq_of_mem_replicate hy

theorem Tryz.infoPairs : (Tryz.prog.info? 55).map (fun i => (i.zero, i.size, i.bytes)) = some (some (.slice none 0 0), 1, 24) := by kernel_rfl

/-- what ownsPairs leaves -/
def OwnsPost (K bb : Nat) (vp vm : Value) (Ls : List (Value × ByteArray)) (v : Value) (w w' : World) : Prop :=
  ∃ G', Book (K + 1) w' bb G' ∧ Keeps (fun k => k ∈ bookFp bb vp vm Ls ∨ v.ownBlock = some k) w w' ∧ ∀ k ∈ G', k ∈ bookFp bb vp vm Ls ∨ v.ownBlock = some k ∨ w.heap.size ≤ k

/-- the end of it: what holds behind the appends -/
theorem owns_close {K bb : Nat} {vp vm vp' vm' v v1 v2 v3 : Value} {nx : Int} {Ls : List (Value × ByteArray)} {m : ByteArray} {n : Nat} {w w6 w' : World} (h : BookAt K w bb vp vm nx Ls) (hv : ∀ g, v.ownBlock = some g → g ∉ bookFp bb vp vm Ls) (hn : n ≤ 20000000000)
    (k6 : Keeps (fun k => k = bb ∨ v.ownBlock = some k) w w6) (k7 : Keeps (fun k => k = bb ∨ vp.ownBlock = some k ∨ vm.ownBlock = some k) w6 w')
    (b6 : ∃ cs, w6.heap[bb]? = some (.cells cs 31 (0, 0))) (top : w'.heap[bb]? = some (.cells #[vp', vm', .slice none 0 0, .slice none 0 0, .int .i64 (nx + 1)] 31 (0, 0)))
    (r0 : Row w6 90 2 v n (List.replicate (n * 2) (.string m))) (r1 : Row w6 90 2 v1 (n + 1) (List.replicate ((n + 1) * 2) (.string m))) (r2 : Row w6 90 2 v2 (n + 2) (List.replicate ((n + 2) * 2) (.string m))) (r3 : Row w6 90 2 v3 (n + 3) (List.replicate ((n + 3) * 2) (.string m)))
    (o1 : ∀ g, v1.ownBlock = some g → v.ownBlock = some g ∨ w.heap.size ≤ g) (o2 : ∀ g, v2.ownBlock = some g → v.ownBlock = some g ∨ w.heap.size ≤ g) (o3 : ∀ g, v3.ownBlock = some g → v.ownBlock = some g ∨ w.heap.size ≤ g)
    (rp : Row w' 55 1 vp' (Ls.length + 4) ((Ls.map fun p => p.1) ++ [v, v1, v2, v3])) (rm : Row w' 9 1 vm' (Ls.length + 4) ((Ls.map fun p => .string p.2) ++ [.string m, .string m, .string m, .string m]))
    (op : ∀ g, vp'.ownBlock = some g → vp.ownBlock = some g ∨ w.heap.size ≤ g) (om : ∀ g, vm'.ownBlock = some g → vm.ownBlock = some g ∨ w.heap.size ≤ g) : OwnsPost K bb vp vm Ls v w w' := by
  have hsz := k6.size
  have hp6 : Row w6 55 1 vp Ls.length (Ls.map fun p => p.1) := h.pairs.kept k6 (fun g hg e => by
    rcases e with rfl | e
    · exact (h.pairs.typeIs hg).ne (e' := 31) (by decide) ⟨_, h.top⟩
    · exact hv g e (mem_bookFp.2 (.inr (.inl hg))))
  have hm6 : Row w6 9 1 vm Ls.length (Ls.map fun p => .string p.2) := h.marks.kept k6 (fun g hg e => by
    rcases e with rfl | e
    · exact (h.marks.typeIs hg).ne (e' := 31) (by decide) ⟨_, h.top⟩
    · exact hv g e (mem_bookFp.2 (.inr (.inr (.inl hg)))))
  have pk : ∀ {u : Value} {k : Nat} {ys : List Value}, Row w6 90 2 u k ys → Row w' 90 2 u k ys := fun {u k ys} hu => hu.kept k7 (fun g hg e => by
    rcases e with rfl | e | e
    · exact (hu.typeIs hg).ne (e' := 31) (by decide) b6
    · exact (hu.typeIs hg).ne (e' := 55) (by decide) (hp6.typeIs e)
    · exact (hu.typeIs hg).ne (e' := 9) (by decide) (hm6.typeIs e))
  have hlen := h.len
  have hnx := h.nx
  refine ⟨_, ⟨vp', vm', nx + 1, Ls ++ [(v, m), (v1, m), (v2, m), (v3, m)], ⟨top, by simpa using rp, by simpa using rm, fun p hp => ?_, by simp; omega, by omega⟩, rfl⟩, ?_, fun k hk => ?_⟩
  · rcases List.mem_append.1 hp with hp | hp
    · obtain ⟨j, hj, hrow⟩ := h.lists p hp
      refine ⟨j, hj, pk (hrow.kept k6 (fun g hg e => ?_))⟩
      rcases e with rfl | e
      · exact (hrow.typeIs hg).ne (e' := 31) (by decide) ⟨_, h.top⟩
      · exact hv g e (mem_bookFp.2 (.inr (.inr (.inr ⟨p, hp, hg⟩))))
    · simp only [List.mem_cons, List.not_mem_nil, or_false] at hp
      rcases hp with rfl | rfl | rfl | rfl
      · exact ⟨n, by omega, pk r0⟩
      · exact ⟨n + 1, by omega, pk r1⟩
      · exact ⟨n + 2, by omega, pk r2⟩
      · exact ⟨n + 3, by omega, pk r3⟩
  · exact (k6.mono (T := fun k => k ∈ bookFp bb vp vm Ls ∨ v.ownBlock = some k) (fun k _ hk => by
      rcases hk with rfl | hk
      · exact .inl (mem_bookFp.2 (.inl rfl))
      · exact .inr hk)).tr k7 (fun k hk => by
      rcases hk with rfl | hk | hk
      · exact .inl (mem_bookFp.2 (.inl rfl))
      · exact .inl (mem_bookFp.2 (.inr (.inl hk)))
      · exact .inl (mem_bookFp.2 (.inr (.inr (.inl hk)))))
  · rcases mem_bookFp.1 hk with rfl | h1 | h1 | ⟨p, hp, h1⟩
    · exact .inl (mem_bookFp.2 (.inl rfl))
    · exact (op k h1).elim (fun e => .inl (mem_bookFp.2 (.inr (.inl e)))) (fun e => .inr (.inr e))
    · exact (om k h1).elim (fun e => .inl (mem_bookFp.2 (.inr (.inr (.inl e))))) (fun e => .inr (.inr e))
    · rcases List.mem_append.1 hp with hp | hp
      · exact .inl (mem_bookFp.2 (.inr (.inr (.inr ⟨p, hp, h1⟩))))
      · simp only [List.mem_cons, List.not_mem_nil, or_false] at hp
        rcases hp with rfl | rfl | rfl | rfl
        · exact .inr (.inl h1)
        · exact .inr (o1 k h1)
        · exact .inr (o2 k h1)
        · exact .inr (o3 k h1)

end Go.Proofs.YtfcocbcihhdbkaaGreatDoor
