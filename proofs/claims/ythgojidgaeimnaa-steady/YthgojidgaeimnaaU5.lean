/- Scan, from the first key on, without a bound. -/
import Derived.Test.YthgojidgaeimnaaU4
namespace Go.Proofs.Ythgojidgaeimnaa
open Go.RowKit Go.Shelf

attribute [local go_sem] Oper.semAt_some

/-- what a work sees under a key, as a pair -/
def pairOf (ws : List (ByteArray × Ver)) (vers : ByteArray → List Ver) (began : Int) (key : ByteArray) : Option (ByteArray × ByteArray) :=
  if standsB (seeVer ws (vers key) began key) = true then some (key, ((seeVer ws (vers key) began key).getD Ver.zero).value) else none

def pairCells (p : ByteArray × ByteArray) : List Value := [.string p.1, .string p.2]

/-- what Scan leaves -/
def ScanPost (R : Rep) (x : WkR) (w : World) (e : Ending) (w' : World) : Prop :=
  ∃ v xs kw, e = .returned (.tuple #[v, .int .i64 0]) ∧ kw.Perm (x.writes.map (·.1)) ∧ MergeAt R.keys kw [] [] xs ∧
    Row w' 52 2 v (xs.filterMap (pairOf x.writes (versOf R.hist) x.began)).length ((xs.filterMap (pairOf x.writes (versOf R.hist) x.began)).flatMap pairCells) ∧ (∀ g, v.ownBlock = some g → w.heap.size ≤ g) ∧ Keeps (fun _ => False) w w'

/-- Between two rounds of Scan: the pairs so far. -/
def ScanAt (f : ByteArray → Option (ByteArray × ByteArray)) (pB pa pb : Nat) (w5 : World) (pre : List ByteArray) (W : World) : Prop :=
  ∃ v, W.heap[pB]? = some (.cells #[v] 45 (0, 0)) ∧ Row W 52 2 v (pre.filterMap f).length ((pre.filterMap f).flatMap pairCells) ∧ (∀ g, v.ownBlock = some g → w5.heap.size ≤ g) ∧ Keeps (fun k => k = pB ∨ k = pa ∨ k = pb) w5 W

theorem Row.cellsAt {w : World} {e : TypeId} {size n : Nat} {v : Value} {xs : List Value} (h : Row w e size v n xs) {g : Nat} (hg : v.ownBlock = some g) : ∃ cur, w.heap[g]? = some (.cells cur e (0, 0)) := by
  rcases h.2 with ⟨rfl, _⟩ | ⟨g', cap, cur, rfl, hh, _⟩
  · simp [Value.ownBlock] at hg
  · simp [Value.ownBlock] at hg
    subst hg
    exact ⟨cur, hh⟩

theorem scanAt_own {f : ByteArray → Option (ByteArray × ByteArray)} {pB pa pb : Nat} {w5 : World} (hB : pB < w5.heap.size) : OwnFrom w5.heap.size (ScanAt f pB pa pb w5) := by
  intro pre W W' row hs hg hr
  obtain ⟨v, h1, h2, h3, h4⟩ := hs
  refine ⟨v, ?_, h2.kept (Keeps.grown hg) (fun g hgv e => ?_), h3, h4.trans (Keeps.grown hg) (fun k hk e => ?_)⟩
  · refine ((Keeps.grown hg).block pB (Array.getElem?_eq_some_iff.1 h1).1 (fun e => ?_)).trans h1
    have := (hr pB e.symm).1
    omega
  · obtain ⟨_, o, ho, hc⟩ := hr g e.symm
    obtain ⟨cur, hcur⟩ := h2.cellsAt hgv
    rw [hcur] at ho
    cases ho
    cases hc
  · have := (hr k e.symm).1
    omega

theorem scanAt_C {f : ByteArray → Option (ByteArray × ByteArray)} {pB pa pb : Nat} {w5 : World} (h1 : pB ≠ pa) (h2 : pB ≠ pb) (h3 : pa < w5.heap.size) (h4 : pb < w5.heap.size) (pre : List ByteArray) (A B : World) (hC : Keeps (fun k => k = pa ∨ k = pb) A B) (hs : ScanAt f pB pa pb w5 pre A) : ScanAt f pB pa pb w5 pre B := by
  obtain ⟨v, q1, q2, q3, q4⟩ := hs
  refine ⟨v, (hC.block pB (Array.getElem?_eq_some_iff.1 q1).1 (by rintro (e | e); exact h1 e; exact h2 e)).trans q1, q2.kept hC (fun g hg e => ?_), q3, q4.trans hC (fun k _ e => .inr e)⟩
  have := q3 g hg
  rcases e with e | e <;> omega

theorem scan_goesOn {f : ByteArray → Option (ByteArray × ByteArray)} {pB pa pb : Nat} {G : List Nat} {w5 W W4 : World} {v v' : Value} {pre : List ByteArray} {key : ByteArray} {e : TypeId} {m : Nat} {xs : List Value} (a : Act) (hB : pB < w5.heap.size) (hL : ∀ k ∈ pa :: pb :: G, k < w5.heap.size ∧ k ≠ pB)
    (hrow : Row W e 2 v m xs) (hown : ∀ g, v.ownBlock = some g → w5.heap.size ≤ g) (hkeep : Keeps (fun k => k = pB ∨ k = pa ∨ k = pb) w5 W) (hk : Keeps (fun k => k = pB ∨ some k = v.ownBlock) W W4)
    (hb4 : W4.heap[pB]? = some (.cells #[v'] 45 (0, 0))) (hr4 : Row W4 52 2 v' ((pre ++ [key]).filterMap f).length (((pre ++ [key]).filterMap f).flatMap pairCells)) (ho4 : ∀ g, v'.ownBlock = some g → w5.heap.size ≤ g) :
    goesOn w5.heap.size (KpM (pa :: pb :: G)) (ScanAt f pB pa pb w5) (pre ++ [key]) W .normal a W4 := by
  refine ⟨⟨hk.size, fun k o hBk hko hc => ?_⟩, ⟨hk.size, fun k hkG => ?_⟩, v', hb4, hr4, ho4, hkeep.trans hk (fun k hk' e => ?_)⟩
  · refine (hk.block k (Array.getElem?_eq_some_iff.1 hko).1 ?_).trans hko
    rintro (e | e)
    · omega
    · obtain ⟨cur, hcur⟩ := hrow.cellsAt e.symm
      rw [hcur] at hko
      cases hko
      cases hc
  · obtain ⟨l1, l2⟩ := hL k hkG
    refine hk.block k (Nat.lt_of_lt_of_le l1 hkeep.size) ?_
    rintro (e | e)
    · exact l2 e
    · have := hown k e.symm
      omega
  · rcases e with e | e
    · exact .inl e
    · have := hown k e.symm
      omega

theorem Try.infoPair : (Try.prog.info? 52).map (fun i => (i.zero, i.size, i.bytes)) = some (some (.agg #[.string ⟨#[]⟩, .string ⟨#[]⟩]), 2, 32) := by kernel_rfl

theorem pair_new (w : World) (x y : Value) (t : TypeId) : ∀ j u, [x, y][j]? = some u → (w.alloc (.cells #[x, y] t)).cell? ((⟨w.heap.size, 0, none⟩ : Addr).add j) = some u := by
  intro j u hj
  match j with
  | 0 => simp at hj; subst hj; simp [Addr.add, go_sem]
  | 1 => simp at hj; subst hj; simp [Addr.add, go_sem]
  | j + 2 => simp at hj

/-- A region that ends as it should. -/
theorem wpIn_normal {F : Fence} {m : Nat} {P : Program} {c : Code} {K : Act → World → Prop} {Q : Exit → Act → World → Prop} {a : Act} {w : World} (h : c.wpIn F m P (Exit.then K (fun _ _ _ => False)) a w) : c.wpIn F m P (Exit.then K Q) a w :=
  wpIn_mono h (fun e _ _ hq => by cases e <;> first | exact hq | exact hq.elim)

/-- What append leaves of the pairs. -/
structure ScanNew (W : World) (m : Nat) (av : Option Addr) (cv pB : Nat) (w5 : World) (g' cap' : Nat) (w' : World) (xs : List Value) : Prop where
  box : w'.heap[pB]? = some (.cells #[.slice av m cv] 45 (0, 0))
  row : Row (w'.setCell ⟨pB, 0, none⟩ (.slice (some ⟨g', 0, none⟩) (m + 1) cap')) 52 2 (.slice (some ⟨g', 0, none⟩) (m + 1) cap') (m + 1) xs
  own : ∀ g, (Value.slice (some ⟨g', 0, none⟩) (m + 1) cap').ownBlock = some g → w5.heap.size ≤ g
  keep : Keeps (fun k => k = pB ∨ some k = (Value.slice av m cv).ownBlock) W (w'.setCell ⟨pB, 0, none⟩ (.slice (some ⟨g', 0, none⟩) (m + 1) cap'))

theorem scan_new {W W1 w' w5 : World} {m cv pB pa pb g' cap' : Nat} {av : Option Addr} {xs : List Value} {o : Obj} (k1 : Keeps (fun _ => False) W W1) (hb : W.heap[pB]? = some (.cells #[.slice av m cv] 45 (0, 0))) (hown : ∀ g, (Value.slice av m cv).ownBlock = some g → w5.heap.size ≤ g)
    (hkeep : Keeps (fun k => k = pB ∨ k = pa ∨ k = pb) w5 W) (hr : Row w' 52 2 (.slice (some ⟨g', 0, none⟩) (m + 1) cap') (m + 1) xs) (hg : (W1.alloc o).grownBy w' (Value.slice av m cv).ownBlock)
    (ho : (Value.slice (some ⟨g', 0, none⟩) (m + 1) cap').ownBlock = (Value.slice av m cv).ownBlock ∨ (Value.slice (some ⟨g', 0, none⟩) (m + 1) cap').ownBlock = some (W1.alloc o).heap.size) (hB : pB < w5.heap.size) :
    ScanNew W m av cv pB w5 g' cap' w' xs := by
  have hz1 := k1.size
  have hz5 := hkeep.size
  have hne : some pB ≠ (Value.slice av m cv).ownBlock := fun e => by have := hown pB e.symm; omega
  have hkw : Keeps (fun k => some k = (Value.slice av m cv).ownBlock) W w' := ((k1.mono (fun _ _ h => h.elim)).al o).trans (Keeps.grown hg) (fun k _ e => e)
  have hbox : w'.heap[pB]? = some (.cells #[.slice av m cv] 45 (0, 0)) := (hkw.block pB (Array.getElem?_eq_some_iff.1 hb).1 hne).trans hb
  have hown' : ∀ g, (Value.slice (some ⟨g', 0, none⟩) (m + 1) cap').ownBlock = some g → w5.heap.size ≤ g := fun g hgv => by
    rcases ho with e | e
    · exact hown g (by rw [← e]; exact hgv)
    · rw [hgv] at e
      simp at e
      omega
  refine ⟨hbox, hr.kept (Keeps.setCell _ _ _) (fun g hgv e => ?_), hown', (hkw.mono (fun k _ e => .inr e)).trans (Keeps.setCell _ _ _) (fun k _ e => .inl e)⟩
  have h1 := hown' g hgv
  have e' : g = pB := e
  omega

/-- append, by what it comes to. -/
theorem wpListIn_append_run {F : Fence} {n : Nat} {P : Program} (w : World) {ops : Array Oper} {rest : List Oper} {o : Oper} {a : Act} {Q : Exit → Act → World → Prop} (hg : o.guard = none) (s x : Operand) (t : TypeId)
    (hop : o.op = Op.call { callee := Callee.builtin Builtin.append, args := #[s, x], argTypes := #[t, t] }) (v y v' : Value) (w' : World) (hs : a.eval s = v) (hx : a.eval x = y) (hrun : (Builtin.append_ #[t, t] o.type #[v, y]).run P w = .ok v' w')
    (hK : wpListIn F n P ops Q rest (a.put o.dst v') w') : wpListIn F n P ops Q (o :: rest) a w := by
  refine wpListIn_plain hg fun K hK' => ?_
  unfold Oper.wpIn
  refine ⟨?_, ?_⟩
  · simp [Oper.about, hop, resolve, Target.leads, Sem.run_pure]
  · rw [Oper.semAt_plain F _ _ (by rw [hop]; intro c hc'; cases hc')]
    simp [execOp, hop, resolve, invoke, builtin, hs, hx, hrun, Result.andThen]
    exact hK' _ _ hK

theorem four_new (w : World) (o1 o2 o3 o4 : Obj) : ((((w.alloc o1).alloc o2).alloc o3).alloc o4).heap[w.heap.size]? = some o1 ∧ ((((w.alloc o1).alloc o2).alloc o3).alloc o4).heap[w.heap.size + 1]? = some o2 ∧
    ((((w.alloc o1).alloc o2).alloc o3).alloc o4).heap[w.heap.size + 1 + 1]? = some o3 ∧ ((((w.alloc o1).alloc o2).alloc o3).alloc o4).heap[w.heap.size + 1 + 1 + 1]? = some o4 := by
  have n1 := heap_new w o1
  have n2 := heap_new (w.alloc o1) o2
  have n3 := heap_new ((w.alloc o1).alloc o2) o3
  have n4 := heap_new (((w.alloc o1).alloc o2).alloc o3) o4
  simp only [World.size_alloc] at n2 n3 n4
  refine ⟨?_, ?_, ?_, n4⟩
  · exact (Below.heap_alloc _ _ _ (by simp; omega)).trans ((Below.heap_alloc _ _ _ (by simp; omega)).trans ((Below.heap_alloc _ _ _ (by simp)).trans n1))
  · exact (Below.heap_alloc _ _ _ (by simp)).trans ((Below.heap_alloc _ _ _ (by simp)).trans n2)
  · exact (Below.heap_alloc _ _ _ (by simp)).trans n3

end Go.Proofs.Ythgojidgaeimnaa
