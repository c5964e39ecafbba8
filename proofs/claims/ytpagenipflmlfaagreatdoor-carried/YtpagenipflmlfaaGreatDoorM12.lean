import Derived.Test.YtpagenipflmlfaaGreatDoorM11
import Derived.Sort.AtCallIn
import Derived.Deep.QuietTactic
import Derived.BigQuiet
import Derived.Deep.RegionHeld3

/- merged, walked. -/

namespace Go.Proofs.YtpagenipflmlfaaGreatDoor

open Go.RowKit Go.Shelf

attribute [local go_sem] Oper.semAt_some

/-- how long the slice in a box is -/
def boxLen (w : World) (p : Nat) : Nat := match w.cell? ⟨p, 0, none⟩ with
  | some (.slice _ n _) => n
  | _ => 0

/-- what a round keeps for the iterator -/
def KpM (G : List Nat) (A B : World) : Prop := A.heap.size ≤ B.heap.size ∧ ∀ k ∈ G, B.heap[k]? = A.heap[k]?

/-- what is left lies so -/
def MergeMem (G : List Nat) (pa pb : Nat) (a b pre : List ByteArray) (wr : World) : Prop :=
  ∃ va vb a' b', wr.heap[pa]? = some (.cells #[va] 43 (0, 0)) ∧ wr.heap[pb]? = some (.cells #[vb] 43 (0, 0)) ∧ Seg G wr va a' ∧ Seg G wr vb b' ∧ MergeAt a b a' b' pre

theorem merge_next {G : List Nat} {pa pb : Nat} {a b pre a2 b2 : List ByteArray} {w1 W4 : World} {x y va2 vb2 : Value} (hpa : pa ∉ G) (hpb : pb ∉ G) (hne : pa ≠ pb) (hG : ∀ k ∈ G, k < w1.heap.size)
    (d1 : w1.heap[pa]? = some (.cells #[x] 43 (0, 0))) (d2 : w1.heap[pb]? = some (.cells #[y] 43 (0, 0))) (t3 : Seg G w1 va2 a2) (t4 : Seg G w1 vb2 b2) (hst : MergeAt a b a2 b2 pre)
    (hk : KpM (pa :: pb :: G) (((w1.setCell ⟨pa, 0, none⟩ va2).setCell ⟨pb, 0, none⟩ vb2).drew) W4) : (MergeMem G pa pb a b pre W4 ∧ ∀ k ∈ G, k < W4.heap.size) ∧ W4.cell? ⟨pa, 0, none⟩ = some va2 ∧ W4.cell? ⟨pb, 0, none⟩ = some vb2 := by
  have p1 : (w1.setCell ⟨pa, 0, none⟩ va2).heap[pa]? = some (.cells #[va2] 43 (0, 0)) := by rw [heap_setCell_same d1]; rfl
  have p2 : (w1.setCell ⟨pa, 0, none⟩ va2).heap[pb]? = some (.cells #[y] 43 (0, 0)) := ((Keeps.setCell w1 ⟨pa, 0, none⟩ va2).block pb (Array.getElem?_eq_some_iff.1 d2).1 (fun e => hne e.symm)).trans d2
  have q2 : ((w1.setCell ⟨pa, 0, none⟩ va2).setCell ⟨pb, 0, none⟩ vb2).heap[pb]? = some (.cells #[vb2] 43 (0, 0)) := by rw [heap_setCell_same p2]; rfl
  have q1 : ((w1.setCell ⟨pa, 0, none⟩ va2).setCell ⟨pb, 0, none⟩ vb2).heap[pa]? = some (.cells #[va2] 43 (0, 0)) := ((Keeps.setCell _ ⟨pb, 0, none⟩ vb2).block pa (Array.getElem?_eq_some_iff.1 p1).1 hne).trans p1
  have r1 : W4.heap[pa]? = some (.cells #[va2] 43 (0, 0)) := (hk.2 pa (by simp)).trans q1
  have r2 : W4.heap[pb]? = some (.cells #[vb2] 43 (0, 0)) := (hk.2 pb (by simp)).trans q2
  have hsz : w1.heap.size ≤ W4.heap.size := by
    have h1 := (Keeps.setCell w1 ⟨pa, 0, none⟩ va2).size
    have h2 := (Keeps.setCell (w1.setCell ⟨pa, 0, none⟩ va2) ⟨pb, 0, none⟩ vb2).size
    have h3 : ((w1.setCell ⟨pa, 0, none⟩ va2).setCell ⟨pb, 0, none⟩ vb2).heap.size ≤ W4.heap.size := hk.1
    omega
  have hg : ∀ k ∈ G, W4.heap[k]? = w1.heap[k]? := fun k hkG => by
    have e1 : k ≠ pa := fun e => hpa (e ▸ hkG)
    have e2 : k ≠ pb := fun e => hpb (e ▸ hkG)
    refine (hk.2 k (by simp [hkG])).trans ?_
    exact ((Keeps.setCell (w1.setCell ⟨pa, 0, none⟩ va2) ⟨pb, 0, none⟩ vb2).block k (Nat.lt_of_lt_of_le (hG k hkG) (Keeps.setCell w1 ⟨pa, 0, none⟩ va2).size) e2).trans ((Keeps.setCell w1 ⟨pa, 0, none⟩ va2).block k (hG k hkG) e1)
  exact ⟨⟨⟨va2, vb2, a2, b2, r1, r2, t3.kept hg, t4.kept hg, hst⟩, fun k hkG => Nat.lt_of_lt_of_le (hG k hkG) hsz⟩, cell_of_heap r1 0, cell_of_heap r2 0⟩

end Go.Proofs.YtpagenipflmlfaaGreatDoor

/- The keys that have versions, from the first on; two lists merged. -/

namespace Go.Proofs.YtpagenipflmlfaaGreatDoor

open Go.RowKit Go.Shelf

set_option maxRecDepth 100000 in
set_option maxHeartbeats 400000 in
theorem merged_any (oa ob : Option Addr) (na nb ca cb : Nat) (w : World) :
    Calls Tryz.prog 56 #[.slice oa na ca, .slice ob nb cb] w fun e w' => e = .returned (.func (.func 89) #[] #[.pointer (some ⟨w.heap.size, 0, none⟩), .pointer (some ⟨w.heap.size + 1, 0, none⟩)]) ∧ w' = (w.alloc (.cells #[.slice oa na ca] 43)).alloc (.cells #[.slice ob nb cb] 43) := by
  have hmf : ∀ (fn : Fn) (first cap : Array Value) (w : World), (Instr.makeFunc fn first cap).run Tryz.prog w = .ok (.func fn first cap) w := fun _ _ _ _ => rfl
  go_enter Tryz.func56, Tryz.ntmps56
  go_wp2
  go_ret
  exact ⟨rfl, rfl⟩

end Go.Proofs.YtpagenipflmlfaaGreatDoor

/- Scan, from the first key on, without a bound. -/

namespace Go.Proofs.YtpagenipflmlfaaGreatDoor

open Go.RowKit Go.Shelf

attribute [local go_sem] Oper.semAt_some

/-- what a work sees under a key, as a pair -/
def pairOf (ws : List (ByteArray × Ver)) (vers : ByteArray → List Ver) (began : Int) (key : ByteArray) : Option (ByteArray × ByteArray) :=
  if standsB (seeVer ws (vers key) began key) = true then some (key, ((seeVer ws (vers key) began key).getD Ver.zero).value) else none

def pairCells (p : ByteArray × ByteArray) : List Value := [.string p.1, .string p.2]

/-- Between two rounds of Scan: the pairs so far. -/
def ScanAt (f : ByteArray → Option (ByteArray × ByteArray)) (pB pa pb : Nat) (w5 : World) (pre : List ByteArray) (W : World) : Prop :=
  ∃ v, W.heap[pB]? = some (.cells #[v] 36 (0, 0)) ∧ Row W 89 2 v (pre.filterMap f).length ((pre.filterMap f).flatMap pairCells) ∧ (∀ g, v.ownBlock = some g → w5.heap.size ≤ g) ∧ Keeps (fun k => k = pB ∨ k = pa ∨ k = pb) w5 W

theorem Row.cellsAt {w : World} {e : TypeId} {size n : Nat} {v : Value} {xs : List Value} (h : Row w e size v n xs) {g : Nat} (hg : v.ownBlock = some g) : ∃ cur, w.heap[g]? = some (.cells cur e (0, 0)) := by
  rcases h.2 with ⟨rfl, _⟩ | ⟨g', cap, cur, rfl, hh, _⟩
  · simp [Value.ownBlock] at hg
  · simp [Value.ownBlock] at hg
    subst hg
    exact ⟨cur, hh⟩

theorem scanAt_own {f : ByteArray → Option (ByteArray × ByteArray)} {pB pa pb : Nat} {w5 : World} (hB : pB < w5.heap.size) : OwnFrom w5.heap.size (ScanAt f pB pa pb w5) := by
  intro pre W W' row hs hg hr
  obtain ⟨v, h1, h2, h3, h4⟩ := hs
  refine ⟨v, ?_, h2.kept (Keeps.grown hg) (fun g hgv e => ?_), h3, h4.trans (Keeps.grown hg) (fun k hk e => ?_)⟩
  · refine ((Keeps.grown hg).block pB (Array.getElem?_eq_some_iff.1 h1).1 (fun e => ?_)).trans h1
    have := (hr pB e.symm).1
    omega
  · obtain ⟨_, o, ho, hc⟩ := hr g e.symm
    obtain ⟨cur, hcur⟩ := h2.cellsAt hgv
    rw [hcur] at ho
    cases ho
    cases hc
  · have := (hr k e.symm).1
    omega

theorem scanAt_C {f : ByteArray → Option (ByteArray × ByteArray)} {pB pa pb : Nat} {w5 : World} (h1 : pB ≠ pa) (h2 : pB ≠ pb) (h3 : pa < w5.heap.size) (h4 : pb < w5.heap.size) (pre : List ByteArray) (A B : World) (hC : Keeps (fun k => k = pa ∨ k = pb) A B) (hs : ScanAt f pB pa pb w5 pre A) : ScanAt f pB pa pb w5 pre B := by
  obtain ⟨v, q1, q2, q3, q4⟩ := hs
  refine ⟨v, (hC.block pB (Array.getElem?_eq_some_iff.1 q1).1 (by rintro (e | e); exact h1 e; exact h2 e)).trans q1, q2.kept hC (fun g hg e => ?_), q3, q4.trans hC (fun k _ e => .inr e)⟩
  have := q3 g hg
  rcases e with e | e <;> omega

theorem Tryz.infoPair : (Tryz.prog.info? 89).map (fun i => (i.zero, i.size, i.bytes)) = some (some (.agg #[.string ⟨#[]⟩, .string ⟨#[]⟩]), 2, 32) := by kernel_rfl

theorem pair_new (w : World) (x y : Value) (t : TypeId) : ∀ j u, [x, y][j]? = some u → (w.alloc (.cells #[x, y] t)).cell? ((⟨w.heap.size, 0, none⟩ : Addr).add j) = some u := by
  intro j u hj
  match j with
  | 0 => simp at hj; subst hj; simp [Addr.add, go_sem]
  | 1 => simp at hj; subst hj; simp [Addr.add, go_sem]
  | j + 2 => simp at hj

/-- A region that ends as it should. -/
theorem wpIn_normal {F : Fence} {m : Nat} {P : Program} {c : Code} {K : Act → World → Prop} {Q : Exit → Act → World → Prop} {a : Act} {w : World} (h : c.wpIn F m P (Exit.then K (fun _ _ _ => False)) a w) : c.wpIn F m P (Exit.then K Q) a w :=
  wpIn_mono h (fun e _ _ hq => by cases e <;> first | exact hq | exact hq.elim)

/-- What append leaves of the pairs. -/
structure ScanNew (W : World) (m : Nat) (av : Option Addr) (cv pB : Nat) (w5 : World) (g' cap' : Nat) (w' : World) (xs : List Value) : Prop where
  box : w'.heap[pB]? = some (.cells #[.slice av m cv] 36 (0, 0))
  row : Row (w'.setCell ⟨pB, 0, none⟩ (.slice (some ⟨g', 0, none⟩) (m + 1) cap')) 89 2 (.slice (some ⟨g', 0, none⟩) (m + 1) cap') (m + 1) xs
  own : ∀ g, (Value.slice (some ⟨g', 0, none⟩) (m + 1) cap').ownBlock = some g → w5.heap.size ≤ g
  keep : Keeps (fun k => k = pB ∨ some k = (Value.slice av m cv).ownBlock) W (w'.setCell ⟨pB, 0, none⟩ (.slice (some ⟨g', 0, none⟩) (m + 1) cap'))

theorem scan_new {W W1 w' w5 : World} {m cv pB pa pb g' cap' : Nat} {av : Option Addr} {xs : List Value} {o : Obj} (k1 : Keeps (fun _ => False) W W1) (hb : W.heap[pB]? = some (.cells #[.slice av m cv] 36 (0, 0))) (hown : ∀ g, (Value.slice av m cv).ownBlock = some g → w5.heap.size ≤ g)
    (hkeep : Keeps (fun k => k = pB ∨ k = pa ∨ k = pb) w5 W) (hr : Row w' 89 2 (.slice (some ⟨g', 0, none⟩) (m + 1) cap') (m + 1) xs) (hg : (W1.alloc o).grownBy w' (Value.slice av m cv).ownBlock)
    (ho : (Value.slice (some ⟨g', 0, none⟩) (m + 1) cap').ownBlock = (Value.slice av m cv).ownBlock ∨ (Value.slice (some ⟨g', 0, none⟩) (m + 1) cap').ownBlock = some (W1.alloc o).heap.size) (hB : pB < w5.heap.size) :
    ScanNew W m av cv pB w5 g' cap' w' xs := by
  have hz1 := k1.size
  have hz5 := hkeep.size
  have hne : some pB ≠ (Value.slice av m cv).ownBlock := fun e => by have := hown pB e.symm; omega
  have hkw : Keeps (fun k => some k = (Value.slice av m cv).ownBlock) W w' := ((k1.mono (fun _ _ h => h.elim)).al o).trans (Keeps.grown hg) (fun k _ e => e)
  have hbox : w'.heap[pB]? = some (.cells #[.slice av m cv] 36 (0, 0)) := (hkw.block pB (Array.getElem?_eq_some_iff.1 hb).1 hne).trans hb
  have hown' : ∀ g, (Value.slice (some ⟨g', 0, none⟩) (m + 1) cap').ownBlock = some g → w5.heap.size ≤ g := fun g hgv => by
    rcases ho with e | e
    · exact hown g (by rw [← e]; exact hgv)
    · rw [hgv] at e
      simp at e
      omega
  refine ⟨hbox, hr.kept (Keeps.setCell _ _ _) (fun g hgv e => ?_), hown', (hkw.mono (fun k _ e => .inr e)).trans (Keeps.setCell _ _ _) (fun k _ e => .inl e)⟩
  have h1 := hown' g hgv
  have e' : g = pB := e
  omega

/-- append, by what it comes to. -/
theorem wpListIn_append_run {F : Fence} {n : Nat} {P : Program} (w : World) {ops : Array Oper} {rest : List Oper} {o : Oper} {a : Act} {Q : Exit → Act → World → Prop} (hg : o.guard = none) (s x : Operand) (t : TypeId)
    (hop : o.op = Op.call { callee := Callee.builtin Builtin.append, args := #[s, x], argTypes := #[t, t] }) (v y v' : Value) (w' : World) (hs : a.eval s = v) (hx : a.eval x = y) (hrun : (Builtin.append_ #[t, t] o.type #[v, y]).run P w = .ok v' w')
    (hK : wpListIn F n P ops Q rest (a.put o.dst v') w') : wpListIn F n P ops Q (o :: rest) a w := by
  refine wpListIn_plain hg fun K hK' => ?_
  unfold Oper.wpIn
  refine ⟨?_, ?_⟩
  · simp [Oper.about, hop, resolve, Target.leads, Sem.run_pure]
  · rw [Oper.semAt_plain F _ _ (by rw [hop]; intro c hc'; cases hc')]
    simp [execOp, hop, resolve, invoke, builtin, hs, hx, hrun, Result.andThen]
    exact hK' _ _ hK

theorem four_new (w : World) (o1 o2 o3 o4 : Obj) : ((((w.alloc o1).alloc o2).alloc o3).alloc o4).heap[w.heap.size]? = some o1 ∧ ((((w.alloc o1).alloc o2).alloc o3).alloc o4).heap[w.heap.size + 1]? = some o2 ∧
    ((((w.alloc o1).alloc o2).alloc o3).alloc o4).heap[w.heap.size + 1 + 1]? = some o3 ∧ ((((w.alloc o1).alloc o2).alloc o3).alloc o4).heap[w.heap.size + 1 + 1 + 1]? = some o4 := by
  have n1 := heap_new w o1
  have n2 := heap_new (w.alloc o1) o2
  have n3 := heap_new ((w.alloc o1).alloc o2) o3
  have n4 := heap_new (((w.alloc o1).alloc o2).alloc o3) o4
  simp only [World.size_alloc] at n2 n3 n4
  refine ⟨?_, ?_, ?_, n4⟩
  · exact (Below.heap_alloc _ _ _ (by simp; omega)).trans ((Below.heap_alloc _ _ _ (by simp; omega)).trans ((Below.heap_alloc _ _ _ (by simp)).trans n1))
  · exact (Below.heap_alloc _ _ _ (by simp)).trans ((Below.heap_alloc _ _ _ (by simp)).trans n2)
  · exact (Below.heap_alloc _ _ _ (by simp)).trans n3

end Go.Proofs.YtpagenipflmlfaaGreatDoor

/- Scan, walked. -/

namespace Go.Proofs.YtpagenipflmlfaaGreatDoor

open Go.RowKit Go.Shelf

attribute [local go_sem] Oper.semAt_some

end Go.Proofs.YtpagenipflmlfaaGreatDoor

/- General laws of lists that a function makes, and of records (out of R0, R1, RA), for a seat without the document's answer. -/

namespace Go.Proofs.YtpagenipflmlfaaGreatDoor

open Go.RowKit Go.Shelf

theorem flat_at {α : Type} {f : α → List Value} {size : Nat} (hf : ∀ a, (f a).length = size) : ∀ (l : List α) (k r : Nat) (hk : k < l.length), r < size → (l.flatMap f)[k * size + r]? = (f l[k])[r]?
  | [], k, r, hk, _ => by simp at hk
  | a :: l, 0, r, _, hr => by
    have : r < (f a).length := by rw [hf]; exact hr
    simp [List.getElem?_append_left this]
  | a :: l, k + 1, r, hk, hr => by
    have ih := flat_at hf l k r (by simpa using hk) hr
    have e : (k + 1) * size + r = (f a).length + (k * size + r) := by rw [hf, Nat.add_mul, Nat.one_mul]; omega
    rw [List.flatMap_cons, e, List.getElem?_append_right (by omega), Nat.add_sub_cancel_left, ih]
    simp

theorem Row.elem {α : Type} {f : α → List Value} {size : Nat} (hf : ∀ a, (f a).length = size) {w : World} {e : TypeId} {g cap : Nat} {l : List α} (h : Row w e size (.slice (some ⟨g, 0, none⟩) l.length cap) l.length (l.flatMap f)) (k : Nat) (hk : k < l.length) (r : Nat) (hr : r < size) :
    w.cell? ⟨g, k * size + r, none⟩ = (f l[k])[r]? := by
  have hlt : k * size + r < l.length * size := by
    have : (k + 1) * size ≤ l.length * size := Nat.mul_le_mul_right _ hk
    rw [Nat.add_mul, Nat.one_mul] at this
    omega
  rw [h.cellAt _ hlt, flat_at hf l k r hk hr]

theorem news_arr (w : World) (arr : Array Value) (t : TypeId) : ∀ j u, arr.toList[j]? = some u → (w.alloc (.cells arr t)).cell? ((⟨w.heap.size, 0, none⟩ : Addr).add j) = some u := by
  intro j u hj
  rw [Addr.add_lit, Nat.zero_add, cell_of_heap (heap_new w (.cells arr t)) j]
  simpa using hj

/-- A list that a function makes: v holds l in W, its block is new since w. -/
structure Made {α : Type} (e : TypeId) (size : Nat) (f : α → List Value) (w W : World) (v : Value) (l : List α) : Prop where
  row : Row W e size v l.length (l.flatMap f)
  own : ∀ g, v.ownBlock = some g → w.heap.size ≤ g
  keep : Keeps (fun _ => False) w W

theorem Made.nil {α : Type} {e : TypeId} {size : Nat} {f : α → List Value} {w W : World} (hk : Keeps (fun _ => False) w W) : Made e size f w W (.slice none 0 0) ([] : List α) :=
  ⟨Row.nil _ _ _, fun g hg => by simp [Value.ownBlock] at hg, hk⟩

theorem Made.kept {α : Type} {e : TypeId} {size : Nat} {f : α → List Value} {w W W' : World} {v : Value} {l : List α} (h : Made e size f w W v l) (hk : Keeps (fun _ => False) W W') : Made e size f w W' v l :=
  ⟨h.row.kept hk (fun _ _ h => h), h.own, h.keep.tr hk (fun _ h => h)⟩

/-- append of one -/
theorem Made.push {α : Type} {e : TypeId} {size : Nat} {f : α → List Value} {w W W1 w' : World} {v v' : Value} {l : List α} {a : α} (h : Made e size f w W v l) (hW : Keeps (fun _ => False) W W1) (hr : Row w' e size v' (l.length + 1) (l.flatMap f ++ f a)) (hg : W1.grownBy w' v.ownBlock)
    (ho : v'.ownBlock = v.ownBlock ∨ v'.ownBlock = some W1.heap.size) : Made e size f w w' v' (l ++ [a]) := by
  have hz := h.keep.size
  have hz1 := hW.size
  refine ⟨by simpa using hr, fun g hgv => ?_, (h.keep.tr hW (fun _ h => h)).trans (Keeps.grown hg) (fun k hk e => ?_)⟩
  · rcases ho with e1 | e1
    · exact h.own g (by rw [← e1]; exact hgv)
    · rw [hgv] at e1
      simp at e1
      omega
  · have := h.own k e.symm
    omega

/-- a record -/
structure RecB where
  key : ByteArray
  value : ByteArray
  gone : Bool

def RecB.cells (r : RecB) : List Value := [.string r.key, .string r.value, .bool r.gone]

def RecB.val (r : RecB) : Value := .agg #[.string r.key, .string r.value, .bool r.gone]

theorem RecB.len (r : RecB) : r.cells.length = 3 := rfl

def RecB.zero : RecB := ⟨ByteArray.empty, ByteArray.empty, false⟩

theorem Tryz.infoRec : (Tryz.prog.info? 147).map (fun i => (i.zero, i.size, i.bytes)) = some (some (.agg #[.string ⟨#[]⟩, .string ⟨#[]⟩, .bool false]), 3, 40) := by kernel_rfl

theorem gtr_str (x y : ByteArray) : (!ltK x y && !(x.toList == y.toList)) = ltK y x := by
  cases h1 : ltK x y with
  | true =>
    have h2 : ltK y x = false := by
      cases h3 : ltK y x with
      | false => rfl
      | true => have := ltK_trans h1 h3; rw [ltK_irrefl] at this; cases this
    simp [h2]
  | false =>
    cases h3 : ltK y x with
    | true =>
      have hne := (Lib.bytes_beq_false_iff x y).2 (fun e => by rw [e, ltK_irrefl] at h3; cases h3)
      simp [hne]
    | false =>
      have e := ltK_total h1 h3
      subst e
      simp

/-- the same slice, its length written otherwise -/
theorem Made.slice {α : Type} {e : TypeId} {size : Nat} {f : α → List Value} {w W : World} {v v' : Value} {l : List α} (h : Made e size f w W v l) (hv : v = v') : Made e size f w W v' l := hv ▸ h

/-- block k holds elements of type e -/
def TypeIs (w : World) (k : Nat) (e : TypeId) : Prop := ∃ cur, w.heap[k]? = some (.cells cur e (0, 0))

theorem TypeIs.lt {w : World} {k : Nat} {e : TypeId} (h : TypeIs w k e) : k < w.heap.size := by
  obtain ⟨cur, h⟩ := h
  exact (Array.getElem?_eq_some_iff.1 h).1

theorem TypeIs.kept {w w' : World} {k : Nat} {e : TypeId} {S : Nat → Prop} (h : TypeIs w k e) (hk : Keeps S w w') (hS : ¬ S k) : TypeIs w' k e := by
  obtain ⟨cur, h⟩ := h
  exact ⟨cur, (hk.block k (Array.getElem?_eq_some_iff.1 h).1 hS).trans h⟩

theorem TypeIs.ne {w : World} {k : Nat} {e e' : TypeId} (h : TypeIs w k e) (hne : e ≠ e') : ¬ TypeIs w k e' := by
  rintro ⟨cur', h'⟩
  obtain ⟨cur, h⟩ := h
  rw [h] at h'
  simp only [Option.some.injEq, Obj.cells.injEq] at h'
  exact hne h'.2.1

theorem Row.typeIs {w : World} {e : TypeId} {size n : Nat} {v : Value} {xs : List Value} (h : Row w e size v n xs) {g : Nat} (hg : v.ownBlock = some g) : TypeIs w g e := h.cellsAt hg

theorem Keeps.drN {S : Nat → Prop} {a w : World} (h : Keeps S a w) (q : Nat) : Keeps S a (w.drewN q) := h.tr (T := fun _ => False) ⟨rfl, rfl, rfl, Nat.le_refl _, fun _ _ _ => rfl⟩ (fun _ h => h.elim)

end Go.Proofs.YtpagenipflmlfaaGreatDoor

/- number. -/

namespace Go.Proofs.YtpagenipflmlfaaGreatDoor

open Go.RowKit Go.Shelf

def byteCells (b : UInt8) : List Value := [.int .u8 (b.toNat : Nat)]

theorem byte_flat (l : List UInt8) : l.flatMap byteCells = l.map fun b => Value.int .u8 (b.toNat : Nat) := by
  induction l with
  | nil => rfl
  | cons b l ih => simp [byteCells, ih]

/-- a list of bytes as a text -/
theorem bytes_row {W : World} {g cap : Nat} {l : List UInt8} (h : Row W 5 1 (.slice (some ⟨g, 0, none⟩) l.length cap) l.length (l.flatMap byteCells)) :
    (convert 190 9 (.slice (some ⟨g, 0, none⟩) l.length cap)).run Tryz.prog W = .ok (.string (ofL l)) W := by
  rw [run_convert_bytes_string W _ _ 5 _ _ _ Tryz.underlying190 Tryz.underlying5 Tryz.underlying9]
  have hr := h
  rw [byte_flat] at hr
  have hl := run_loadCells_list (P := Tryz.prog) (w := W) ⟨g, 0, none⟩ ((l.map fun b => ((b.toNat : Nat) : Int)).map (Value.int .u8)) (fun j v hj => by
    rw [Addr.add_lit, Nat.zero_add]
    have hj' : j < l.length := by
      have := (List.getElem?_eq_some_iff.1 hj).1
      simpa using this
    rw [hr.cellAt j (by omega)]
    simpa using hj)
  simp only [List.length_map] at hl
  rw [run_bytesToString W _ _ _ _ hl]
  congr 2
  have gen : ∀ (l : List UInt8) (a : List UInt8), (l.map fun b => ((b.toNat : Nat) : Int)).foldl (fun r n => r.push (UInt8.ofNat n.toNat)) (ofL a) = ofL (a ++ l) := by
    intro l
    induction l with
    | nil => intro a; simp
    | cons n l ih =>
      intro a
      have e : (ofL a).push (UInt8.ofNat ((n.toNat : Nat) : Int).toNat) = ofL (a ++ [n]) := by
        apply ByteArray.ext
        simp [ofL, ByteArray.push]
      rw [List.map_cons, List.foldl_cons, e, ih]
      simp
  exact gen l []

theorem or128 {m : Nat} : bits BinOp.or IntKind.u8 ((m : Int) % 256) 128 = ((m % 128 + 128 : Nat) : Int) := by
  have h := (bits_nat .u8 8 (by simp [IntKind.bits]) (fun n h0 h1 => wraps_u8 n h0 h1) (m % 256) 128 (by omega) (by omega)).2
  have e1 : ((m % 256 : Nat) : Int) = (m : Int) % 256 := by omega
  have e2 : ((128 : Nat) : Int) = 128 := rfl
  rw [e1, e2] at h
  rw [h]
  have hall : ∀ i : Fin 256, i.val ||| 128 = i.val % 128 + 128 := by decide +kernel
  have := hall ⟨m % 256, by omega⟩
  simp only at this
  rw [this]
  omega

theorem Tryz.infoByte : (Tryz.prog.info? 5).map (fun i => (i.zero, i.size, i.bytes)) = some (some (.int .u8 0), 1, 1) := by kernel_rfl

theorem numL_len : ∀ (f n : Nat), n < 128 ^ (f + 1) → (numL n).length ≤ f + 1
  | 0, n, h => by rw [numL_small (by simpa using h)]; simp
  | f + 1, n, h => by
    by_cases hn : n < 128
    · rw [numL_small hn]; simp
    · rw [numL_great hn, List.length_cons]
      have := numL_len f (n / 128) (Nat.div_lt_of_lt_mul (by rw [Nat.pow_succ, Nat.mul_comm] at h; exact h))
      omega

set_option maxRecDepth 100000 in
set_option maxHeartbeats 1000000 in
theorem number_any (n0 : Nat) (w : World) (h0 : n0 < 9223372036854775808) :
    Calls Tryz.prog 131 #[.int .i64 (n0 : Nat)] w fun e w' => e = .returned (.string (ofL (numL n0))) ∧ Keeps (fun _ => False) w w' := by
  obtain ⟨i0, hi, hz0, hz1, hz2⟩ := info_parts Tryz.infoByte
  have HL : Hid ((numL n0).length ≤ 9) := numL_len 8 n0 (by omega)
  go_enter Tryz.func131, Tryz.ntmps131
  go_wp2_with fail
  go_loopw [0, 3] (fun z v wr => ∃ (m : Nat) (pre : List UInt8), m ≤ n0 ∧ z = .int .i64 (m : Nat) ∧ Made 5 1 byteCells w wr v pre ∧ pre ++ numL m = numL n0) (fun z _ _ => (intOf z).toNat)
  case atStart => exact ⟨n0, [], Nat.le_refl _, rfl, Made.nil (Keeps.refl _ _), rfl⟩
  case round =>
    obtain ⟨m, pre, hm, rfl, hM, he⟩ := hrel
    obtain ⟨ob, cb, rfl, hmx, -⟩ := hM.row.form
    have HP : Hid (pre.length ≤ 9) := by
      have h1 := congrArg List.length he
      have h2 := HL.out
      rw [List.length_append] at h1
      show _ ≤ _
      omega
    have HM := hid hM
    have HE := hid he
    have hmI : (m : Int) ≤ 9223372036854775807 := by omega
    unfold maxLen at hmx
    clear hM he
    by_cases hlt : m < 128
    · have HN : Hid (numL n0 = pre ++ [UInt8.ofNat m]) := by
        show _ = _
        rw [← HE.out, numL_small hlt]
      have hdv : (UInt8.ofNat m).toNat = m := toNat_ofNat (by omega)
      have HDV := hid hdv
      have hltI : (m : Int) < 128 := by omega
      clear hdv
      generalize UInt8.ofNat m = d at *
      go_wp2_with (at_builtin; go_must (refine wpList_append_row _ rfl _ _ 190 rfl 5 i0 _ 1 1 Tryz.underlying190 hi hz0 hz1 hz2 rfl (.slice ob pre.length cb) pre.length _ rfl (HM.out.row.kept (Keeps.alloc (fun _ => False) _ _) (fun _ _ h => h)) ⟨wr.heap.size, 0, none⟩ 1 1 [.int .u8 (m : Nat)] rfl rfl (news_arr wr #[.int .u8 (m : Nat)] _) (by simp [Value.oneCell']) (by have := HP.out; unfold maxLen; omega) (by have := HP.out; omega) ?_; intro v' w2 hown' hgrow _ hat; obtain ⟨g', cap', rfl⟩ := hown'.succ; have hM2 := HM.out.push (a := d) ((Keeps.refl _ _).al _) (by simpa [byteCells, HDV.out] using hown') hgrow hat; have hr2 := hM2.row; simp only [List.length_append, List.length_cons, List.length_nil, Nat.zero_add] at hr2; have hcv := bytes_row (l := pre ++ [d]) (by simpa using hr2); simp only [List.length_append, List.length_cons, List.length_nil, Nat.zero_add] at hcv; have HM2 := hid hM2; clear hown' hgrow hat hM2 hr2))
      go_ret
      exact ⟨by rw [HN.out]; rfl, HM2.out.keep⟩
    · have e1 := or128 (m := m)
      have hd : m % 128 + 128 < 256 := by omega
      have HN : Hid ((pre ++ [UInt8.ofNat (m % 128 + 128)]) ++ numL (m / 128) = numL n0) := by
        show _ = _
        rw [← HE.out, numL_great hlt]
        simp
      have hdv : (UInt8.ofNat (m % 128 + 128)).toNat = m % 128 + 128 := toNat_ofNat hd
      rw [← hdv] at e1
      generalize UInt8.ofNat (m % 128 + 128) = d at *
      have hltI : (128 : Int) ≤ m := by omega
      clear hd hdv
      go_wp2_with (at_builtin; go_must (refine wpList_append_row _ rfl _ _ 190 rfl 5 i0 _ 1 1 Tryz.underlying190 hi hz0 hz1 hz2 rfl (.slice ob pre.length cb) pre.length _ rfl (HM.out.row.kept (Keeps.alloc (fun _ => False) _ _) (fun _ _ h => h)) ⟨wr.heap.size, 0, none⟩ 1 1 [.int .u8 (d.toNat : Nat)] rfl rfl (news_arr wr #[.int .u8 (d.toNat : Nat)] _) (by simp [Value.oneCell']) (by have := HP.out; unfold maxLen; omega) (by have := HP.out; omega) ?_; intro v' w2 hown' hgrow _ hat; have HM2 := hid (HM.out.push (a := d) ((Keeps.refl _ _).al _) hown' hgrow hat); clear hown' hgrow hat))
      exact ⟨⟨m / 128, pre ++ [d], by omega, by go_num, HM2.out, HN.out⟩, by simp only [intOf]; omega⟩

end Go.Proofs.YtpagenipflmlfaaGreatDoor

/- Streams as texts: how they are written, how they are read: pure. -/

namespace Go.Proofs.YtpagenipflmlfaaGreatDoor

/-- a record -/
structure Rec where
  key : List UInt8
  value : List UInt8
  gone : Bool

/-- how many bytes two texts have in common at their beginning -/
def common : List UInt8 → List UInt8 → Nat
  | x :: a, y :: b => if x = y then common a b + 1 else 0
  | _, _ => 0

theorem common_le : ∀ a b : List UInt8, common a b ≤ a.length ∧ common a b ≤ b.length
  | [], b => by simp [common]
  | x :: a, [] => by simp [common]
  | x :: a, y :: b => by
    simp only [common]
    split
    · have := common_le a b
      simp; omega
    · simp

theorem common_take : ∀ a b : List UInt8, a.take (common a b) = b.take (common a b)
  | [], b => by simp [common]
  | x :: a, [] => by simp [common]
  | x :: a, y :: b => by
    simp only [common]
    split
    · rename_i e
      simp [e, common_take a b]
    · simp

def tailOf (r : Rec) : List UInt8 := if r.gone then numL 0 else numL (1 + r.value.length) ++ r.value

/-- a record behind one with the key ahead -/
def recL (ahead : List UInt8) (r : Rec) : List UInt8 :=
  numL (common ahead r.key) ++ (numL (r.key.length - common ahead r.key) ++ (r.key.drop (common ahead r.key) ++ tailOf r))

def recsL : List UInt8 → List Rec → List UInt8
  | _, [] => []
  | a, r :: rs => recL a r ++ recsL r.key rs

def blockB (rs : List Rec) : List UInt8 := numL rs.length ++ recsL [] rs

def blockL (rs : List Rec) : List UInt8 := blockB rs ++ checkL (blockB rs)

def blocksF : Nat → List Rec → List UInt8
  | 0, _ => []
  | _ + 1, [] => []
  | f + 1, r :: rs => blockL ((r :: rs).take 4) ++ blocksF f ((r :: rs).drop 4)

def blocksL (rs : List Rec) : List UInt8 := blocksF rs.length rs

theorem blocksF_same : ∀ (f g : Nat) (rs : List Rec), rs.length ≤ f → rs.length ≤ g → blocksF f rs = blocksF g rs
  | 0, 0, _, _, _ => rfl
  | 0, _ + 1, [], _, _ => rfl
  | _ + 1, 0, [], _, _ => rfl
  | _ + 1, _ + 1, [], _, _ => rfl
  | 0, _ + 1, _ :: _, h, _ => by simp at h
  | _ + 1, 0, _ :: _, _, h => by simp at h
  | f + 1, g + 1, r :: rs, hf, hg => by
    rw [blocksF, blocksF, blocksF_same f g _ (by simp at hf ⊢; omega) (by simp at hg ⊢; omega)]

theorem blocksL_nil : blocksL [] = [] := rfl

theorem blocksL_more {rs : List Rec} (h : ¬ rs = []) : blocksL rs = blockL (rs.take 4) ++ blocksL (rs.drop 4) := by
  cases rs with
  | nil => exact absurd rfl h
  | cons r rs =>
    unfold blocksL
    rw [List.length_cons, blocksF, blocksF_same rs.length _ _ (by simp) (Nat.le_refl _)]

def kindL (full : Bool) : List UInt8 := if full then [65, 78, 78, 70] else [65, 78, 78, 68]

def headL (full : Bool) (a b : Nat) : List UInt8 := kindL full ++ numL a ++ numL b

/-- a stream -/
structure Str where
  full : Bool
  a : Nat
  b : Nat
  recs : List Rec

def bodyL (x : Str) : List UInt8 := headL x.full x.a x.b ++ (blocksL x.recs ++ (numL 0 ++ numL x.recs.length))

def streamL (x : Str) : List UInt8 := bodyL x ++ checkL (bodyL x)

/-- a record as it should be -/
def Rec.ok (r : Rec) : Prop := 1 ≤ r.key.length ∧ r.key.length ≤ 10 ∧ r.value.length ≤ 40 ∧ (r.gone = true → r.value = [])

/-- a stream as it should be, its order aside -/
def Str.ok (x : Str) : Prop := x.a < 34359738368 ∧ x.b < 34359738368 ∧ x.recs.length < 34359738368 ∧ ∀ r ∈ x.recs, r.ok

theorem recL_pos (a : List UInt8) (r : Rec) : 1 ≤ (recL a r).length := by
  have := numL_pos (common a r.key)
  simp [recL]; omega

theorem recsL_length : ∀ (rs : List Rec) (a : List UInt8), rs.length ≤ (recsL a rs).length
  | [], _ => by simp
  | r :: rs, a => by
    have := recsL_length rs r.key
    have := recL_pos a r
    simp [recsL]; omega

theorem blocksL_length (n : Nat) : ∀ (rs : List Rec), rs.length ≤ n → rs.length ≤ (blocksL rs).length := by
  induction n with
  | zero => intro rs h; omega
  | succ n ih =>
    intro rs h
    by_cases h0 : rs = []
    · simp [h0]
    · have hl := List.length_pos_iff.2 h0
      rw [blocksL_more h0, List.length_append]
      have h1 := ih (rs.drop 4) (by simp; omega)
      have h2 := recsL_length (rs.take 4) []
      have h3 : (rs.take 4).length + (rs.drop 4).length = rs.length := by simp; omega
      simp only [blockL, blockB, List.length_append]
      omega

end Go.Proofs.YtpagenipflmlfaaGreatDoor

/- inCommon, record. -/

namespace Go.Proofs.YtpagenipflmlfaaGreatDoor

open Go.RowKit Go.Shelf

theorem common_lt : ∀ (a b : List UInt8) (k : Nat), k < common a b → ∃ (h1 : k < a.length) (h2 : k < b.length), a[k] = b[k]
  | [], b, k, h => by simp [common] at h
  | x :: a, [], k, h => by simp [common] at h
  | x :: a, y :: b, k, h => by
    simp only [common] at h
    split at h
    · rename_i e
      cases k with
      | zero => exact ⟨by simp, by simp, by simpa using e⟩
      | succ k =>
        obtain ⟨h1, h2, h3⟩ := common_lt a b k (by omega)
        exact ⟨by simpa using h1, by simpa using h2, by simpa using h3⟩
    · omega

theorem common_stop : ∀ (a b : List UInt8), common a b = a.length ∨ common a b = b.length ∨ ∃ (h1 : common a b < a.length) (h2 : common a b < b.length), a[common a b] ≠ b[common a b]
  | [], b => .inl (by simp [common])
  | x :: a, [] => .inr (.inl (by simp [common]))
  | x :: a, y :: b => by
    by_cases e : x = y
    · have ec : common (x :: a) (y :: b) = common a b + 1 := by simp [common, e]
      rcases common_stop a b with h | h | ⟨h1, h2, h3⟩
      · exact .inl (by rw [ec, h]; simp)
      · exact .inr (.inl (by rw [ec, h]; simp))
      · refine .inr (.inr ⟨by rw [ec]; simp; omega, by rw [ec]; simp; omega, ?_⟩)
        simp only [ec, List.getElem_cons_succ]
        exact h3
    · have ec : common (x :: a) (y :: b) = 0 := by simp [common, e]
      refine .inr (.inr ⟨by rw [ec]; simp, by rw [ec]; simp, ?_⟩)
      simp only [ec, List.getElem_cons_zero]
      exact e

set_option maxRecDepth 100000 in
set_option maxHeartbeats 1000000 in
theorem inCommon_any (a b : ByteArray) (w : World) (ha : a.size ≤ maxLen) :
    Calls Tryz.prog 154 #[.string a, .string b] w fun e w' => e = .returned (.int .i64 (common a.data.toList b.data.toList : Nat)) ∧ Keeps (fun _ => False) w w' := by
  have HLT : Hid (∀ k, k < common a.data.toList b.data.toList → ∃ (h1 : k < a.size) (h2 : k < b.size), a[k] = b[k]) := fun k hk => by
    obtain ⟨h1, h2, h3⟩ := common_lt _ _ k hk
    exact ⟨by simpa using h1, by simpa using h2, by simp only [Array.getElem_toList] at h3; exact h3⟩
  have HST : Hid (common a.data.toList b.data.toList = a.size ∨ common a.data.toList b.data.toList = b.size ∨ ∃ (h1 : common a.data.toList b.data.toList < a.size) (h2 : common a.data.toList b.data.toList < b.size), a[common a.data.toList b.data.toList] ≠ b[common a.data.toList b.data.toList]) := by
    rcases common_stop a.data.toList b.data.toList with h | h | ⟨h1, h2, h3⟩
    · exact .inl (by simpa using h)
    · exact .inr (.inl (by simpa using h))
    · exact .inr (.inr ⟨by simpa using h1, by simpa using h2, by simp only [Array.getElem_toList, ne_eq] at h3; exact h3⟩)
  have HLE : Hid (common a.data.toList b.data.toList ≤ a.size ∧ common a.data.toList b.data.toList ≤ b.size) := by
    have := common_le a.data.toList b.data.toList
    show _ ∧ _
    simpa using this
  generalize common a.data.toList b.data.toList = c at *
  unfold maxLen at ha
  go_enter Tryz.func154, Tryz.ntmps154
  go_wp2_with fail
  go_loopw [5] (fun i wr => ∃ k : Nat, k ≤ c ∧ i = .int .i64 k ∧ Keeps (fun _ => False) w wr) (fun i _ => c - (intOf i).toNat)
  case atStart => exact ⟨0, Nat.zero_le _, rfl, Keeps.refl _ _⟩
  case round =>
    obtain ⟨k, hk, rfl, hkr⟩ := hrel
    have HKR := hid hkr
    clear hkr
    by_cases hlt : k < c
    · obtain ⟨h1, h2, h3⟩ := HLT.out k hlt
      have d1 : decide (k < a.size) = true := decide_eq_true (by omega)
      have d2 : decide (k < b.size) = true := decide_eq_true (by omega)
      go_wp2_with fail
      go_quiet (fail)
      go_wp2
      exact ⟨⟨k + 1, by omega, by go_num, HKR.out.drN _⟩, by simp only [intOf]; omega⟩
    · have e : k = c := by omega
      subst e
      rcases HST.out with h | h | ⟨h1, h2, h3⟩
      · have d1 : decide (k < a.size) = false := decide_eq_false (by omega)
        go_wp2_with fail
        go_quiet (fail)
        go_wp2
        go_ret
        exact ⟨rfl, HKR.out.drN _⟩
      · by_cases ha1 : k < a.size
        · have d1 : decide (k < a.size) = true := decide_eq_true (by omega)
          have d2 : decide (k < b.size) = false := decide_eq_false (by omega)
          clear h ha1 HST HLE HLT hlt hk
          go_wp2_with fail
          go_quiet (fail)
          go_wp2
          go_ret
          exact ⟨rfl, HKR.out.drN _⟩
        · have d1 : decide (k < a.size) = false := decide_eq_false (by omega)
          clear h ha1 HST HLE HLT hlt hk
          go_wp2_with fail
          go_quiet (fail)
          go_wp2
          go_ret
          exact ⟨rfl, HKR.out.drN _⟩
      · have d1 : decide (k < a.size) = true := decide_eq_true (by omega)
        have d2 : decide (k < b.size) = true := decide_eq_true (by omega)
        have h4 : ¬ a[k].toNat = b[k].toNat := fun e => h3 (UInt8.toNat_inj.1 e)
        go_wp2_with fail
        go_quiet (fail)
        go_wp2
        go_ret
        exact ⟨rfl, HKR.out.drN _⟩

end Go.Proofs.YtpagenipflmlfaaGreatDoor

/- record. -/

namespace Go.Proofs.YtpagenipflmlfaaGreatDoor

open Go.RowKit Go.Shelf

def RecB.rec_ (r : RecB) : Rec := ⟨r.key.data.toList, r.value.data.toList, r.gone⟩

theorem extract_drop (s : ByteArray) (c : Nat) : s.extract c s.size = ofL (s.data.toList.drop c) := by
  apply ByteArray.ext
  simp only [ByteArray.data_extract, ofL]
  apply Array.ext'
  simp only [Array.toList_extract, List.extract_eq_take_drop]
  exact List.take_of_length_le (by simp)

/-- a number's text, and how long it may be -/
theorem num_text (n : Nat) (h : n < 9223372036854775808) : (ofL (numL n)).size ≤ 9 := by rw [ofL_size]; exact numL_len 8 n (by omega)

set_option maxRecDepth 100000 in
set_option maxHeartbeats 1000000 in
theorem record_gone (key value ahead : ByteArray) (w : World) (hk : key.size ≤ 1000) (ha : ahead.size ≤ 1000) :
    Calls Tryz.prog 134 #[.agg #[.string key, .string value, .bool true], .string ahead] w fun e w' => e = .returned (.string (ofL (recL ahead.data.toList ⟨key.data.toList, value.data.toList, true⟩))) ∧ Keeps (fun _ => False) w w' := by
  have HC := hid (fun W => inCommon_any ahead key W (by unfold maxLen; omega))
  obtain ⟨c, hc⟩ : ∃ c, c = common ahead.data.toList key.data.toList := ⟨_, rfl⟩
  have hcl : c ≤ key.size := by rw [hc]; have := (common_le ahead.data.toList key.data.toList).2; simpa using this
  rw [← hc] at HC
  have HE : Hid (ofL (recL ahead.data.toList ⟨key.data.toList, value.data.toList, true⟩) = ((ofL (numL c) ++ ofL (numL (key.size - c))) ++ ofL (key.data.toList.drop c)) ++ ofL (numL 0)) := by
    show _ = _
    rw [ofL_append, ofL_append, ofL_append]
    unfold recL tailOf
    simp [hc]
  have hx := extract_drop key c
  have hms : (ofL (key.data.toList.drop c)).size = key.size - c := by rw [ofL_size]; simp
  rw [← hms] at HE
  generalize ofL (key.data.toList.drop c) = more at *
  have HN := hid (fun (n : Nat) (h : n < 9223372036854775808) W => number_any n W h)
  have z1 := num_text c (by omega)
  have z2 := num_text more.size (by omega)
  have z3 := num_text 0 (by omega)
  have HC1 := hid (HN.out c (by omega))
  have HC2 := hid (HN.out more.size (by omega))
  have HC3 := hid (HN.out 0 (by omega))
  generalize ofL (numL c) = t1 at *
  generalize ofL (numL more.size) = t2 at *
  generalize ofL (numL 0) = t3 at *
  have hm1 : more.size ≤ 1000 := by omega
  clear hc HN hms
  go_enter Tryz.func134, Tryz.ntmps134
  go_wp2_with fail
  refine (HC.out _).mono ?_
  rintro e w1 ⟨rfl, k1⟩
  obtain ⟨q0, q1, q2, -⟩ := three_cells (box_kept k1 (fun h => h))
  have HK1 := hid k1
  clear k1
  go_wp2_with fail
  refine (HC1.out _).mono ?_
  rintro e w2 ⟨rfl, k2⟩
  have HK2 := hid (HK1.out.tr k2 (fun _ h => h))
  clear k2
  go_wp2_with fail
  refine (HC2.out _).mono ?_
  rintro e w3 ⟨rfl, k3⟩
  have hk3 := HK2.out.tr k3 (fun _ h => h)
  obtain ⟨p0, p1, p2, -⟩ := three_cells (box_kept hk3 (fun h => h))
  have HK3 := hid hk3
  clear k3 hk3 q0 q1 q2
  go_wp2_with fail
  refine (HC3.out _).mono ?_
  rintro e w4 ⟨rfl, k4⟩
  have HK4 := hid (HK3.out.tr k4 (fun _ h => h))
  clear k4
  go_wp2
  go_ret
  exact ⟨by rw [HE.out]; rfl, (((Keeps.refl _ _).al _).tr HK4.out (fun _ h => h))⟩

set_option maxRecDepth 100000 in
set_option maxHeartbeats 1000000 in
theorem record_put (key value ahead : ByteArray) (w : World) (hk : key.size ≤ 1000) (ha : ahead.size ≤ 1000) (hv : value.size ≤ 1000) :
    Calls Tryz.prog 134 #[.agg #[.string key, .string value, .bool false], .string ahead] w fun e w' => e = .returned (.string (ofL (recL ahead.data.toList ⟨key.data.toList, value.data.toList, false⟩))) ∧ Keeps (fun _ => False) w w' := by
  have HC := hid (fun W => inCommon_any ahead key W (by unfold maxLen; omega))
  obtain ⟨c, hc⟩ : ∃ c, c = common ahead.data.toList key.data.toList := ⟨_, rfl⟩
  have hcl : c ≤ key.size := by rw [hc]; have := (common_le ahead.data.toList key.data.toList).2; simpa using this
  rw [← hc] at HC
  have HE : Hid (ofL (recL ahead.data.toList ⟨key.data.toList, value.data.toList, false⟩) = (((ofL (numL c) ++ ofL (numL (key.size - c))) ++ ofL (key.data.toList.drop c)) ++ ofL (numL (1 + value.size))) ++ value) := by
    show _ = _
    conv => rhs; rw [← ofL_self value, ofL_append, ofL_append, ofL_append, ofL_append]
    unfold recL tailOf
    simp [hc, ofL_size]
  have hx := extract_drop key c
  have hms : (ofL (key.data.toList.drop c)).size = key.size - c := by rw [ofL_size]; simp
  rw [← hms] at HE
  generalize ofL (key.data.toList.drop c) = more at *
  have HN := hid (fun (n : Nat) (h : n < 9223372036854775808) W => number_any n W h)
  have z1 := num_text c (by omega)
  have z2 := num_text more.size (by omega)
  have z3 := num_text (1 + value.size) (by omega)
  have HC1 := hid (HN.out c (by omega))
  have HC2 := hid (HN.out more.size (by omega))
  have HC3 := hid (HN.out (1 + value.size) (by omega))
  generalize ofL (numL c) = t1 at *
  generalize ofL (numL more.size) = t2 at *
  generalize ofL (numL (1 + value.size)) = t3 at *
  have hm1 : more.size ≤ 1000 := by omega
  clear hc HN hms
  go_enter Tryz.func134, Tryz.ntmps134
  go_wp2_with fail
  refine (HC.out _).mono ?_
  rintro e w1 ⟨rfl, k1⟩
  obtain ⟨q0, q1, q2, -⟩ := three_cells (box_kept k1 (fun h => h))
  have HK1 := hid k1
  clear k1
  go_wp2_with fail
  refine (HC1.out _).mono ?_
  rintro e w2 ⟨rfl, k2⟩
  have HK2 := hid (HK1.out.tr k2 (fun _ h => h))
  clear k2
  go_wp2_with fail
  refine (HC2.out _).mono ?_
  rintro e w3 ⟨rfl, k3⟩
  have hk3 := HK2.out.tr k3 (fun _ h => h)
  obtain ⟨p0, p1, p2, -⟩ := three_cells (box_kept hk3 (fun h => h))
  have HK3 := hid hk3
  clear k3 hk3 q0 q1 q2
  have hcast : IntKind.i64.wrap (1 + (value.size : Int)) = ((1 + value.size : Nat) : Int) := by rw [IntKind.wrap_i64]; omega
  rw [← hcast] at HC3
  clear hcast
  go_wp2_with fail
  obtain ⟨U, hU⟩ : ∃ U, U = t1 ++ t2 ++ more := ⟨_, rfl⟩
  have hUs : U.size ≤ 1018 := by rw [hU]; simp only [ByteArray.size_append]; omega
  rw [← hU] at HE ⊢
  have hr1 : ∀ W, (Op.stringOp .add U t3).run Tryz.prog W = .ok (.string (U ++ t3)) W := fun W => run_string_add_sum W U t3 (by omega)
  have hr2 : ∀ W, (Op.stringOp .add (U ++ t3) value).run Tryz.prog W = .ok (.string (U ++ t3 ++ value)) W := fun W => run_string_add_sum W _ _ (by simp only [ByteArray.size_append]; omega)
  clear hU
  go_region_held3 (fun W => W.cell? ⟨w.heap.size, 1, none⟩ = some (.string value)) (go_keep) (first | (go_at_call 131; refine (HC3.out _).mono ?_; rintro e w4 ⟨rfl, k4⟩; have hk4 := (HK3.out.dr).tr k4 (fun _ h => h); obtain ⟨r0, r1, r2, -⟩ := three_cells (box_kept hk4 (fun h => h)); have HK4 := hid hk4; clear k4 hk4))
  go_wp2
  go_ret
  exact ⟨by rw [HE.out]; rfl, (((Keeps.refl _ _).al _).tr HK4.out (fun _ h => h))⟩

theorem record_any (r : RecB) (ahead : ByteArray) (w : World) (hk : r.key.size ≤ 1000) (ha : ahead.size ≤ 1000) (hv : r.value.size ≤ 1000) :
    Calls Tryz.prog 134 #[r.val, .string ahead] w fun e w' => e = .returned (.string (ofL (recL ahead.data.toList r.rec_))) ∧ Keeps (fun _ => False) w w' := by
  obtain ⟨key, value, gone⟩ := r
  cases gone with
  | true => exact record_gone key value ahead w hk ha
  | false => exact record_put key value ahead w hk ha hv

end Go.Proofs.YtpagenipflmlfaaGreatDoor

/- A Writer: Head, Tail. -/

namespace Go.Proofs.YtpagenipflmlfaaGreatDoor

open Go.RowKit Go.Shelf

theorem TurnsAt.kept {w w' : World} {S : Nat → Prop} (h : TurnsAt w) (hk : Keeps S w w') (hS : ¬ S 8) : TurnsAt w' := fun i hi => hk.cell (h i hi) hS

theorem kind_text (full : Bool) : (ofL (kindL full)).size = 4 := by cases full <;> rfl

set_option maxRecDepth 100000 in
set_option maxHeartbeats 1000000 in
theorem head_any (wb o : Nat) (cs : Array Value) (t : TypeId) (full : Bool) (a b sum : Nat) (w : World) (hb : w.heap[wb]? = some (.cells cs t (0, 0))) (ho : cs[o]? = some (.int .u32 (sum : Nat))) (hs : sum < 4294967296) (ha : a < 9223372036854775808) (hb' : b < 9223372036854775808) (ht : TurnsAt w) :
    Calls Tryz.prog 98 #[.pointer (some ⟨wb, o, none⟩), .bool full, .int .i64 (a : Nat), .int .i64 (b : Nat)] w fun e w' => e = .returned (.string (ofL (headL full a b))) ∧
      w'.heap[wb]? = some (.cells (cs.setIfInBounds o (.int .u32 (ovL sum (headL full a b) : Nat))) t (0, 0)) ∧ Keeps (· = wb) w w' := by
  have c0 : w.cell? ⟨wb, o, none⟩ = some (.int .u32 (sum : Nat)) := (cell_of_heap hb o).trans ho
  have HBL := hid hb
  have HF : Hid (∀ W, Keeps (fun _ => False) w W → W.heap[wb]? = some (.cells cs t (0, 0))) := fun W hW => (hW.block wb (Array.getElem?_eq_some_iff.1 hb).1 (fun h => h)).trans hb
  have HCO : Hid (∀ W, Keeps (fun _ => False) w W → W.cell? ⟨wb, o, none⟩ = some (.int .u32 (sum : Nat)) ∧ W.frozen? ⟨wb, o, none⟩ = false) := fun W hW => ⟨(cell_of_heap (HF.out W hW) o).trans ho, frozen_of_heap (HF.out W hW) o⟩
  have hk4 := kind_text full
  have z1 := num_text a ha
  have z2 := num_text b hb'
  have HN1 := hid (fun W => number_any a W ha)
  have HN2 := hid (fun W => number_any b W hb')
  have HE : Hid (ofL (headL full a b) = ofL (kindL full) ++ ofL (numL a) ++ ofL (numL b)) := by
    show _ = _
    rw [ofL_append, ofL_append]
    rfl
  have hL : (headL full a b).length ≤ 100 := by
    have := congrArg ByteArray.size HE.out
    rw [ofL_size] at this
    simp only [ByteArray.size_append] at this
    omega
  have HOV := hid (fun W (hW : Keeps (fun _ => False) w W) => checkOver_any sum (ofL (headL full a b)) W hs (by rw [ofL_size]; unfold maxLen; omega) (ht.kept hW (fun h => h)))
  rw [ofL_list] at HOV
  generalize ovL sum (headL full a b) = sm at *
  have HK : Hid (ofL (kindL full) = if full = true then ({ data := #[65, 78, 78, 70] } : ByteArray) else { data := #[65, 78, 78, 68] }) := by show _ = _; cases full <;> rfl
  rw [HE.out] at HOV ⊢
  rw [HK.out] at hk4 HOV ⊢
  generalize ofL (numL a) = t1 at *
  generalize ofL (numL b) = t2 at *
  clear hb ht hs ha hb' hL HK HE ho c0
  cases full with
  | true =>
    simp only [if_true] at hk4 HOV ⊢
    go_enter Tryz.func98, Tryz.ntmps98
    go_wp2_with fail
    refine (HN1.out _).mono ?_
    rintro e w1 ⟨rfl, k1⟩
    have HK1 := hid k1
    clear k1
    go_wp2_with fail
    refine (HN2.out _).mono ?_
    rintro e w2 ⟨rfl, k2⟩
    have HK2 := hid (HK1.out.tr k2 (fun _ h => h))
    obtain ⟨c1, f1⟩ := HCO.out _ HK2.out
    clear k2
    go_wp2_with fail
    refine (HOV.out _ HK2.out).mono ?_
    rintro e w2 ⟨rfl, rfl⟩
    go_wp2
    go_ret
    exact ⟨rfl, heap_setCell_same (HF.out _ HK2.out) _, (HK2.out.mono (T := (· = wb)) (fun _ _ h => h.elim)).tr (Keeps.setCell _ _ _) (fun _ h => h)⟩
  | false =>
    simp only [Bool.false_eq_true, if_false] at hk4 HOV ⊢
    go_enter Tryz.func98, Tryz.ntmps98
    go_wp2_with fail
    refine (HN1.out _).mono ?_
    rintro e w1 ⟨rfl, k1⟩
    have HK1 := hid k1
    clear k1
    go_wp2_with fail
    refine (HN2.out _).mono ?_
    rintro e w2 ⟨rfl, k2⟩
    have HK2 := hid (HK1.out.tr k2 (fun _ h => h))
    obtain ⟨c1, f1⟩ := HCO.out _ HK2.out
    clear k2
    go_wp2_with fail
    refine (HOV.out _ HK2.out).mono ?_
    rintro e w2 ⟨rfl, rfl⟩
    go_wp2
    go_ret
    exact ⟨rfl, heap_setCell_same (HF.out _ HK2.out) _, (HK2.out.mono (T := (· = wb)) (fun _ _ h => h.elim)).tr (Keeps.setCell _ _ _) (fun _ h => h)⟩

end Go.Proofs.YtpagenipflmlfaaGreatDoor
