import Derived.Test.YtkpaiaddikpdoaaGreatDoorM01
import Derived.WalkKit
import Derived.WalkSpells
import Derived.Maps.AppendAt
import Derived.Defers
import Derived.RangeFuncNested
import Derived.RangeFuncBound
import Derived.RangeFuncCalls
import Derived.RangeFuncLeaves
import Derived.RangeFuncWrites
import Derived.Shelf.Abstract
import Derived.Shelf.RegionOpen
import Derived.OwnWalkIn
import Derived.TacticsInMore
import Derived.LoopNIn
import Derived.LoopIn
import Derived.Deep.RegionWith
import Derived.Deep.QuietTactic
import Derived.BigQuiet
import Derived.Deep.RegionHeld3
import Derived.Deep.LoopGhost
import Derived.Stop.RegionWithIn
import Derived.Sort.AtCallIn
import Derived.Deep.DeepCutAuto
import Derived.Deep.CutBlock
import Derived.Lib.FrozenHead2
import Derived.Lib.OthersKept
import Derived.Lib.UnsafeStr
import Derived.Lib.SlicesS
import Derived.Test.YtkpaiaddikpdoaaGreatDoorProg
import Derived.Laws.BitsLemmas

/- Laws of memory and of the calls of the library that the texts behind lean on (made by wip/tools/slice.py out of the texts L0 to RA, for a seat whose program has no store). -/

namespace Go.Proofs.YtkpaiaddikpdoaaGreatDoor

section TW0

open Go.RowKit

theorem ret_bool {a b : Bool} (h : a = b) : Ending.returned (.bool a) = .returned (.bool b) := by rw [h]

theorem ret_int {k : IntKind} {a b : Int} (h : a = b) : Ending.returned (.int k a) = .returned (.int k b) := by rw [h]

/-- is it a key? -/
def keyB (s : ByteArray) : Bool := decide (1 ≤ s.size) && decide (s.size ≤ 10)

/-- is it a value? -/
def valB (s : ByteArray) : Bool := decide (s.size ≤ 40)

theorem isKey_any (s : ByteArray) (w : World) (hs : s.size ≤ maxLen) :
    Calls Tryz.prog 53 #[.string s] w fun e w' => e = .returned (.bool (keyB s)) ∧ w' = w := by
  unfold maxLen at hs
  go_enter Tryz.func53, Tryz.ntmps53
  go_wp2
  all_goals go_ret
  · refine ⟨ret_bool ?_, rfl⟩
    unfold keyB
    rw [Bool.eq_iff_iff]
    simp
    omega
  · refine ⟨ret_bool ?_, rfl⟩
    unfold keyB
    rw [Bool.eq_iff_iff]
    simp
    omega

theorem isValue_any (s : ByteArray) (w : World) (hs : s.size ≤ maxLen) :
    Calls Tryz.prog 54 #[.string s] w fun e w' => e = .returned (.bool (valB s)) ∧ w' = w := by
  unfold maxLen at hs
  go_enter Tryz.func54, Tryz.ntmps54
  go_wp2
  all_goals go_ret
  refine ⟨ret_bool ?_, rfl⟩
  unfold valB
  rw [Bool.eq_iff_iff]
  simp
  omega

end TW0

section TS2

open Go.RowKit

/-- .. written out -/
theorem Row.shape {w : World} {e : TypeId} {size : Nat} {v : Value} {n : Nat} {xs : List Value} (h : Row w e size v n xs) : (v = .slice none 0 0 ∧ n = 0) ∨ ∃ g cap, v = .slice (some ⟨g, 0, none⟩) n cap ∧ n ≤ cap ∧ cap ≤ maxLen := by
  rcases h.2 with h | ⟨g, cap, cur, hv, _, h1, h2, _⟩
  · exact .inl h
  · exact .inr ⟨g, cap, hv, h1, h2⟩

end TS2

section TSA

open Go.RowKit

/-- keys in rising order of their bytes -/
def ltK (a b : ByteArray) : Bool := Op.bytesLess a.toList b.toList

theorem bytesLess_is : ∀ (x y : List UInt8), Op.bytesLess x y = decide (x < y)
  | [], [] => by simp [Op.bytesLess]
  | _ :: _, [] => by simp [Op.bytesLess]
  | [], _ :: _ => by simp [Op.bytesLess]
  | a :: x, b :: y => by
    rw [Op.bytesLess, bytesLess_is x y]
    simp only [List.cons_lt_cons_iff]
    by_cases h1 : a < b <;> by_cases h2 : a = b <;> by_cases h3 : x < y <;> simp [h1, h2, h3]

theorem ltK_iff (a b : ByteArray) : ltK a b = true ↔ a.data.toList < b.data.toList := by
  unfold ltK
  rw [bytesLess_is, ByteArray.toList_eq, ByteArray.toList_eq]
  simp

theorem data_inj {a b : ByteArray} (h : a.data.toList = b.data.toList) : a = b := by
  apply ByteArray.ext
  exact Array.toList_inj.1 h

theorem ltK_irrefl (a : ByteArray) : ltK a a = false := by
  rw [Bool.eq_false_iff]
  intro h
  rw [ltK_iff] at h
  exact List.lt_irrefl _ h

theorem ltK_trans {a b c : ByteArray} (h1 : ltK a b = true) (h2 : ltK b c = true) : ltK a c = true := by
  rw [ltK_iff] at *
  exact List.lt_trans h1 h2

theorem ltK_total {a b : ByteArray} (h1 : ltK a b = false) (h2 : ltK b a = false) : a = b := by
  rw [Bool.eq_false_iff] at h1 h2
  rw [Ne, ltK_iff] at h1 h2
  exact data_inj (List.le_antisymm (List.not_lt.1 h2) (List.not_lt.1 h1))

end TSA

section TSE

open Go.RowKit

/-- append onto a slice at the head of its block, as one step of a region that draws. -/
theorem step_append_row {P : Program} (w : World) {ops : Array Oper} {o : Oper} {a : Act} {K : Act → World → Prop} {Q : Exit → Act → World → Prop} {E : Prop} (hgd : o.guard = none) (s x : Operand) (t : TypeId)
    (ho : o.op = .call { callee := .builtin .append, args := #[s, x], argTypes := #[t, t] })
    (e : TypeId) (i : TypeInfo) (z : Value) (size bytes : Nat) (ht : P.underlying t = some (.slice e)) (hi : P.info? e = some i) (hz : i.zero = some z)
    (hsize : i.size = size) (hby : i.bytes = bytes) (hzs : z.cells.size = size)
    (v : Value) (n : Nat) (xs : List Value) (hs : a.eval s = v) (hown : Row w e size v n xs)
    (ad : Addr) (m c : Nat) (news : List Value) (hx : a.eval x = .slice (some ad) m c) (hl : news.length = m * size) (hnews : ∀ j u, news[j]? = some u → w.cell? (ad.add j) = some u) (h1 : ∀ u ∈ news, u.oneCell' = true)
    (h63 : n + m ≤ maxLen) (hbytes : (n + m) * bytes ≤ 140737488355328)
    (h : ∀ v' w', Row w' e size v' (n + m) (xs ++ news) → w.grownBy w' v.ownBlock → (v' = .slice none 0 0 ↔ v = .slice none 0 0 ∧ m = 0) → (v'.ownBlock = v.ownBlock ∨ v'.ownBlock = some w.heap.size) → K (a.put o.dst v') w') :
    if Region.wanted o (yielded ops a.tmps) = true then Oper.wp P o a w K Q else E := by
  have hw : Region.wanted o (yielded ops a.tmps) = true := by simp [Region.wanted, hgd]
  rw [if_pos hw]
  obtain ⟨v', w', hr, h2, h3, h4, h5⟩ := run_append_row (P := P) w t o.type e i z size bytes ht hi hz hsize hby hzs v n xs hown ad m c news hl hnews h1 h63 hbytes
  unfold Oper.wp execOp
  simp only [ho, resolve, invoke, builtin, Sem.run_bind, Sem.run_pure, Result.andThen_ok, List.map_toArray, List.map_cons, List.map_nil, hs, hx, hr]
  exact h v' w' h2 h3 h4 h5

end TSE

section TSJ

open Go.RowKit

theorem Row.form {w : World} {e : TypeId} {size : Nat} {v : Value} {n : Nat} {xs : List Value} (h : Row w e size v n xs) : ∃ a cap, v = .slice a n cap ∧ n ≤ maxLen ∧ (0 < n → ∃ g, a = some ⟨g, 0, none⟩) := by
  rcases h.2 with ⟨rfl, rfl⟩ | ⟨g, cap, cur, rfl, _, h1, h2, _⟩
  · exact ⟨none, 0, rfl, by unfold maxLen; omega, fun h => by omega⟩
  · exact ⟨_, cap, rfl, by omega, fun _ => ⟨g, rfl⟩⟩

end TSJ

section TU1

open Go.RowKit Go.Shelf

section

variable {F : Fence} {n : Nat} {P : Program}

/-- The iterator calls yield for each of xs with S xs, in order, if every round goes on; it may write as C allows, a round keeps Kp. -/
def SeqAll {α : Type} (F : Fence) (n : Nat) (P : Program) (g : Nat) (lb : Array Value) (encs : α → Array Value) (C Kp : World → World → Prop) (S : List α → Prop) (N : Nat) (w : World) : Prop :=
  ∀ (l : Nat) (J : List α → World → Prop) (W : World), Keeps (fun _ => False) w W → (∀ pre A B, C A B → J pre A → J pre B) →
    (∀ pre x W1, J pre W1 → pre.length < N → YieldAt F (n - 1) P l (encs x) W1 fun e W' => e = .returned (.bool true) ∧ J (pre ++ [x]) W' ∧ Kp W1 W') →
    J [] W → CallsIn F n P g (#[.func (.yield l) #[] #[]] ++ lb) W fun e W' => (∃ v, e = .returned v) ∧ ∃ xs, S xs ∧ J xs W'

/-- what a round leaves that goes on -/
def goesOn {α : Type} (B : Nat) (Kp : World → World → Prop) (I : List α → World → Prop) (xs : List α) (W : World) : Exit → Act → World → Prop
  | .normal, _, W' => KeepsFrom B W W' ∧ Kp W W' ∧ I xs W'
  | _, _, _ => False

theorem wpIn_range_all {α : Type} {g : Operand} {ps : Array Tmp} {assign body : Code} {Q : Exit → Act → World → Prop} {a : Act} {w : World} (hro : F.round = none) (h1 : 1 ≤ n) {gf : Nat} {lb : Array Value}
    (hg : a.eval g = .func (.func gf) #[] lb) (hFg : F.fn gf) (eg : ∀ args w, (callFunc gf args).run P w = .ok (.enter gf args) w) {encs : α → Array Value} {C Kp : World → World → Prop} {S : List α → Prop} {N : Nat}
    (hseq : SeqAll F (n - 1) P gf lb encs C Kp S N w) (hCs : ∀ A B k, C A B → w.heap.size ≤ k → (∃ o, A.heap[k]? = some o ∧ o.isCells = false) → B.heap[k]? = A.heap[k]?)
    (hKt : ∀ {A B D : World}, Kp A B → Kp B D → Kp A D) (hKb : ∀ (W : World) (l : Nat) (o' : Obj), w.heap.size ≤ l → Kp W (W.putObj l o')) (hps : ∀ x, (encs x).size = ps.size)
    (I : List α → World → Prop) (hI : OwnFrom w.heap.size I) (hIC : ∀ pre A B, C A B → I pre A → I pre B) (h0 : I [] w) (a₁ : α → Act)
    (hassign : ∀ (l : Nat) (x : α) (W : World) (K : Act → World → Prop), K (a₁ x) W → assign.wpIn (F.inRound l) (n - 1 - 1) P (Exit.then K (fun _ _ _ => False)) { tmps := (ps.zip (encs x)).foldl (fun t (p, v) => t.setIfInBounds p v) a.tmps, defers := [] } W)
    (hbody : ∀ (l : Nat) (pre : List α) (x : α) (W : World), I pre W → pre.length < N → body.wpIn (F.inRound l) (n - 1 - 1) P (goesOn w.heap.size Kp I (pre ++ [x]) W) (a₁ x) W)
    (hdone : ∀ (D : Nat) (xs : List α) (W : World), w.heap.size ≤ D → S xs → I xs W → W.heap[D]? = some (.deferred (some [])) → Q .normal { a with defers := { target := .collected D, args := #[] } :: a.defers } W) :
    (Code.rangeFunc g ps assign body).wpIn F n P Q a w := by
  refine wpIn_rangeFunc ?_
  intro fn hfn
  rw [hro]
  obtain ⟨rec, hrec⟩ : ∃ rec : LoopState → Option Code → Loop, rec = fun st pe => { state := st, pending := pe, fn, tmps := a.tmps, params := ps, assign, body, defers := w.heap.size } := ⟨_, rfl⟩
  obtain ⟨W1, hW1⟩ : ∃ W1, (w.alloc (.deferred (some []))).alloc (.loop (rec .ready none)) = W1 := ⟨_, rfl⟩
  have hkw : Keeps (fun _ => False) w W1 := by rw [← hW1]; exact ((Keeps.refl _ w).al _).al _
  have hL1 : W1.heap[w.heap.size + 1]? = some (.loop (rec .ready none)) := by
    rw [← hW1]; have := heap_new (w.alloc (.deferred (some []))) (.loop (rec .ready none)); rwa [World.size_alloc] at this
  have hD1 : W1.heap[w.heap.size]? = some (.deferred (some [])) := by
    rw [← hW1]; exact (Below.heap_alloc _ _ _ (by simp)).trans (heap_new w _)
  have hI1 : I [] W1 := by rw [← hW1]; exact hI.alloc _ (hI.alloc _ h0)
  refine ⟨w.heap.size + 1, [{ target := .collected w.heap.size, args := #[] }], W1, { target := .fn (.func gf) lb, args := #[.func (.yield (w.heap.size + 1)) #[] #[]] }, W1, gf,
    #[.func (.yield (w.heap.size + 1)) #[] #[]] ++ lb, W1, ?_, ?_, ?_, ?_, fun _ => h1, ?_⟩
  · rw [← hW1, hrec]; exact run_enterLoop_outer _ _ _ _ _
  · simp only [resolve, hg]
    simp [go_sem]
  · intro f' hf'; simp [Target.leads] at hf'; subst hf'; exact hFg
  · simp [invoke, go_sem, eg]
  · refine (hseq (w.heap.size + 1) (fun pre W => I pre W ∧ W.heap[w.heap.size + 1]? = some (.loop (rec .ready none)) ∧ W.heap[w.heap.size]? = some (.deferred (some []))) W1 hkw
      (fun pre A B hC hJ => ⟨hIC pre A B hC hJ.1, (hCs A B _ hC (by omega) ⟨_, hJ.2.1, rfl⟩).trans hJ.2.1, (hCs A B _ hC (Nat.le_refl _) ⟨_, hJ.2.2, rfl⟩).trans hJ.2.2⟩) ?_ ⟨hI1, hL1, hD1⟩).mono ?_
    · rintro pre x W ⟨hi, hl, hk⟩ hlen
      have hlt : w.heap.size + 1 < W.heap.size := (Array.getElem?_eq_some_iff.1 hl).1
      have hy := run_yield (P := P) (args := encs x) hl (by rw [hrec]; exact hps x)
      rw [hrec] at hy
      refine ⟨fn, _, assign, body, hy, roundIn_of_wpIn hfn (hassign _ x W _ ⟨_, run_beginRound hl (by rw [hrec]), ?_⟩)⟩
      have hl2 : (W.putObj (w.heap.size + 1) (.loop { rec .ready none with state := .busy })).heap[w.heap.size + 1]? = some (.loop { rec .ready none with state := .busy }) := World.putObj_heap_same hlt
      have hk2 : (W.putObj (w.heap.size + 1) (.loop { rec .ready none with state := .busy })).heap[w.heap.size]? = some (.deferred (some [])) := (World.putObj_heap_other (by omega)).trans hk
      refine wpIn_mono (hbody _ pre x _ (hI.putObj _ hi (by omega) hl rfl) hlen) ?_
      rintro e a3 W3 hp
      cases e with
      | normal =>
        obtain ⟨hk3, hkp3, hi3⟩ := hp
        have hl3 := hk3.same _ _ (by omega) hl2 rfl
        have hr := run_endRound (P := P) none hl3
        have hl3' : W3.heap[w.heap.size + 1]? = some (.loop { rec .ready none with state := .busy }) := hl3
        rw [hrec] at hr
        refine ⟨_, _, hr, rfl, ⟨hI.putObj _ hi3 (by omega) hl3' rfl, ?_, ?_⟩, hKt (hKt (hKb _ _ _ (by omega)) hkp3) (hKb _ _ _ (by omega))⟩
        · rw [hrec]; exact World.putObj_heap_same (Array.getElem?_eq_some_iff.1 hl3).1
        · exact (World.putObj_heap_other (by omega)).trans (hk3.same _ _ (Nat.le_refl _) hk2 rfl)
      | ret => exact hp.elim
      | exit id => exact hp.elim
      | goto t => exact hp.elim
      | panic ch => exact hp.elim
      | outgrown => exact hp.elim
    · rintro e W2 ⟨⟨v, rfl⟩, xs, hS, hi, hl, hk⟩
      exact ⟨none, _, by have := run_endLoop (P := P) hl (by rw [hrec]; simp); rw [hrec] at this; exact this, hdone _ xs _ (Nat.le_refl _) hS (hI.putObj _ hi (by omega) hl rfl) ((World.putObj_heap_other (by omega)).trans hk)⟩

end

end TU1

section TU3

open Go.RowKit Go.Shelf

attribute [local go_sem] Oper.semAt_some

/-- what a round keeps for the iterator -/
def KpM (G : List Nat) (A B : World) : Prop := A.heap.size ≤ B.heap.size ∧ ∀ k ∈ G, B.heap[k]? = A.heap[k]?

end TU3

section TU5

open Go.RowKit Go.Shelf

attribute [local go_sem] Oper.semAt_some

theorem Row.cellsAt {w : World} {e : TypeId} {size n : Nat} {v : Value} {xs : List Value} (h : Row w e size v n xs) {g : Nat} (hg : v.ownBlock = some g) : ∃ cur, w.heap[g]? = some (.cells cur e (0, 0)) := by
  rcases h.2 with ⟨rfl, _⟩ | ⟨g', cap, cur, rfl, hh, _⟩
  · simp [Value.ownBlock] at hg
  · simp [Value.ownBlock] at hg
    subst hg
    exact ⟨cur, hh⟩

end TU5

section TR0

open Go.RowKit Go.Shelf

theorem news_arr (w : World) (arr : Array Value) (t : TypeId) : ∀ j u, arr.toList[j]? = some u → (w.alloc (.cells arr t)).cell? ((⟨w.heap.size, 0, none⟩ : Addr).add j) = some u := by
  intro j u hj
  rw [Addr.add_lit, Nat.zero_add, cell_of_heap (heap_new w (.cells arr t)) j]
  simpa using hj

/-- A list that a function makes: v holds l in W, its block is new since w. -/
structure Made {α : Type} (e : TypeId) (size : Nat) (f : α → List Value) (w W : World) (v : Value) (l : List α) : Prop where
  row : Row W e size v l.length (l.flatMap f)
  own : ∀ g, v.ownBlock = some g → w.heap.size ≤ g
  keep : Keeps (fun _ => False) w W

theorem Made.nil {α : Type} {e : TypeId} {size : Nat} {f : α → List Value} {w W : World} (hk : Keeps (fun _ => False) w W) : Made e size f w W (.slice none 0 0) ([] : List α) :=
  ⟨Row.nil _ _ _, fun g hg => by simp [Value.ownBlock] at hg, hk⟩

theorem Made.kept {α : Type} {e : TypeId} {size : Nat} {f : α → List Value} {w W W' : World} {v : Value} {l : List α} (h : Made e size f w W v l) (hk : Keeps (fun _ => False) W W') : Made e size f w W' v l :=
  ⟨h.row.kept hk (fun _ _ h => h), h.own, h.keep.tr hk (fun _ h => h)⟩

/-- append of one -/
theorem Made.push {α : Type} {e : TypeId} {size : Nat} {f : α → List Value} {w W W1 w' : World} {v v' : Value} {l : List α} {a : α} (h : Made e size f w W v l) (hW : Keeps (fun _ => False) W W1) (hr : Row w' e size v' (l.length + 1) (l.flatMap f ++ f a)) (hg : W1.grownBy w' v.ownBlock)
    (ho : v'.ownBlock = v.ownBlock ∨ v'.ownBlock = some W1.heap.size) : Made e size f w w' v' (l ++ [a]) := by
  have hz := h.keep.size
  have hz1 := hW.size
  refine ⟨by simpa using hr, fun g hgv => ?_, (h.keep.tr hW (fun _ h => h)).trans (Keeps.grown hg) (fun k hk e => ?_)⟩
  · rcases ho with e1 | e1
    · exact h.own g (by rw [← e1]; exact hgv)
    · rw [hgv] at e1
      simp at e1
      omega
  · have := h.own k e.symm
    omega

/-- a record -/
structure RecB where
  key : ByteArray
  value : ByteArray
  gone : Bool

def RecB.cells (r : RecB) : List Value := [.string r.key, .string r.value, .bool r.gone]

def RecB.val (r : RecB) : Value := .agg #[.string r.key, .string r.value, .bool r.gone]

theorem Tryz.infoRec : (Tryz.prog.info? 31).map (fun i => (i.zero, i.size, i.bytes)) = some (some (.agg #[.string ⟨#[]⟩, .string ⟨#[]⟩, .bool false]), 3, 40) := by kernel_rfl

theorem RecB.len (r : RecB) : r.cells.length = 3 := rfl

def RecB.zero : RecB := ⟨ByteArray.empty, ByteArray.empty, false⟩

theorem gtr_str (x y : ByteArray) : (!ltK x y && !(x.toList == y.toList)) = ltK y x := by
  cases h1 : ltK x y with
  | true =>
    have h2 : ltK y x = false := by
      cases h3 : ltK y x with
      | false => rfl
      | true => have := ltK_trans h1 h3; rw [ltK_irrefl] at this; cases this
    simp [h2]
  | false =>
    cases h3 : ltK y x with
    | true =>
      have hne := (Lib.bytes_beq_false_iff x y).2 (fun e => by rw [e, ltK_irrefl] at h3; cases h3)
      simp [hne]
    | false =>
      have e := ltK_total h1 h3
      subst e
      simp

/-- the same slice, its length written otherwise -/
theorem Made.slice {α : Type} {e : TypeId} {size : Nat} {f : α → List Value} {w W : World} {v v' : Value} {l : List α} (h : Made e size f w W v l) (hv : v = v') : Made e size f w W v' l := hv ▸ h

end TR0

section TR1

open Go.RowKit Go.Shelf

/-- block k holds elements of type e -/
def TypeIs (w : World) (k : Nat) (e : TypeId) : Prop := ∃ cur, w.heap[k]? = some (.cells cur e (0, 0))

theorem TypeIs.lt {w : World} {k : Nat} {e : TypeId} (h : TypeIs w k e) : k < w.heap.size := by
  obtain ⟨cur, h⟩ := h
  exact (Array.getElem?_eq_some_iff.1 h).1

theorem TypeIs.kept {w w' : World} {k : Nat} {e : TypeId} {S : Nat → Prop} (h : TypeIs w k e) (hk : Keeps S w w') (hS : ¬ S k) : TypeIs w' k e := by
  obtain ⟨cur, h⟩ := h
  exact ⟨cur, (hk.block k (Array.getElem?_eq_some_iff.1 h).1 hS).trans h⟩

theorem TypeIs.ne {w : World} {k : Nat} {e e' : TypeId} (h : TypeIs w k e) (hne : e ≠ e') : ¬ TypeIs w k e' := by
  rintro ⟨cur', h'⟩
  obtain ⟨cur, h⟩ := h
  rw [h] at h'
  simp only [Option.some.injEq, Obj.cells.injEq] at h'
  exact hne h'.2.1

theorem Row.typeIs {w : World} {e : TypeId} {size n : Nat} {v : Value} {xs : List Value} (h : Row w e size v n xs) {g : Nat} (hg : v.ownBlock = some g) : TypeIs w g e := h.cellsAt hg

end TR1

section TRA

open Go.RowKit Go.Shelf

theorem Keeps.drN {S : Nat → Prop} {a w : World} (h : Keeps S a w) (q : Nat) : Keeps S a (w.drewN q) := h.tr (T := fun _ => False) ⟨rfl, rfl, rfl, Nat.le_refl _, fun _ _ _ => rfl⟩ (fun _ h => h.elim)

end TRA

end Go.Proofs.YtkpaiaddikpdoaaGreatDoor

/- Numbers as they stand in a text, and the check: pure. -/

namespace Go.Proofs.YtkpaiaddikpdoaaGreatDoor

/-- a number's bytes -/
def numF : Nat → Nat → List UInt8
  | 0, n => [UInt8.ofNat n]
  | f + 1, n => if n < 128 then [UInt8.ofNat n] else UInt8.ofNat (n % 128 + 128) :: numF f (n / 128)

def numL (n : Nat) : List UInt8 := numF n n

theorem numF_same : ∀ (f g n : Nat), n ≤ f → n ≤ g → numF f n = numF g n
  | 0, 0, _, _, _ => rfl
  | 0, g + 1, n, hf, _ => by rw [numF, numF, if_pos (by omega)]
  | f + 1, 0, n, _, hg => by rw [numF, numF, if_pos (by omega)]
  | f + 1, g + 1, n, hf, hg => by
    rw [numF, numF]
    split
    · rfl
    · rw [numF_same f g (n / 128) (by omega) (by omega)]

theorem numL_small {n : Nat} (h : n < 128) : numL n = [UInt8.ofNat n] := by
  unfold numL
  cases n with
  | zero => rfl
  | succ m => rw [numF, if_pos h]

theorem numL_great {n : Nat} (h : ¬ n < 128) : numL n = UInt8.ofNat (n % 128 + 128) :: numL (n / 128) := by
  unfold numL
  cases n with
  | zero => omega
  | succ m => rw [numF, if_neg h, numF_same m ((m + 1) / 128) _ (by omega) (Nat.le_refl _)]

/-- reads a number: how many digits there may still be, the place of the next one, what has been read; gives the number and its length -/
def numFrom : Nat → Nat → Nat → List UInt8 → Option (Nat × Nat)
  | 0, _, _, _ => none
  | _ + 1, _, _, [] => none
  | f + 1, i, n, d :: r =>
    if d.toNat < 128 then (if d.toNat = 0 ∧ 0 < i then none else some (n + d.toNat * 128 ^ i, i + 1))
    else numFrom f (i + 1) (n + (d.toNat - 128) * 128 ^ i) r

def numAt (l : List UInt8) : Option (Nat × Nat) := numFrom 5 0 0 l

theorem toNat_ofNat {n : Nat} (h : n < 256) : (UInt8.ofNat n).toNat = n := by simp [Nat.mod_eq_of_lt h]

theorem numFrom_num : ∀ (f i n m : Nat) (r : List UInt8), m < 128 ^ f → (m ≠ 0 ∨ i = 0) → 0 < f → numFrom f i n (numL m ++ r) = some (n + m * 128 ^ i, i + (numL m).length)
  | 0, _, _, _, _, _, _, h => by omega
  | f + 1, i, n, m, r, hm, h0, _ => by
    by_cases h : m < 128
    · rw [numL_small h]
      simp only [List.cons_append, List.nil_append, numFrom, List.length_cons, List.length_nil]
      rw [toNat_ofNat (by omega), if_pos h, if_neg (by omega)]
    · rw [numL_great h]
      simp only [List.cons_append, numFrom, List.length_cons]
      rw [toNat_ofNat (by omega), if_neg (by omega)]
      have hp : 128 ^ (f + 1) = 128 ^ f * 128 := Nat.pow_succ ..
      have hd : m / 128 < 128 ^ f := by rw [Nat.div_lt_iff_lt_mul (by omega)]; omega
      have hf : 0 < f := by
        rcases f with _ | f
        · simp at hd; omega
        · omega
      rw [numFrom_num f (i + 1) _ (m / 128) r hd (.inl (by omega)) hf]
      have e : n + (m % 128 + 128 - 128) * 128 ^ i + m / 128 * 128 ^ (i + 1) = n + m * 128 ^ i := by
        have h1 : 128 ^ (i + 1) = 128 * 128 ^ i := by rw [Nat.pow_succ, Nat.mul_comm]
        have h2 : m = m % 128 + 128 * (m / 128) := (Nat.mod_add_div m 128).symm
        rw [h1, ← Nat.mul_assoc, Nat.add_sub_cancel, Nat.add_assoc, ← Nat.add_mul]
        congr 2
        omega
      rw [e]
      congr 2
      omega

theorem numAt_num {m : Nat} (h : m < 34359738368) (r : List UInt8) : numAt (numL m ++ r) = some (m, (numL m).length) := by
  have := numFrom_num 5 0 0 m r (by simpa using h) (.inr rfl) (by omega)
  simpa [numAt] using this

theorem numL_pos (m : Nat) : 0 < (numL m).length := by
  by_cases h : m < 128
  · simp [numL_small h]
  · simp [numL_great h]

/-- what comes of reading: a number of at most 35 bits, of one to five bytes that are there -/
theorem numFrom_some : ∀ (f i n : Nat) (l : List UInt8) (x : Nat × Nat), n < 128 ^ i → numFrom f i n l = some x → x.1 < 128 ^ (i + f) ∧ i < x.2 ∧ x.2 ≤ i + f ∧ x.2 - i ≤ l.length
  | 0, _, _, _, _, _, h => by simp [numFrom] at h
  | f + 1, i, n, [], _, _, h => by simp [numFrom] at h
  | f + 1, i, n, d :: r, x, hn, h => by
    have hd := d.toNat_lt
    have h1 : 128 ^ (i + 1) = 128 * 128 ^ i := by rw [Nat.pow_succ, Nat.mul_comm]
    have hmono : 128 ^ (i + 1) ≤ 128 ^ (i + (f + 1)) := Nat.pow_le_pow_right (by omega) (by omega)
    simp only [numFrom] at h
    split at h
    · rename_i h2
      split at h
      · simp at h
      · simp only [Option.some.injEq] at h
        subst h
        have : n + d.toNat * 128 ^ i < 128 ^ (i + 1) := by
          rw [h1]
          have : d.toNat * 128 ^ i ≤ 127 * 128 ^ i := Nat.mul_le_mul_right _ (by omega)
          omega
        simp only [List.length_cons]
        exact ⟨by omega, by omega, by omega, by omega⟩
    · rename_i h2
      have hb : n + (d.toNat - 128) * 128 ^ i < 128 ^ (i + 1) := by
        rw [h1]
        have : (d.toNat - 128) * 128 ^ i ≤ 127 * 128 ^ i := Nat.mul_le_mul_right _ (by omega)
        omega
      have := numFrom_some f (i + 1) _ r x hb h
      have e : i + 1 + f = i + (f + 1) := by omega
      rw [e] at this
      simp only [List.length_cons]
      omega

theorem numAt_some {l : List UInt8} {x : Nat × Nat} (h : numAt l = some x) : x.1 < 34359738368 ∧ 0 < x.2 ∧ x.2 ≤ 5 ∧ x.2 ≤ l.length := by
  have := numFrom_some 5 0 0 l x (by simp) h
  simpa using this

/-- the check's table -/
def turnsL : List Nat := [0x00000000, 0x1db71064, 0x3b6e20c8, 0x26d930ac, 0x76dc4190, 0x6b6b51f4, 0x4db26158, 0x5005713c, 0xedb88320, 0xf00f9344, 0xd6d6a3e8, 0xcb61b38c, 0x9b64c2b0, 0x86d3d2d4, 0xa00ae278, 0xbdbdf21c]

def turnAt (i : Nat) : Nat := turnsL.getD i 0

def crc4 (c : Nat) : Nat := (c / 16) ^^^ turnAt (c % 16)

def crcB (c b : Nat) : Nat := crc4 (crc4 (c ^^^ b))

def crcL (c : Nat) (l : List UInt8) : Nat := l.foldl (fun c b => crcB c b.toNat) c

/-- the check of bytes behind those whose check is c -/
def ovL (c : Nat) (l : List UInt8) : Nat := 4294967295 - crcL (4294967295 - c) l

/-- a check's bytes -/
def sumL (c : Nat) : List UInt8 := [UInt8.ofNat (c / 16777216), UInt8.ofNat (c / 65536 % 256), UInt8.ofNat (c / 256 % 256), UInt8.ofNat (c % 256)]

def checkL (l : List UInt8) : List UInt8 := sumL (ovL 0 l)

theorem turn_lt : ∀ i, turnAt i < 4294967296 := by
  intro i
  by_cases h : i < 16
  · have : ∀ j : Fin 16, turnAt j.val < 4294967296 := by decide
    exact this ⟨i, h⟩
  · have h2 : turnsL.length ≤ i := by simp [turnsL]; omega
    simp [turnAt, List.getD_eq_getElem?_getD, List.getElem?_eq_none h2]

theorem turn_top : ∀ i j : Fin 16, turnAt i.val / 268435456 = turnAt j.val / 268435456 → i = j := by decide

theorem xor_lt32 {a b : Nat} (ha : a < 4294967296) (hb : b < 4294967296) : a ^^^ b < 4294967296 := Nat.xor_lt_two_pow (n := 32) ha hb

theorem crc4_lt {c : Nat} (h : c < 4294967296) : crc4 c < 4294967296 := xor_lt32 (by omega) (turn_lt _)

theorem crcB_lt {c b : Nat} (h : c < 4294967296) (hb : b < 256) : crcB c b < 4294967296 := crc4_lt (crc4_lt (xor_lt32 h (by omega)))

theorem xor_cancel {a b c : Nat} (h : a ^^^ c = b ^^^ c) : a = b := by
  have := congrArg (· ^^^ c) h
  simpa [Nat.xor_assoc] using this

theorem xor_cancel' {a b c : Nat} (h : c ^^^ a = c ^^^ b) : a = b := xor_cancel (c := c) (by rw [Nat.xor_comm a, Nat.xor_comm b]; exact h)

theorem crc4_inj {c d : Nat} (hc : c < 4294967296) (hd : d < 4294967296) (h : crc4 c = crc4 d) : c = d := by
  have key : ∀ x : Nat, x < 4294967296 → crc4 x / 268435456 = turnAt (x % 16) / 268435456 := by
    intro x hx
    have e : ∀ n : Nat, n / 268435456 = n >>> 28 := fun n => by rw [Nat.shiftRight_eq_div_pow]
    rw [e, e, crc4, Nat.shiftRight_xor_distrib]
    have h0 : (x / 16) >>> 28 = 0 := by rw [← e]; omega
    rw [h0, Nat.zero_xor]
  have h1 := key c hc
  have h2 := key d hd
  rw [h] at h1
  have h3 := turn_top ⟨c % 16, by omega⟩ ⟨d % 16, by omega⟩ (h1.symm.trans h2)
  have h4 : c % 16 = d % 16 := by simpa using h3
  unfold crc4 at h
  rw [h4] at h
  have h5 := xor_cancel h
  omega

theorem crcB_injC {c d b : Nat} (hc : c < 4294967296) (hd : d < 4294967296) (hb : b < 256) (h : crcB c b = crcB d b) : c = d := by
  have h1 := crc4_inj (crc4_lt (xor_lt32 hc (by omega))) (crc4_lt (xor_lt32 hd (by omega))) h
  exact xor_cancel (crc4_inj (xor_lt32 hc (by omega)) (xor_lt32 hd (by omega)) h1)

theorem crcB_injB {c b d : Nat} (hc : c < 4294967296) (hb : b < 256) (hd : d < 256) (h : crcB c b = crcB c d) : b = d := by
  have h1 := crc4_inj (crc4_lt (xor_lt32 hc (by omega))) (crc4_lt (xor_lt32 hc (by omega))) h
  exact xor_cancel' (crc4_inj (xor_lt32 hc (by omega)) (xor_lt32 hc (by omega)) h1)

theorem crcL_lt : ∀ (l : List UInt8) {c : Nat}, c < 4294967296 → crcL c l < 4294967296
  | [], _, h => h
  | b :: r, c, h => crcL_lt r (c := crcB c b.toNat) (crcB_lt h (by have := b.toNat_lt; omega))

theorem crcL_append (c : Nat) (a b : List UInt8) : crcL c (a ++ b) = crcL (crcL c a) b := by simp [crcL, List.foldl_append]

theorem crcL_inj : ∀ (l : List UInt8) {c d : Nat}, c < 4294967296 → d < 4294967296 → crcL c l = crcL d l → c = d
  | [], _, _, _, _, h => h
  | b :: r, c, d, hc, hd, h => crcB_injC hc hd (by have := b.toNat_lt; omega) (crcL_inj r (c := crcB c b.toNat) (d := crcB d b.toNat) (crcB_lt hc (by have := b.toNat_lt; omega)) (crcB_lt hd (by have := b.toNat_lt; omega)) h)

theorem ovL_lt (c : Nat) (l : List UInt8) : ovL c l < 4294967296 := by unfold ovL; omega

theorem ovL_nil {c : Nat} (h : c < 4294967296) : ovL c [] = c := by unfold ovL crcL; simp; omega

theorem ovL_append {c : Nat} (a b : List UInt8) : ovL c (a ++ b) = ovL (ovL c a) b := by
  unfold ovL
  rw [crcL_append]
  have := crcL_lt a (c := 4294967295 - c) (by omega)
  congr 2
  omega

/-- One byte turned turns the check. -/
theorem over_turned {a r : List UInt8} {b d : UInt8} (h : b ≠ d) : ovL 0 (a ++ b :: r) ≠ ovL 0 (a ++ d :: r) := by
  intro e
  unfold ovL at e
  have h1 := crcL_lt (a ++ b :: r) (c := 4294967295 - 0) (by omega)
  have h2 := crcL_lt (a ++ d :: r) (c := 4294967295 - 0) (by omega)
  have e2 : crcL (4294967295 - 0) (a ++ b :: r) = crcL (4294967295 - 0) (a ++ d :: r) := by omega
  rw [crcL_append, crcL_append] at e2
  have hb := b.toNat_lt
  have hd := d.toNat_lt
  have ha := crcL_lt a (c := 4294967295 - 0) (by omega)
  have e3 := crcL_inj r (c := crcB (crcL (4294967295 - 0) a) b.toNat) (d := crcB (crcL (4294967295 - 0) a) d.toNat) (crcB_lt ha (by omega)) (crcB_lt ha (by omega)) e2
  have e4 := crcB_injB ha (by omega) (by omega) e3
  exact h (UInt8.toNat_inj.1 e4)

theorem sumL_inj {c d : Nat} (hc : c < 4294967296) (hd : d < 4294967296) (h : sumL c = sumL d) : c = d := by
  unfold sumL at h
  simp only [List.cons.injEq, and_true] at h
  obtain ⟨h1, h2, h3, h4⟩ := h
  have t : ∀ {x y : Nat}, x < 256 → y < 256 → UInt8.ofNat x = UInt8.ofNat y → x = y := fun hx hy e => by
    have := congrArg UInt8.toNat e
    rwa [toNat_ofNat hx, toNat_ofNat hy] at this
  have := t (by omega) (by omega) h1
  have := t (by omega) (by omega) h2
  have := t (by omega) (by omega) h3
  have := t (by omega) (by omega) h4
  omega

theorem checkL_length (l : List UInt8) : (checkL l).length = 4 := rfl

/-- A text that ends with its check does so no more when a byte of it is turned. -/
theorem check_turned {s : List UInt8} {k : Nat} {d : UInt8} (hk : k < s.length) (hs : s.drop (s.length - 4) = checkL (s.take (s.length - 4))) (hd : s[k] ≠ d) :
    (s.set k d).drop (s.length - 4) ≠ checkL ((s.set k d).take (s.length - 4)) := by
  intro e
  by_cases hke : k < s.length - 4
  · have e1 : (s.set k d).drop (s.length - 4) = s.drop (s.length - 4) := by rw [List.drop_set_of_lt hke]
    have e2 : (s.set k d).take (s.length - 4) = (s.take (s.length - 4)).set k d := by rw [List.take_set]
    rw [e1, e2, hs] at e
    have hl : k < (s.take (s.length - 4)).length := by rw [List.length_take]; omega
    have e3 : (s.take (s.length - 4)) = (s.take (s.length - 4)).take k ++ s[k] :: (s.take (s.length - 4)).drop (k + 1) := by
      conv => lhs; rw [← List.take_append_drop k (s.take (s.length - 4))]
      rw [List.drop_eq_getElem_cons hl]
      simp
    have e4 : (s.take (s.length - 4)).set k d = (s.take (s.length - 4)).take k ++ d :: (s.take (s.length - 4)).drop (k + 1) := by
      rw [List.set_eq_take_append_cons_drop, if_pos hl]
    rw [e4] at e
    unfold checkL at e
    have e5 := sumL_inj (ovL_lt _ _) (ovL_lt _ _) e
    rw [show ovL 0 (s.take (s.length - 4)) = ovL 0 ((s.take (s.length - 4)).take k ++ s[k] :: (s.take (s.length - 4)).drop (k + 1)) from congrArg _ e3] at e5
    exact over_turned hd e5
  · have e2 : (s.set k d).take (s.length - 4) = s.take (s.length - 4) := by
      rw [List.take_set_of_le (by omega)]
    rw [e2, ← hs] at e
    have := congrArg (fun l => l[k - (s.length - 4)]?) e
    simp only [List.getElem?_drop] at this
    rw [show s.length - 4 + (k - (s.length - 4)) = k from by omega] at this
    rw [List.getElem?_set_self hk, List.getElem?_eq_getElem hk] at this
    exact hd (by simpa using this.symm)

end Go.Proofs.YtkpaiaddikpdoaaGreatDoor

/- The check: over, bytes, checkOf. -/

namespace Go.Proofs.YtkpaiaddikpdoaaGreatDoor

open Go.RowKit

/-- the table of turns lies so -/
def TurnsAt (w : World) : Prop := ∀ i, i < 16 → w.cell? ⟨8, i, none⟩ = some (.int .u32 (turnAt i : Nat))

theorem xor_u32 {a b : Nat} (ha : a < 4294967296) (hb : b < 4294967296) : bits .xor .u32 (a : Int) (b : Int) = ((a ^^^ b : Nat) : Int) := by
  have hx : a ^^^ b < 2 ^ 32 := Nat.xor_lt_two_pow (by omega) (by omega)
  have h1 : (BitVec.ofInt 32 (a : Int)).toNat = a := by
    rw [BitVec.ofInt_natCast, BitVec.toNat_ofNat]; exact Nat.mod_eq_of_lt (by omega)
  have h2 : (BitVec.ofInt 32 (b : Int)).toNat = b := by
    rw [BitVec.ofInt_natCast, BitVec.toNat_ofNat]; exact Nat.mod_eq_of_lt (by omega)
  show IntKind.u32.wrap ((BitVec.ofInt 32 (a : Int) ^^^ BitVec.ofInt 32 (b : Int)).toNat : Int) = _
  rw [BitVec.toNat_xor, h1, h2, IntKind.wrap_u32]
  omega

theorem not_u32 {c : Nat} (hc : c < 4294967296) : bits .xor .u32 IntKind.u32.max (c : Int) = ((4294967295 - c : Nat) : Int) := by
  have h0 : IntKind.u32.max = ((4294967295 : Nat) : Int) := by simp [IntKind.max, IntKind.bits, IntKind.signed]
  rw [h0, xor_u32 (by omega) hc]
  have h : (BitVec.allOnes 32 ^^^ BitVec.ofNat 32 c).toNat = (~~~ (BitVec.ofNat 32 c)).toNat := by rw [BitVec.allOnes_xor]
  rw [BitVec.toNat_xor, BitVec.toNat_not, BitVec.toNat_allOnes, BitVec.toNat_ofNat, Nat.mod_eq_of_lt (show c < 2 ^ 32 by omega)] at h
  have e : 4294967295 ^^^ c = 4294967295 - c := by simpa using h
  rw [e]

theorem and15_u32 {y : Nat} (hy : y < 4294967296) : bits .and .u32 (y : Int) 15 = ((y % 16 : Nat) : Int) := by
  have h := bits_mask .u32 32 (by simp [IntKind.bits]) (fun n h0 h1 => by rw [IntKind.wrap_u32]; omega) 4 (by omega) (y : Int) (by omega) (by omega)
  simpa using h

theorem crc4_u32 {y : Nat} (hy : y < 4294967296) : bits .xor .u32 ((y : Int) / 16) ((turnAt (y % 16) : Nat) : Int) = ((crc4 y : Nat) : Int) := by
  have h := xor_u32 (a := y / 16) (b := turnAt (y % 16)) (by omega) (turn_lt _)
  have e : ((y / 16 : Nat) : Int) = (y : Int) / 16 := by omega
  rw [e] at h
  rw [h]
  rfl

theorem crcL_take {s : ByteArray} {z k : Nat} (hk : k < s.size) : crcL z (s.data.toList.take (k + 1)) = crc4 (crc4 (crcL z (s.data.toList.take k) ^^^ s[k].toNat)) := by
  have hl : k < s.data.toList.length := by simpa using hk
  rw [List.take_succ_eq_append_getElem hl, crcL_append]
  rfl

set_option maxRecDepth 100000 in
set_option maxHeartbeats 1000000 in
theorem checkOver_any (c : Nat) (s : ByteArray) (w : World) (hc : c < 4294967296) (hs : s.size ≤ maxLen) (ht : TurnsAt w) :
    Calls Tryz.prog 57 #[.int .u32 (c : Nat), .string s] w fun e w' => e = .returned (.int .u32 (ovL c s.data.toList : Nat)) ∧ w' = w := by
  have HT := hid ht
  have HC := hid hc
  have e0 := not_u32 hc
  have HX : Hid (∀ k, crcL (4294967295 - c) (s.data.toList.take k) < 4294967296) := fun k => crcL_lt _ (by omega)
  have HO : Hid (∀ k, ¬ k < s.size → 4294967295 - crcL (4294967295 - c) (s.data.toList.take k) = ovL c s.data.toList) := fun k hk => by
    rw [List.take_of_length_le (by simp; omega)]
    rfl
  have HN : Hid (∀ k, (hk : k < s.size) → crcL (4294967295 - c) (s.data.toList.take (k + 1)) = crc4 (crc4 (crcL (4294967295 - c) (s.data.toList.take k) ^^^ s[k].toNat))) := fun k hk => crcL_take hk
  unfold maxLen at hs
  clear ht hc
  go_enter Tryz.func57, Tryz.ntmps57
  go_wp2_with fail
  go_loop [0, 10] (fun z i => ∃ k : Nat, k ≤ s.size ∧ i = .int .i64 k ∧ z = .int .u32 (crcL (4294967295 - c) (s.data.toList.take k) : Nat)) (fun _ i => s.size - (intOf i).toNat)
  case atStart => exact ⟨0, Nat.zero_le _, rfl, rfl⟩
  case round =>
    obtain ⟨k, hk, rfl, rfl⟩ := hrel
    clear e0
    by_cases hlt : k < s.size
    · have hxl := HX.out k
      have HNK := hid (HN.out k hlt)
      generalize crcL (4294967295 - c) (s.data.toList.take k) = x at *
      have hb : s[k].toNat < 256 := UInt8.toNat_lt _
      have hy : x ^^^ s[k].toNat < 4294967296 := xor_lt32 hxl (by omega)
      have e1 : bits BinOp.xor IntKind.u32 (x : Int) ((s[k].toNat : Int) % 4294967296) = ((x ^^^ s[k].toNat : Nat) : Int) := by
        have : ((s[k].toNat : Int) % 4294967296) = (s[k].toNat : Int) := by omega
        rw [this]
        exact xor_u32 hxl (by omega)
      generalize x ^^^ s[k].toNat = y at *
      have e2 := and15_u32 hy
      have e3 := crc4_u32 hy
      have t1 := HT.out (y % 16) (by omega)
      have hz := crc4_lt hy
      have y16 : y % 16 < 16 := by omega
      generalize crc4 y = z at *
      have e4 := and15_u32 hz
      have e5 := crc4_u32 hz
      have t2 := HT.out (z % 16) (by omega)
      have z16 : z % 16 < 16 := by omega
      clear hxl hb hy hz
      go_wp2
      exact ⟨⟨k + 1, by omega, by go_num, by rw [HNK.out]⟩, by simp only [intOf]; omega⟩
    · have HOK := hid (HO.out k hlt)
      have e6 := not_u32 (HX.out k)
      generalize crcL (4294967295 - c) (s.data.toList.take k) = x at *
      go_wp2
      go_ret
      exact ⟨ret_int (by rw [HOK.out]), rfl⟩

/-! ### texts by their bytes -/

def ofL (l : List UInt8) : ByteArray := ⟨l.toArray⟩

theorem ofL_size (l : List UInt8) : (ofL l).size = l.length := by simp [ofL, ByteArray.size]

theorem ofL_list (l : List UInt8) : (ofL l).data.toList = l := rfl

theorem ofL_self (s : ByteArray) : ofL s.data.toList = s := by cases s; simp [ofL]

theorem ofL_append (a b : List UInt8) : ofL a ++ ofL b = ofL (a ++ b) := by
  apply ByteArray.ext
  simp [ofL]

/-- bytes that were just laid, as a text -/
theorem bytes_new (w1 : World) (ns : List Int) (W : World) (hW : W.heap = (w1.alloc (.cells (ns.map (Value.int .u8)).toArray 5)).heap) :
    (convert 86 9 (.slice (some ⟨w1.heap.size, 0, none⟩) ns.length ns.length)).run Tryz.prog W = .ok (.string (ofL (ns.map fun n => UInt8.ofNat n.toNat))) W := by
  rw [run_convert_bytes_string W _ _ 5 _ _ _ Tryz.underlying86 Tryz.underlying5 Tryz.underlying9]
  have h := run_loadCells_list (P := Tryz.prog) (w := W) ⟨w1.heap.size, 0, none⟩ (ns.map (Value.int .u8)) (fun j v hj => by
    rw [Addr.add_lit, Nat.zero_add]
    have hb : W.heap[w1.heap.size]? = some (.cells (ns.map (Value.int .u8)).toArray 5 (0, 0)) := by rw [hW]; exact heap_new w1 _
    rw [cell_of_heap hb]
    simpa using hj)
  rw [List.length_map] at h
  rw [run_bytesToString W _ _ _ ns h]
  congr 2
  have gen : ∀ (l : List Int) (a : List UInt8), l.foldl (fun r n => r.push (UInt8.ofNat n.toNat)) (ofL a) = ofL (a ++ l.map fun n => UInt8.ofNat n.toNat) := by
    intro l
    induction l with
    | nil => intro a; simp
    | cons n l ih =>
      intro a
      have e : (ofL a).push (UInt8.ofNat n.toNat) = ofL (a ++ [UInt8.ofNat n.toNat]) := by
        apply ByteArray.ext
        simp [ofL, ByteArray.push]
      rw [List.foldl_cons, e, ih]
      simp
  exact gen ns []

set_option maxRecDepth 100000 in
theorem checkBytes_any (c : Nat) (w : World) (hc : c < 4294967296) :
    Calls Tryz.prog 60 #[.int .u32 (c : Nat)] w fun e w' => e = .returned (.string (ofL (sumL c))) ∧ Keeps (fun _ => False) w w' := by
  have hb := bytes_new w [(c : Int) / 16777216 % 256, (c : Int) / 65536 % 256, (c : Int) / 256 % 256, (c : Int) % 256]
  have e : ([(c : Int) / 16777216 % 256, (c : Int) / 65536 % 256, (c : Int) / 256 % 256, (c : Int) % 256].map fun n => UInt8.ofNat n.toNat) = sumL c := by
    have q0 : ((c : Int) / 16777216 % 256).toNat = c / 16777216 := by omega
    have q1 : ((c : Int) / 65536 % 256).toNat = c / 65536 % 256 := by omega
    have q2 : ((c : Int) / 256 % 256).toNat = c / 256 % 256 := by omega
    have q3 : ((c : Int) % 256).toNat = c % 256 := by omega
    simp only [List.map_cons, List.map_nil, q0, q1, q2, q3]
    rfl
  rw [e] at hb
  have hc' := hb (w.alloc (.cells #[.int .u8 ((c : Int) / 16777216 % 256), .int .u8 ((c : Int) / 65536 % 256), .int .u8 ((c : Int) / 256 % 256), .int .u8 ((c : Int) % 256)] 5)) rfl
  simp only [List.length_cons, List.length_nil, Nat.zero_add, Nat.reduceAdd] at hc'
  clear hb e hc
  generalize ofL (sumL c) = r at *
  go_enter Tryz.func60, Tryz.ntmps60
  go_wp2_with fail
  go_ret
  exact ⟨rfl, (Keeps.refl _ _).al _⟩

set_option maxRecDepth 100000 in
theorem checkOf_any (s : ByteArray) (w : World) (hs : s.size ≤ maxLen) (ht : TurnsAt w) :
    Calls Tryz.prog 45 #[.string s] w fun e w' => e = .returned (.string (ofL (checkL s.data.toList))) ∧ Keeps (fun _ => False) w w' := by
  have HO := hid (checkOver_any 0 s w (by omega) hs ht)
  have HB := hid (fun W => checkBytes_any (ovL 0 s.data.toList) W (ovL_lt _ _))
  unfold checkL
  clear hs ht
  go_enter Tryz.func45, Tryz.ntmps45
  go_wp2_with (first
    | (go_at_call 57; go_must (refine (HO.out).mono ?_; rintro e w1 ⟨rfl, rfl⟩))
    | (go_at_call 60; go_must (refine (HB.out _).mono ?_; rintro e w2 ⟨rfl, k2⟩)))
  go_ret
  exact ⟨rfl, k2⟩

end Go.Proofs.YtkpaiaddikpdoaaGreatDoor

/- number. -/

namespace Go.Proofs.YtkpaiaddikpdoaaGreatDoor

open Go.RowKit Go.Shelf

def byteCells (b : UInt8) : List Value := [.int .u8 (b.toNat : Nat)]

theorem byte_flat (l : List UInt8) : l.flatMap byteCells = l.map fun b => Value.int .u8 (b.toNat : Nat) := by
  induction l with
  | nil => rfl
  | cons b l ih => simp [byteCells, ih]

/-- a list of bytes as a text -/
theorem bytes_row {W : World} {g cap : Nat} {l : List UInt8} (h : Row W 5 1 (.slice (some ⟨g, 0, none⟩) l.length cap) l.length (l.flatMap byteCells)) :
    (convert 86 9 (.slice (some ⟨g, 0, none⟩) l.length cap)).run Tryz.prog W = .ok (.string (ofL l)) W := by
  rw [run_convert_bytes_string W _ _ 5 _ _ _ Tryz.underlying86 Tryz.underlying5 Tryz.underlying9]
  have hr := h
  rw [byte_flat] at hr
  have hl := run_loadCells_list (P := Tryz.prog) (w := W) ⟨g, 0, none⟩ ((l.map fun b => ((b.toNat : Nat) : Int)).map (Value.int .u8)) (fun j v hj => by
    rw [Addr.add_lit, Nat.zero_add]
    have hj' : j < l.length := by
      have := (List.getElem?_eq_some_iff.1 hj).1
      simpa using this
    rw [hr.cellAt j (by omega)]
    simpa using hj)
  simp only [List.length_map] at hl
  rw [run_bytesToString W _ _ _ _ hl]
  congr 2
  have gen : ∀ (l : List UInt8) (a : List UInt8), (l.map fun b => ((b.toNat : Nat) : Int)).foldl (fun r n => r.push (UInt8.ofNat n.toNat)) (ofL a) = ofL (a ++ l) := by
    intro l
    induction l with
    | nil => intro a; simp
    | cons n l ih =>
      intro a
      have e : (ofL a).push (UInt8.ofNat ((n.toNat : Nat) : Int).toNat) = ofL (a ++ [n]) := by
        apply ByteArray.ext
        simp [ofL, ByteArray.push]
      rw [List.map_cons, List.foldl_cons, e, ih]
      simp
  exact gen l []

theorem or128 {m : Nat} : bits BinOp.or IntKind.u8 ((m : Int) % 256) 128 = ((m % 128 + 128 : Nat) : Int) := by
  have h := (bits_nat .u8 8 (by simp [IntKind.bits]) (fun n h0 h1 => wraps_u8 n h0 h1) (m % 256) 128 (by omega) (by omega)).2
  have e1 : ((m % 256 : Nat) : Int) = (m : Int) % 256 := by omega
  have e2 : ((128 : Nat) : Int) = 128 := rfl
  rw [e1, e2] at h
  rw [h]
  have hall : ∀ i : Fin 256, i.val ||| 128 = i.val % 128 + 128 := by decide +kernel
  have := hall ⟨m % 256, by omega⟩
  simp only at this
  rw [this]
  omega

theorem Tryz.infoByte : (Tryz.prog.info? 5).map (fun i => (i.zero, i.size, i.bytes)) = some (some (.int .u8 0), 1, 1) := by kernel_rfl

theorem numL_len : ∀ (f n : Nat), n < 128 ^ (f + 1) → (numL n).length ≤ f + 1
  | 0, n, h => by rw [numL_small (by simpa using h)]; simp
  | f + 1, n, h => by
    by_cases hn : n < 128
    · rw [numL_small hn]; simp
    · rw [numL_great hn, List.length_cons]
      have := numL_len f (n / 128) (Nat.div_lt_of_lt_mul (by rw [Nat.pow_succ, Nat.mul_comm] at h; exact h))
      omega

set_option maxRecDepth 100000 in
set_option maxHeartbeats 1000000 in
theorem number_any (n0 : Nat) (w : World) (h0 : n0 < 9223372036854775808) :
    Calls Tryz.prog 56 #[.int .i64 (n0 : Nat)] w fun e w' => e = .returned (.string (ofL (numL n0))) ∧ Keeps (fun _ => False) w w' := by
  obtain ⟨i0, hi, hz0, hz1, hz2⟩ := info_parts Tryz.infoByte
  have HL : Hid ((numL n0).length ≤ 9) := numL_len 8 n0 (by omega)
  go_enter Tryz.func56, Tryz.ntmps56
  go_wp2_with fail
  go_loopw [0, 3] (fun z v wr => ∃ (m : Nat) (pre : List UInt8), m ≤ n0 ∧ z = .int .i64 (m : Nat) ∧ Made 5 1 byteCells w wr v pre ∧ pre ++ numL m = numL n0) (fun z _ _ => (intOf z).toNat)
  case atStart => exact ⟨n0, [], Nat.le_refl _, rfl, Made.nil (Keeps.refl _ _), rfl⟩
  case round =>
    obtain ⟨m, pre, hm, rfl, hM, he⟩ := hrel
    obtain ⟨ob, cb, rfl, hmx, -⟩ := hM.row.form
    have HP : Hid (pre.length ≤ 9) := by
      have h1 := congrArg List.length he
      have h2 := HL.out
      rw [List.length_append] at h1
      show _ ≤ _
      omega
    have HM := hid hM
    have HE := hid he
    have hmI : (m : Int) ≤ 9223372036854775807 := by omega
    unfold maxLen at hmx
    clear hM he
    by_cases hlt : m < 128
    · have HN : Hid (numL n0 = pre ++ [UInt8.ofNat m]) := by
        show _ = _
        rw [← HE.out, numL_small hlt]
      have hdv : (UInt8.ofNat m).toNat = m := toNat_ofNat (by omega)
      have HDV := hid hdv
      have hltI : (m : Int) < 128 := by omega
      clear hdv
      generalize UInt8.ofNat m = d at *
      go_wp2_with (at_builtin; go_must (refine wpList_append_row _ rfl _ _ 86 rfl 5 i0 _ 1 1 Tryz.underlying86 hi hz0 hz1 hz2 rfl (.slice ob pre.length cb) pre.length _ rfl (HM.out.row.kept (Keeps.alloc (fun _ => False) _ _) (fun _ _ h => h)) ⟨wr.heap.size, 0, none⟩ 1 1 [.int .u8 (m : Nat)] rfl rfl (news_arr wr #[.int .u8 (m : Nat)] _) (by simp [Value.oneCell']) (by have := HP.out; unfold maxLen; omega) (by have := HP.out; omega) ?_; intro v' w2 hown' hgrow _ hat; obtain ⟨g', cap', rfl⟩ := hown'.succ; have hM2 := HM.out.push (a := d) ((Keeps.refl _ _).al _) (by simpa [byteCells, HDV.out] using hown') hgrow hat; have hr2 := hM2.row; simp only [List.length_append, List.length_cons, List.length_nil, Nat.zero_add] at hr2; have hcv := bytes_row (l := pre ++ [d]) (by simpa using hr2); simp only [List.length_append, List.length_cons, List.length_nil, Nat.zero_add] at hcv; have HM2 := hid hM2; clear hown' hgrow hat hM2 hr2))
      go_ret
      exact ⟨by rw [HN.out]; rfl, HM2.out.keep⟩
    · have e1 := or128 (m := m)
      have hd : m % 128 + 128 < 256 := by omega
      have HN : Hid ((pre ++ [UInt8.ofNat (m % 128 + 128)]) ++ numL (m / 128) = numL n0) := by
        show _ = _
        rw [← HE.out, numL_great hlt]
        simp
      have hdv : (UInt8.ofNat (m % 128 + 128)).toNat = m % 128 + 128 := toNat_ofNat hd
      rw [← hdv] at e1
      generalize UInt8.ofNat (m % 128 + 128) = d at *
      have hltI : (128 : Int) ≤ m := by omega
      clear hd hdv
      go_wp2_with (at_builtin; go_must (refine wpList_append_row _ rfl _ _ 86 rfl 5 i0 _ 1 1 Tryz.underlying86 hi hz0 hz1 hz2 rfl (.slice ob pre.length cb) pre.length _ rfl (HM.out.row.kept (Keeps.alloc (fun _ => False) _ _) (fun _ _ h => h)) ⟨wr.heap.size, 0, none⟩ 1 1 [.int .u8 (d.toNat : Nat)] rfl rfl (news_arr wr #[.int .u8 (d.toNat : Nat)] _) (by simp [Value.oneCell']) (by have := HP.out; unfold maxLen; omega) (by have := HP.out; omega) ?_; intro v' w2 hown' hgrow _ hat; have HM2 := hid (HM.out.push (a := d) ((Keeps.refl _ _).al _) hown' hgrow hat); clear hown' hgrow hat))
      exact ⟨⟨m / 128, pre ++ [d], by omega, by go_num, HM2.out, HN.out⟩, by simp only [intOf]; omega⟩

end Go.Proofs.YtkpaiaddikpdoaaGreatDoor
