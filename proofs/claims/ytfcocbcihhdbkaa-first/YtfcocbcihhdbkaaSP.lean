/- settle, where keys have been added: their versions are taken back. -/
import Derived.Test.YtfcocbcihhdbkaaSO
namespace Go.Proofs.Ytfcocbcihhdbkaa
open Go.RowKit Go.Shelf

/-- the versions without the last n -/
def cutN (n : Nat) (vs : List Ver) : List Ver := vs.take (vs.length - n)

theorem cutN_zero (vs : List Ver) : cutN 0 vs = vs := by simp [cutN]

theorem cutN_last (n : Nat) (vs : List Ver) : (cutN n vs).dropLast = cutN (n + 1) vs := by
  unfold cutN
  rw [List.dropLast_eq_take, List.take_take, List.length_take]
  congr 1
  omega

theorem cutN_one (vs : List Ver) (v : Ver) : cutN 1 (vs ++ [v]) = vs := by
  unfold cutN
  rw [List.length_append]
  exact List.take_left' rfl

theorem cutN_le (n : Nat) (vs : List Ver) : (cutN n vs).length ≤ vs.length := by simp [cutN]

/-- how often a key is among those taken back -/
def cntK (ks : List ByteArray) (k : ByteArray) : Nat := (ks.filter (fun x => decide (x = k))).length

theorem cntK_snoc (ks : List ByteArray) (x k : ByteArray) : cntK (ks ++ [x]) k = cntK ks k + if x = k then 1 else 0 := by
  unfold cntK
  rw [List.filter_append, List.length_append]
  by_cases e : x = k
  · simp [e]
  · simp [e]

theorem cntK_nodup : ∀ {ks : List ByteArray}, ks.Nodup → ∀ k, cntK ks k = if memB ks k then 1 else 0
  | [], _, k => by simp [cntK, memB]
  | a :: r, h, k => by
    rw [List.nodup_cons] at h
    have ih := cntK_nodup h.2 k
    unfold cntK memB at ih ⊢
    by_cases e : a = k
    · subst e
      have hm : r.any (fun x => decide (x = a)) = false := by
        rw [Bool.eq_false_iff]
        intro hh
        exact h.1 ((memB_iff r a).1 hh)
      rw [hm] at ih
      simp at ih ⊢
      exact ih
    · have e' : decide (a = k) = false := by simp [e]
      rw [List.filter_cons_of_neg (by simp [e]), ih, List.any_cons, e', Bool.false_or]

theorem cntK_reverse (ks : List ByteArray) (k : ByteArray) : cntK ks.reverse k = cntK ks k := by
  unfold cntK
  rw [List.filter_reverse, List.length_reverse]

/-- How it stands when the last versions of these keys have been taken back. -/
def BackAt (Rj : Rep) (w : World) (pre : List ByteArray) (W : World) : Prop :=
  ∃ Rk, StoreAt W Rk ∧ Rk = { Rj with kv := Rk.kv, keys := Rk.keys, vm := Rk.vm, hist := Rk.hist } ∧ Tied Rk ∧ (∀ k, versOf Rk.hist k = cutN (cntK pre k) (versOf Rj.hist k)) ∧ (∀ x ∈ Rk.fp, x ∈ Rj.fp) ∧ Keeps (· ∈ Rj.fp) w W ∧ Rk.keys.length ≤ Rj.keys.length

theorem BackAt.kept {Rj : Rep} {pre : List ByteArray} {w W W' : World} {S : Nat → Prop} (h : BackAt Rj w pre W) (hj : StoreAt w Rj) (hk : Keeps S W W') (hS : ∀ i, S i → w.heap.size ≤ i) : BackAt Rj w pre W' := by
  obtain ⟨Rk, h1, h2, h3, h4, h5, h6, h7⟩ := h
  have hlt := fp_lt hj
  exact ⟨Rk, h1.kept hk (fun i hi hs => by have := hS i hs; have := hlt i (h5 i hi); omega), h2, h3, h4, h5, h6.trans hk (fun i hi hs => by have := hS i hs; omega), h7⟩

theorem backAt_step {Rj : Rep} {pre : List ByteArray} {w W : World} {s kb : Nat} {key : ByteArray} (h : BackAt Rj w pre W)
    (hbox : w.heap[kb]? = some (.cells #[.string key] 9 (0, 0))) (hsbox : w.heap[s]? = some (.cells #[.pointer (some ⟨Rj.sb, 0, none⟩)] 23 (0, 0))) (hsj : s ∉ Rj.fp) (hkj : kb ∉ Rj.fp) (hkl : Rj.keys.length < 1000000000000) (hvl : ∀ x, (versOf Rj.hist x).length < 1000000000000) :
    Calls Try.prog 70 #[.pointer (some ⟨s, 0, none⟩), .pointer (some ⟨kb, 0, none⟩)] W fun e W' => e = .returned (.tuple #[]) ∧ BackAt Rj w (pre ++ [key]) W' ∧ Keeps (· ∈ Rj.fp) W W' := by
  obtain ⟨Rk, h1, h2, h3, h4, h5, h6, h7⟩ := h
  have hskb : Rk.sb = Rj.sb := by rw [h2]
  have hc1 : W.cell? ⟨s, 0, none⟩ = some (.pointer (some ⟨Rk.sb, 0, none⟩)) := by
    rw [hskb]
    exact h6.cell (p := ⟨s, 0, none⟩) (cell_of_heap hsbox 0) hsj
  have hc2 : W.cell? ⟨kb, 0, none⟩ = some (.string key) := h6.cell (p := ⟨kb, 0, none⟩) (cell_of_heap hbox 0) hkj
  refine (undo_one Rk key s kb W h1 h3 (by omega) (by rw [h4]; exact Nat.lt_of_le_of_lt (cutN_le _ _) (hvl _)) hc1 hc2 (fun hf => hsj (h5 _ hf)) (fun hf => hkj (h5 _ hf))).mono ?_
  rintro e W' ⟨rfl, R', g1, g2, g3, g4, g5, g6, g7⟩
  refine ⟨rfl, ⟨R', g1, by rw [g2, h2], g3, fun k => ?_, fun x hx => h5 x (g6 x hx), h6.tr g5 (fun x hx => h5 x hx), by omega⟩, g5.mono (fun x _ hx => h5 x hx)⟩
  rw [g4, cntK_snoc]
  by_cases e : key = k
  · subst e
    rw [if_pos rfl, if_pos rfl, h4, cutN_last]
  · rw [if_neg e, if_neg e, h4, Nat.add_zero]

/-- All of them taken back: what was. -/
theorem BackAt.all {R Rj : Rep} {ks : List ByteArray} {ver : ByteArray → Ver} {w W : World} (h : BackAt Rj w ks.reverse W) (hG : Grew R ks ver Rj) (hn : ks.Nodup) : ∃ R0, StoreAt W R0 ∧ Grew R [] ver R0 ∧ (∀ x ∈ R0.fp, x ∈ Rj.fp) ∧ Keeps (· ∈ Rj.fp) w W ∧ R0.keys.length ≤ Rj.keys.length := by
  obtain ⟨Rk, h1, h2, h3, h4, h5, h6, h7⟩ := h
  have hs := hG.same
  refine ⟨Rk, h1, ⟨by rw [h2, hs], fun k => ?_, h3⟩, h5, h6, h7⟩
  rw [h4, cntK_reverse, cntK_nodup hn, hG.vers]
  cases hm : memB ks k with
  | true => simpa [memB] using cutN_one _ _
  | false => simpa [memB] using cutN_zero _

end Go.Proofs.Ytfcocbcihhdbkaa
