/- Look: what it counts. -/
import Derived.Test.YtfcocbcihhdbkaaST
namespace Go.Proofs.Ytfcocbcihhdbkaa
open Go.RowKit

theorem IterAt.left_eq {α : Type} {mk : α → Value} {w : World} {r b : Nat} {l left : List (α × Value)} (h : IterAt mk w r b l left) : w.rangeLeft b r = left.length := by
  obtain ⟨es, clock, since, seen, hb, _, _, hr, _, _, he⟩ := h
  have := congrArg List.length he
  simp at this
  unfold World.rangeLeft
  rw [hb, hr]
  exact this

theorem del_less {α β : Type} [DecidableEq α] : ∀ {l : List (α × β)} {k : α} {v : β}, (k, v) ∈ l → (del l k).length < l.length
  | [], _, _, h => by cases h
  | (a, x) :: r, k, v, h => by
    unfold del
    by_cases e : a = k
    · rw [if_pos e]
      simp
    · rw [if_neg e]
      rcases List.mem_cons.1 h with h1 | h1
      · cases h1
        exact absurd rfl e
      · simp only [List.length_cons]
        have := del_less h1
        omega

set_option maxRecDepth 100000 in
set_option maxHeartbeats 400000 in
/-- Count, of a map -/
theorem count_map (R : Rep) (w : World) (h : StoreAt w R) (b : Nat) (hvm : R.vm = some b) :
    Calls Try.prog 28 #[.pointer (some ⟨R.sb, 7, none⟩)] w fun e w' => ∃ c : Int, e = .returned (.int .i64 c) ∧ Keeps (fun _ => False) w w' := by
  have hM : MapAt Value.string w b (R.hist.map fun p => (p.1, p.2.sl)) := by have := h.past.histMap; rw [hvm] at this; exact this
  have c6 : w.cell? ⟨R.sb, 8, none⟩ = some (.map (some b)) := (h.cell 8).trans (by rw [← hvm]; rfl)
  have hlt := h.lt
  have HM : Hid (MapAt Value.string w b (R.hist.map fun p => (p.1, p.2.sl))) := hM
  have HF : Hid (∀ q ∈ R.hist.map fun p => (p.1, p.2.sl), ∃ a m cap, q.2 = .slice a m cap) := fun q hq => by
    obtain ⟨p, hp, rfl⟩ := List.mem_map.1 hq
    obtain ⟨a, cap, e, _⟩ := (h.past.histEach p hp).form
    exact ⟨a, _, cap, e⟩
  clear h hvm hM
  go_enter Try.func28, Try.ntmps28
  go_wp2_with (at_range; go_must (refine wpList_range_at _ rfl _ 62 rfl 9 99 Try.underlying62 b rfl _ HM.out ?_; intro w1 hit hk1 hz1))
  go_frame
  go_loopw [3] (fun i wr => ∃ (c : Int) (left : List (ByteArray × Value)), i = .int .i64 c ∧ IterAt Value.string wr w.heap.size b (R.hist.map fun p => (p.1, p.2.sl)) left ∧ Keeps (fun _ => False) w wr ∧ (∀ q ∈ left, q ∈ R.hist.map fun p => (p.1, p.2.sl))) (fun _ wr => wr.rangeLeft b w.heap.size)
  case atStart => exact ⟨0, _, rfl, hit, hk1, fun q hq => hq⟩
  case round =>
    obtain ⟨c, left, rfl, hit', hkr, hsub⟩ := hrel
    clear hit hk1 hz1
    go_wp2_with (at_next; go_must (refine wpList_next_at _ rfl _ rfl strKeyOk b w.heap.size rfl _ _ hit' ?_ ?_))
    · intro _
      go_wp2
      go_ret
      exact ⟨c, rfl, hkr⟩
    · intro k v w2 hkv hit2 hk2 hz2 hen
      obtain ⟨a, m, cap, hv⟩ := HF.out _ (hsub _ hkv)
      simp only at hv
      subst hv
      have HI2 : Hid (IterAt Value.string w2 w.heap.size b (R.hist.map fun p => (p.1, p.2.sl)) (del left k)) := hit2
      have HI1 : Hid (IterAt Value.string wr w.heap.size b (R.hist.map fun p => (p.1, p.2.sl)) left) := hit'
      have HKV : Hid ((k, Value.slice a m cap) ∈ left) := hkv
      have HSUB : Hid (∀ q ∈ left, q ∈ R.hist.map fun p => (p.1, p.2.sl)) := hsub
      clear hit2 hit' hkv hsub
      go_wp2
      refine ⟨⟨_, del left k, rfl, HI2.out, hkr.trans hk2 (fun i hi e => ?_), fun q hq => HSUB.out q ((del_sublist _ _).subset hq)⟩, ?_⟩
      · have e' : i = w.heap.size := e
        omega
      · rw [HI2.out.left_eq, HI1.out.left_eq]
        exact del_less HKV.out

end Go.Proofs.Ytfcocbcihhdbkaa
