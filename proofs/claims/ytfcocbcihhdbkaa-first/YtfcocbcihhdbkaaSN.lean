/- The step that takes one version back. -/
import Derived.Test.YtfcocbcihhdbkaaSM
namespace Go.Proofs.Ytfcocbcihhdbkaa
open Go.RowKit

theorem DropPost.keeps {R : Rep} {key : ByteArray} {vs : List Ver} {w w' : World} (h : DropPost R key vs w w') : Keeps (· ∈ R.fp) w w' := by
  obtain ⟨_, _, _, _, _, h, _⟩ := h
  exact h

theorem DropPost.from {R : Rep} {key : ByteArray} {vs : List Ver} {w0 w w' : World} (h : DropPost R key vs w w') (hk : Keeps (fun _ => False) w0 w) : DropPost R key vs w0 w' := by
  obtain ⟨R', h1, h2, h3, h4, h5, h6⟩ := h
  exact ⟨R', h1, h2, h3, h4, (hk.mono (fun _ _ h => h.elim)).tr h5 (fun _ h => h), h6⟩

theorem DropPost.id {R : Rep} {key : ByteArray} {w : World} (h : StoreAt w R) (t : Tied R) (hv : versOf R.hist key = []) : DropPost R key (versOf R.hist key).dropLast w w := by
  refine ⟨R, h, rfl, t, fun k => ?_, Keeps.refl _ _, fun _ h => h, Nat.le_refl _⟩
  split
  · rename_i e
    rw [← e, hv]
    rfl
  · rfl

set_option maxRecDepth 100000 in
set_option maxHeartbeats 500000 in
theorem drop_none (R : Rep) (key : ByteArray) (w : World) (h : StoreAt w R) (hx : look R.hist key = none) :
    Calls Try.prog 71 #[.pointer (some ⟨R.sb, 7, none⟩), .string key] w fun e w' => e = .returned (.tuple #[]) ∧ w' = w := by
  have c6 : w.cell? ⟨R.sb, 8, none⟩ = some (.map R.vm) := h.cell 8
  have hM := h.past.histMap
  have hlt := h.lt
  have HSL : Hid ((look (R.hist.map fun p => (p.1, p.2.sl)) key).getD (.slice none 0 0) = .slice none 0 0) := by
    unfold Hid
    rw [look_map, hx]
    rfl
  obtain ⟨vm, hvm⟩ : ∃ vm, R.vm = vm := ⟨_, rfl⟩
  rw [hvm] at c6 hM
  clear h hx
  go_enter Try.func71, Try.ntmps71
  go_wp2_with (at_lookup; go_must (refine wpList_lookup_opt _ rfl _ _ 62 rfl 9 99 strKeyOk Try.underlying62 Try.underlying9 _ (Try.zeroVersions _) vm rfl key rfl _ hM ?_; rw [HSL.out]))
  refine bodyPost_ret (results_none rfl _ _ _) rfl ?_
  exact ⟨rfl, rfl⟩

/-- Drop of any key. -/
theorem drop_all (R : Rep) (key : ByteArray) (w : World) (h : StoreAt w R) (t : Tied R) (hl : R.keys.length < 1000000000000) (hvl : (versOf R.hist key).length < 1000000000000) :
    Calls Try.prog 71 #[.pointer (some ⟨R.sb, 7, none⟩), .string key] w fun e w' => e = .returned (.tuple #[]) ∧ DropPost R key (versOf R.hist key).dropLast w w' := by
  cases hx : look R.hist key with
  | none =>
    refine (drop_none R key w h hx).mono ?_
    rintro e w' ⟨rfl, rfl⟩
    exact ⟨rfl, .id h t (by unfold versOf; rw [hx]; rfl)⟩
  | some x =>
    have hv : versOf R.hist key = x.vers := by unfold versOf; rw [hx]; rfl
    have hne := t.filled _ (look_mem hx)
    rw [hv]
    exact drop_any R key x.vers.dropLast (x.vers.getLast hne) w h t (by rw [hv]; exact (List.dropLast_concat_getLast hne).symm) hl (by rw [hv] at hvl; simp; omega)

set_option maxRecDepth 100000 in
set_option maxHeartbeats 500000 in
theorem undo_one (R : Rep) (key : ByteArray) (s kb : Nat) (w : World) (h : StoreAt w R) (t : Tied R) (hl : R.keys.length < 1000000000000) (hvl : (versOf R.hist key).length < 1000000000000)
    (hs : w.cell? ⟨s, 0, none⟩ = some (.pointer (some ⟨R.sb, 0, none⟩))) (hk : w.cell? ⟨kb, 0, none⟩ = some (.string key)) (hsf : s ∉ R.fp) (hkf : kb ∉ R.fp) :
    Calls Try.prog 70 #[.pointer (some ⟨s, 0, none⟩), .pointer (some ⟨kb, 0, none⟩)] w fun e w' => e = .returned (.tuple #[]) ∧ DropPost R key (versOf R.hist key).dropLast w w' := by
  obtain ⟨vs, hvs⟩ : ∃ vs, (versOf R.hist key).dropLast = vs := ⟨_, rfl⟩
  rw [hvs]
  have HD : Hid (∀ W, Keeps (fun _ => False) w W → Calls Try.prog 71 #[.pointer (some ⟨R.sb, 7, none⟩), .string key] W fun e w' => e = .returned (.tuple #[]) ∧ DropPost R key vs W w') := fun W hk => hvs ▸ drop_all R key W (h.kept hk (fun _ _ h => h)) t hl hvl
  have HSF : Hid (s ∉ R.fp) := hsf
  have HKF : Hid (kb ∉ R.fp) := hkf
  have hlt := h.lt
  have hsl : s < w.heap.size := World.block_lt_of_cell? _ _ hs
  have hkl : kb < w.heap.size := World.block_lt_of_cell? _ _ hk
  clear h t hl hvl hsf hkf hvs
  go_enter Try.func70, Try.ntmps70
  go_region_held3 (fun W => W.cell? ⟨s, 0, none⟩ = some (.pointer (some ⟨R.sb, 0, none⟩)) ∧ W.cell? ⟨kb, 0, none⟩ = some (.string key)) (go_keep) (first | (go_at_call 71; refine (HD.out _ (Keeps.drew (fun _ => False) w)).mono ?_; rintro e wb ⟨rfl, hd⟩; have hs' := hd.keeps.cell (p := ⟨s, 0, none⟩) (v := .pointer (some ⟨R.sb, 0, none⟩)) hs HSF.out; have hk' := hd.keeps.cell (p := ⟨kb, 0, none⟩) (v := .string key) hk HKF.out))
  go_end0
  exact ⟨rfl, hd.from (Keeps.drew (fun _ => False) w)⟩

end Go.Proofs.Ytfcocbcihhdbkaa
