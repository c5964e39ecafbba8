/- The least state that is held. -/
import Derived.Test.YthgojidgaeimnaaV3
namespace Go.Proofs.Ythgojidgaeimnaa
open Go.RowKit Go.Shelf

/-- L is the least of now and of where the works began. -/
def IsLeast (now : Int) (bs : List Int) (L : Int) : Prop := L ≤ now ∧ (∀ b ∈ bs, L ≤ b) ∧ (L = now ∨ L ∈ bs)

theorem mem_del {α β : Type} [DecidableEq α] : ∀ {l : List (α × β)} {k : α} {q : α × β}, q ∈ l → q.1 ≠ k → q ∈ del l k
  | [], _, _, h, _ => by cases h
  | (a, x) :: r, k, q, h, hne => by
    unfold del
    by_cases e : a = k
    · rw [if_pos e]
      rcases List.mem_cons.1 h with rfl | h1
      · exact absurd e hne
      · exact h1
    · rw [if_neg e]
      rcases List.mem_cons.1 h with rfl | h1
      · simp
      · exact List.mem_cons_of_mem _ (mem_del h1 hne)

theorem min_int (x y : Int) (W : World) : (Builtin.min_ #[3, 3] 3 #[.int .i64 x, .int .i64 y]).run Try.prog W = .ok (.int .i64 (if y < x then y else x)) W := by
  simp [Builtin.min_, Builtin.min2]

set_option maxRecDepth 100000 in
set_option maxHeartbeats 800000 in
theorem leastHeld_any (R : Rep) (w : World) (h : StoreAt w R) (hpm : R.pm = none) (b : Nat) (hwm : R.wm = some b) :
    Calls Try.prog 40 #[.pointer (some ⟨R.sb, 0, none⟩)] w fun e w' => ∃ L : Int, e = .returned (.int .i64 L) ∧ IsLeast R.now (R.works.map (·.2.began)) L ∧ Keeps (fun _ => False) w w' := by
  have hM : MapAt (Value.int .i64) w b (R.works.map fun p => (p.1, workPtr p.2)) := by have := h.works.worksMap; rw [hwm] at this; exact this
  have c0 : w.cell? ⟨R.sb, 0, none⟩ = some (.int .i64 R.now) := h.cell 0
  have c3 : w.cell? ⟨R.sb, 3, none⟩ = some (.map (some b)) := (h.cell 3).trans (by rw [← hwm]; rfl)
  have c4 : w.cell? ⟨R.sb, 4, none⟩ = some (.map none) := (h.cell 4).trans (by rw [← hpm]; rfl)
  have hlt := h.lt
  have HM := hid hM
  have HST := hid h
  clear h hpm hwm hM
  go_enter Try.func40, Try.ntmps40
  go_wp2_with (at_range; go_must (refine wpList_range_at _ rfl _ 59 rfl 3 72 Try.underlying59 b rfl _ HM.out ?_; intro w1 hit hk1 hz1))
  go_frame
  go_loopw [3] (fun i wr => ∃ (c : Int) (left : List (Int × Value)), i = .int .i64 c ∧ IterAt (Value.int .i64) wr w.heap.size b (R.works.map fun p => (p.1, workPtr p.2)) left ∧ Keeps (fun _ => False) w wr ∧ (∀ q ∈ left, q ∈ R.works.map fun p => (p.1, workPtr p.2)) ∧
    c ≤ R.now ∧ (c = R.now ∨ c ∈ R.works.map (·.2.began)) ∧ (∀ p ∈ R.works, (p.1, workPtr p.2) ∉ left → c ≤ p.2.began)) (fun _ wr => wr.rangeLeft b w.heap.size)
  case atStart => exact ⟨R.now, _, rfl, hit, hk1, fun q hq => hq, Int.le_refl _, .inl rfl, fun p hp hn => absurd (List.mem_map.2 ⟨p, hp, rfl⟩) hn⟩
  case round =>
    obtain ⟨c, left, rfl, hit', hkr, hsub, hc1, hc2, hc3⟩ := hrel
    clear hit hk1 hz1
    have d4 := hkr.cell (p := ⟨R.sb, 4, none⟩) c4 (fun h => h)
    have HCC := hid (And.intro hc1 (And.intro hc2 hc3))
    clear hc1 hc2 hc3
    go_wp2_with (at_next; go_must (refine wpList_next_at _ rfl _ rfl intKeyOk b w.heap.size rfl _ _ hit' ?_ ?_))
    · intro hnil
      have HLEFT := hid hnil
      have hrg := range_nil (P := Try.prog) (t := 60) Try.underlying60 wr
      have hnx := next_nil (P := Try.prog) (r := wr.heap.size) 0 (wr.alloc (.mapIter none 0 #[] 0)) (heap_new wr _)
      clear hnil hit' hsub c0 c3 c4
      go_wp2
      go_loopw [3] (fun i wr2 => i = .int .i64 c ∧ wr2 = wr.alloc (.mapIter none 0 #[] 0)) (fun _ _ => 0)
      case atStart => exact ⟨rfl, rfl⟩
      case round =>
        obtain ⟨rfl, rfl⟩ := hrel
        go_wp2
        go_ret
        obtain ⟨q1, q2, q3⟩ := HCC.out
        refine ⟨c, rfl, ⟨q1, fun b' hb' => ?_, q2⟩, hkr.al _⟩
        obtain ⟨p, hp, rfl⟩ := List.mem_map.1 hb'
        exact q3 p hp (by rw [HLEFT.out]; simp)
    · intro k v w2 hkv hit2 hk2 hz2 hen
      obtain ⟨p, hp, e⟩ := List.mem_map.1 (hsub _ hkv)
      simp only [Prod.mk.injEq] at e
      obtain ⟨rfl, rfl⟩ := e
      have hkw2 : Keeps (fun _ => False) w w2 := hkr.trans hk2 (fun i hi e => by have e' : i = w.heap.size := e; omega)
      obtain ⟨d0, -, -⟩ := (HST.out.kept hkw2 (fun _ _ h => h)).works.work (n := p.1) (x := p.2) hp
      have hmn := fun W => min_int c p.2.began W
      obtain ⟨c', hc'⟩ : ∃ c', c' = if p.2.began < c then p.2.began else c := ⟨_, rfl⟩
      rw [← hc'] at hmn
      have HC' := hid hc'
      simp only [workPtr] at hen
      have HI2 := hid hit2
      have HI1 := hid hit'
      have HKV := hid hkv
      have HSUB := hid hsub
      have HK2 := hid hkw2
      have HP := hid hp
      clear hit2 hit' hkv hsub hc' hkw2 hk2 hp d4 c0 c3 c4 hkr
      go_wp2
      obtain ⟨q1, q2, q3⟩ := HCC.out
      have e := HC'.out
      refine ⟨⟨c', del left p.1, rfl, HI2.out, HK2.out, fun q hq => HSUB.out q ((del_sublist _ _).subset hq), by split at e <;> omega, ?_, fun p' hp' hn => ?_⟩, ?_⟩
      · split at e
        · right; rw [e]; exact List.mem_map.2 ⟨p, HP.out, rfl⟩
        · rw [e]; exact q2
      · by_cases ek : p'.1 = p.1
        · have epp : p' = p := by
            have h1 := look_of_mem (works_nodup HST.out) (k := p'.1) (v := p'.2) hp'
            have h2 := look_of_mem (works_nodup HST.out) (k := p.1) (v := p.2) HP.out
            rw [ek, h2] at h1
            simp only [Option.some.injEq] at h1
            exact Prod.ext ek h1.symm
          rw [epp]
          split at e <;> omega
        · have h1 := q3 p' hp' (fun hm => hn (mem_del hm ek))
          split at e <;> omega
      · rw [HI2.out.left_eq, HI1.out.left_eq]
        exact del_less HKV.out

end Go.Proofs.Ythgojidgaeimnaa
