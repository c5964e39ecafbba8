import Derived.Test.YtfcocbcihhdbkaaGreatDoorM35

/- The statement Sweeps, of scripts of bulk at most 1048576: whatever the script of works, pins and sweeps on two stores, every answer is the document's, and the script is left as it was. -/

namespace Go.Proofs.YtfcocbcihhdbkaaGreatDoor

open Go.ChangeShapes Go.WideShapes Go.ChangeAt Go.RowKit Go.Deep

set_option maxRecDepth 100000 in
theorem lawSweeps_any (oa : Option Addr) (len cap : Nat) (S : Nat → OpB) (w : World) (h : OpsAt w oa len S) (hl : len ≤ 2000000) :
    Calls Tryz.prog 4 #[.slice oa len cap] w fun e w' => e = .returned (.bool true) ∧ Keeps (fun _ => False) w w' := by
  have HC := hid (plays_high oa len cap S w h hl)
  clear h hl
  go_enter Tryz.func4, Tryz.ntmps4
  go_wp2_with (go_at_call 10; go_must (refine (HC.out).mono ?_; rintro e w1 ⟨rfl, k1⟩; have HK := hid k1; clear k1))
  go_ret
  exact ⟨rfl, HK.out⟩

theorem sweeps_reads (os : Os) {H : Type} (enc : TypeId × Value → H) : ∃ places, DataW.whole enc Tryz.prog ((laidWorld Tryz.prog Rows.worksUptoRow.laid Rows.laid_annals_stream_turns os).forCall (fun _ _ => 0) ⟨#[], #[.slice none 0 0], []⟩).memory Tryz.f4.params.toList Rows.sweepsSpec.vars false #[Value.slice none 0 0].toList 8 = some ([.nil], [], places) :=
  ⟨[], by kernel_rfl⟩

set_option maxRecDepth 100000 in
theorem sweeps_lifted (os : Os) (started : os.Started) (H : Type) (enc : TypeId × Value → H) (F : Stop.Interp) :
    ReturnsInHanded {} Tryz.checked os 4 .any ((Rows.OpenSpec.upto Rows.sweepsSpec).preRow enc Tryz.prog Tryz.f4 Rows.sweepsUptoRow.domain false Rows.sweepsUptoRow.laid) (((Rows.OpenSpec.upto Rows.sweepsSpec).at F).post enc Tryz.prog Tryz.f4 false true false false) := by
  obtain ⟨places, hx⟩ := sweeps_reads os enc
  refine returnsInHanded_of_row (C := Tryz.checked) (s := Rows.OpenSpec.upto Rows.sweepsSpec) Tryz.own started (by kernel_rfl) Tryz.func4
    (witness_row_atRef (enc := enc) (C := Tryz.checked) false (laidWorld Tryz.prog Rows.worksUptoRow.laid Rows.laid_annals_stream_turns os) #[.slice none 0 0] rfl (by kernel_rfl) (by kernel_rfl) (by kernel_rfl)
      (OpenSpec.preRow_of_cond 8 hx (by kernel_rfl) (fun k hk => by cases hk; kernel_rfl) (by kernel_rfl) (laid_met os _))) ?_
  intro W base args ds gs before hval0 hW _ hcond _ _ _ _
  have hval : ∀ (j : Nat) t v, Tryz.f4.params[j]? = some t → args[j]? = some v → Value.okWide Tryz.prog W .any base t v := hval0
  have hW' := hW
  obtain ⟨p, q, hA0, hV, rfl, hfz, hnd⟩ := hW
  have hA : DataW.TrodAll enc Tryz.prog W 0 (fun _ => true) true Tryz.f4.params.toList args.toList ds p := hA0
  rw [Tryz.params4] at hA hval
  obtain ⟨v0, vs0, d0, ds0, p0, q0, hargs, rfl, rfl, h0, r0⟩ := trodAll_cons hA
  obtain ⟨rfl, rfl, rfl⟩ := trodAll_nil r0
  obtain rfl : args = #[v0] := by cases args; simp_all
  obtain ⟨rfl, rfl⟩ := trodVars_none hV
  obtain ⟨a0, len0, cap0, rfl⟩ := okWide_slice Tryz.underlying22 (hval 0 22 v0 rfl rfl)
  have k0 := h0
  have lt0 : ∀ x ∈ p0, x.block < W.heap.size := by obtain ⟨m, hm⟩ := k0; exact DataW.trod_lt m _ _ _ hm
  have hb : Rows.uptoBulkAll ([d0] ++ []) ≤ 1048576 := of_decide_eq_true (hcond _ rfl)
  obtain ⟨S0, t0, m0⟩ : ∃ S, OpsAt W a0 len0 S ∧ len0 ≤ Rows.uptoBulk d0 := by
    obtain ⟨fuel, hf⟩ := h0
    exact ops_open (x := (d0, p0)) (by simpa [Value.cells] using hf)
  have hb' : len0 ≤ 2000000 := by
    simp only [List.append_nil, Rows.uptoBulkAll] at hb
    omega
  clear hA0 hval0 hcond
  refine (lawSweeps_any a0 len0 cap0 S0 W t0 hb').mono fun e W' ⟨he, hk⟩ => ?_
  subst he
  have bel : Below W.heap.size W W' := hk.toBelow (Nat.le_refl _) (fun _ _ h => h)
  exact ⟨_, rfl, _, _, _, [], _, [], hW', trodAll_mk1 (shut_bool Tryz.underlying4 _), (trodAll_cons_mk (Below.trod Tryz.laidOut (by kernel_rfl) (of_decide_eq_true (by kernel_rfl)) k0 bel lt0) trodAll_mk0), rfl, bel.frame _, fun h => by cases h⟩

end Go.Proofs.YtfcocbcihhdbkaaGreatDoor
