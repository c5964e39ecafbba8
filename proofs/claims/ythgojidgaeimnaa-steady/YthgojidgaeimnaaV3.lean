/- Sweep of what has been, walked. -/
import Derived.Test.YthgojidgaeimnaaV2
namespace Go.Proofs.Ythgojidgaeimnaa
open Go.RowKit Go.Shelf

theorem Try.infoStr : (Try.prog.info? 9).map (fun i => (i.zero, i.size, i.bytes)) = some (some (.string ⟨#[]⟩), 1, 16) := by kernel_rfl

/-- What Sweep of what has been leaves. -/
def PastSwept (R : Rep) (L : Int) (C0 : List Nat) (w w' : World) : Prop :=
  ∃ hist vl, StoreAt w' { R with kv := vl, keys := leftL R L R.keys.length, hist := hist } ∧ (∀ k, versOf hist k = if memB R.keys k then (versOf R.hist k).drop (needN (versOf R.hist k) L) else versOf R.hist k) ∧
    (∀ k, (look hist k).isSome = true → (look R.hist k).isSome = true) ∧ (∀ p ∈ hist, p.2.vers ≠ []) ∧ Keeps (fun k => k ∈ R.fp ∨ k ∈ C0) w w' ∧ ∀ k ∈ Rep.fp { R with kv := vl, keys := leftL R L R.keys.length, hist := hist }, k ∈ R.fp ∨ w.heap.size < k

set_option maxRecDepth 100000 in
set_option maxHeartbeats 4000000 in
theorem pastSweep_any (R : Rep) (L : Int) (cb : Nat) (fs0 : List Value) (C0 : List Nat) (w : World) (h : StoreAt w R) (g : Good R) (t : Tied R) (hc : Chg w cb fs0 C0) (hap : ∀ k ∈ C0, k ∉ R.fp) (hl : fs0.length ≤ 10) (hkl : R.keys.length < 1000000) :
    Calls Try.prog 41 #[.pointer (some ⟨R.sb, 5, none⟩), .int .i64 L, .func (.func 42) #[.pointer (some ⟨cb, 0, none⟩)] #[]] w fun e w' => ∃ z : Int, e = .returned (.int .i64 z) ∧ PastSwept R L C0 w w' := by
  have hmf : ∀ (fn : Fn) (first cap : Array Value) (w : World), (Instr.makeFunc fn first cap).run Try.prog w = .ok (.func fn first cap) w := fun _ _ _ _ => rfl
  obtain ⟨av, cv, hkv, hkm, hsome⟩ := h.past.keysRow.form
  have c5 : w.cell? ⟨R.sb, 5, none⟩ = some (.slice av R.keys.length cv) := by rw [← hkv]; exact h.cell 5
  have hlt := h.lt
  have hfl := fp_lt h
  have hS0 : SweepS w R L cb fs0.length C0 w.heap.size 0 0 R.hist fs0 C0 (.slice none 0 0) (w.alloc (.cells #[.pointer (some ⟨R.sb, 5, none⟩)] 97)) := by
    have hk : Keeps (fun _ => False) w (w.alloc (.cells #[.pointer (some ⟨R.sb, 5, none⟩)] 97)) := Keeps.alloc _ _ _
    refine ⟨h.kept hk (fun _ _ h => h), fun k => by simp [memB], fun _ h => h, t.filled, Row.nil _ _ _, fun g hg => by simp [Value.ownBlock] at hg, hc.kept hk (fun _ _ h => h), by omega, fun k hk => .inl hk, fun k hk => .inl hk, hap, heap_new w _, hk.mono (fun _ _ h => h.elim), by simp⟩
  have HS0 := hid hS0
  have HST := hid h
  have HG := hid g
  have HT := hid t
  have HC := hid hc
  have HAP := hid hap
  have HKV := hid hkv
  have HSM := hid hsome
  have HFL := hid hfl
  clear hS0 h g t hc hap hkv hsome hfl
  go_enter Try.func41, Try.ntmps41
  go_wp2_with fail
  go_loopw [7, 8, 19] (fun th vl i wr => ∃ (k : Nat) (z : Int), k ≤ R.keys.length ∧ i = .int .i64 k ∧ th = .int .i64 z ∧ ∃ hist fs C, SweepS w R L cb fs0.length C0 w.heap.size k k hist fs C vl wr) (fun _ _ i _ => R.keys.length - (intOf i).toNat)
  case atStart => exact ⟨0, 0, Nat.zero_le _, rfl, rfl, _, _, _, HS0.out⟩
  case round =>
    obtain ⟨k, z, hk, rfl, rfl, hist, fs, C, hS⟩ := hrel
    have HS := hid hS
    clear hS HS0
    obtain ⟨al, cl, rfl, hlm, -⟩ := HS.out.row.form
    by_cases hlt2 : k < R.keys.length
    · obtain ⟨ga, rfl⟩ := HSM.out (by omega)
      have hrow := HS.out.st.past.keysRow
      simp only at hrow
      rw [HKV.out] at hrow
      obtain ⟨key, hkey⟩ : ∃ key, R.keys[k] = key := ⟨_, rfl⟩
      have ck : wr.cell? ⟨ga, k, none⟩ = some (.string key) := by
        rw [hrow.cellAt k (by omega)]
        simp [hlt2, hkey]
      have hkm2 : key ∈ R.keys := hkey ▸ List.getElem_mem hlt2
      have hni : memB (R.keys.take k) key = false := by
        cases hm : memB (R.keys.take k) key with
        | false => rfl
        | true =>
          have hm' := (memB_iff _ _).1 hm
          obtain ⟨q, hq, e⟩ := List.getElem_of_mem hm'
          simp only [List.length_take] at hq
          rw [List.getElem_take, ← hkey] at e
          have := (List.getElem_inj (rises_nodup HT.out.rises)).1 e
          omega
      have hvk : versOf hist key = versOf R.hist key := by rw [HS.out.vers, hni]; simp
      have hvne := vers_ne HT.out hkm2
      obtain ⟨x, hx, hxv⟩ : ∃ x, look hist key = some x ∧ x.vers = versOf R.hist key := by
        rw [← hvk]
        cases hl : look hist key with
        | none => rw [← hvk] at hvne; unfold versOf at hvne; rw [hl] at hvne; simp at hvne
        | some x => exact ⟨x, rfl, by unfold versOf; rw [hl]; rfl⟩
      obtain ⟨b, hvm, hM, c6, hsb, hbs, hkvb⟩ := throw_setup (R := { R with hist := hist }) HS.out.st hx
      have hrx := HS.out.st.past.histEach _ (look_mem hx)
      simp only at hrx
      obtain ⟨a2, c2, hxs, hxm, -⟩ := hrx.form
      obtain ⟨g1, g2⟩ := HG.out.vers key
      rw [← hxv] at g1 g2
      have HLKK : Hid (∀ W, Keeps (fun _ => False) wr W → (Instr.lookup 61 (.map (some b)) (.string key) false).run Try.prog W = .ok (.slice a2 x.vers.length c2) W) := fun W hk => by
        have := (hM.kept hk (fun h => h)).lookup (P := Try.prog) (t := 61) strKeyOk Try.underlying61 Try.underlying9 (Try.zeroVersions W) key false
        rw [look_map, hx] at this
        simp only [Option.map_some, Option.getD_some, hxs] at this
        exact this
      rw [hxs] at hrx
      have HND : Hid (∀ W, Keeps (fun _ => False) wr W → Calls Try.prog 62 #[.slice a2 x.vers.length c2, .int .i64 L] W fun e w' => e = .returned (.int .i64 (needN x.vers L : Nat)) ∧ Keeps (fun _ => False) W w') := fun W hk => needless_any _ _ _ W (hrx.kept hk (fun _ _ h => h)) g1 (by omega)
      have cb0 := cell_of_heap HS.out.box 0
      simp at cb0
      have hwsz := HS.out.size
      have HX := hid hx
      have HXV := hid hxv
      have HKEY := hid hkey
      have HVNE := hid hvne
      have HHK := hid (And.intro g1 g2)
      clear hrow hkm2 hni hvk hvne hx hxv hM hbs hkvb hrx g1 g2 hxs hkey HSM
      go_wp2_with fail
      have hlk1 := HLKK.out ((wr.alloc (.cells #[.string key] 9)).drew) (((Keeps.refl (fun _ => False) wr).al _).dr)
      have hlk2 := fun o => HLKK.out (((wr.alloc (.cells #[.string key] 9)).alloc o).drew) ((((Keeps.refl (fun _ => False) wr).al _).al _).dr)
      go_region_held3 (fun W => W.cell? ⟨w.heap.size, 0, none⟩ = some (.pointer (some ⟨R.sb, 5, none⟩)) ∧ W.cell? ⟨wr.heap.size, 0, none⟩ = some (.string key) ∧ W.cell? ⟨R.sb, 6, none⟩ = some (.map (some b))) (go_keep) (fail)
      all_goals
        obtain ⟨i0, hi, hz0, hz1, hz2⟩ := info_parts Try.infoStr
        have HK2 : Hid (Keeps (fun _ => False) wr (((wr.alloc (.cells #[.string key] 9)).alloc (.cells #[.slice a2 x.vers.length c2] 98)).drew)) := (((Keeps.refl _ wr).al _).al _).dr
        have BK : Hid ((((wr.alloc (.cells #[.string key] 9)).alloc (.cells #[.slice a2 x.vers.length c2] 98)).drew).heap[wr.heap.size]? = some (.cells #[.string key] 9 (0, 0))) := (Below.heap_alloc _ _ _ (by simp)).trans (heap_new wr _)
        have BA : Hid ((((wr.alloc (.cells #[.string key] 9)).alloc (.cells #[.slice a2 x.vers.length c2] 98)).drew).heap[wr.heap.size + 1]? = some (.cells #[.slice a2 x.vers.length c2] 98 (0, 0))) := by
          have := heap_new (wr.alloc (.cells #[.string key] 9)) (.cells #[.slice a2 x.vers.length c2] 98)
          rw [World.size_alloc] at this
          exact this
        have hnle := needN_le x.vers L
        have hlpos : 0 < x.vers.length := by
          have := HVNE.out
          rw [← HXV.out] at this
          exact List.length_pos_iff.2 this
        have hxb := HHK.out.2
        have hst : staysB R L R.keys[k] = decide (needN x.vers L < x.vers.length) := by unfold staysB; rw [HKEY.out, HXV.out]
        have hlf : (leftL R L k).length ≤ k := by
          unfold leftL
          exact Nat.le_trans (List.length_filter_le _ _) (List.length_take_le _ _)
        clear hlk1 hlk2 HLKK ck cb0 c6
        obtain ⟨nd, hnd⟩ : ∃ nd, needN x.vers L = nd := ⟨_, rfl⟩
        have HNE : Hid (needN (versOf R.hist R.keys[k]) L = nd) := by unfold Hid; rw [HKEY.out, ← HXV.out, hnd]
        rw [hnd] at HND hnle hst
        by_cases hn0 : nd = 0
        · subst hn0
          have HSTAY : Hid (staysB R L R.keys[k] = true) := by unfold Hid; rw [hst]; simpa using hlpos
          clear hst hnd
          generalize hln : x.vers.length = len at *
          go_wp2_with (first
            | (go_at_call 62; go_must (refine (HND.out _ HK2.out).mono ?_; rintro e w3 ⟨rfl, k3⟩; have K3 := hid (HK2.out.tr k3 (fun _ h => h)); have bk3 := new_box (wr := wr) BK.out (by omega) k3 (fun _ h => h.elim); have ba3 := new_box (wr := wr) BA.out (by omega) k3 (fun _ h => h.elim); have ck3 := cell_of_heap bk3 0; have ca3 := cell_of_heap ba3 0; simp at ck3 ca3; have BK3 := hid bk3; clear bk3 ba3 k3))
            | (at_builtin; go_must (refine wpList_append_row _ rfl _ _ 32 rfl 9 i0 (.string ⟨#[]⟩) 1 16 Try.underlying32 hi hz0 hz1 hz2 rfl (.slice al (leftL R L k).length cl) (leftL R L k).length _ rfl ((HS.out.row.kept K3.out (fun _ _ h => h)).kept (Keeps.alloc (fun _ => False) _ _) (fun _ _ h => h)) ⟨w3.heap.size, 0, none⟩ 1 1 [.string key] rfl rfl (cell_one_new _ _ _) (by simp [Value.oneCell']) (by unfold maxLen; omega) (by omega) ?_; intro vl' w4 hown' hgrow _ hat; obtain ⟨gl, cl', rfl⟩ := hown'.succ; have S4 := hid ((HS.out.kept K3.out).note hlt2 HSTAY.out rfl (by rw [HKEY.out]; exact hown') hgrow hat); have bk4 := new_box (wr := wr) ((Below.heap_alloc _ (.cells #[.string key] 9) _ (Array.getElem?_eq_some_iff.1 BK3.out).1).trans BK3.out) (by omega) (Keeps.grown hgrow) (fun j e => HS.out.row.lt e.symm); have ck4 := cell_of_heap bk4 0; have cb4 := cell_of_heap S4.out.box 0; simp at ck4 cb4; have BK4 := hid bk4; clear bk4 hown' hgrow hat)))
          have S5 := hid (S4.out.stay hlt2 HNE.out)
          exact ⟨⟨k + 1, z, by omega, by go_num, rfl, _, _, _, S5.out⟩, by simp only [intOf]; omega⟩
        · have hndp : 0 < nd := by omega
          by_cases hnl : nd < x.vers.length
          · have HSTAY : Hid (staysB R L R.keys[k] = true) := by unfold Hid; rw [hst]; simpa using hnl
            obtain ⟨m, hm⟩ : ∃ m, x.vers.length = nd + (m + 1) := ⟨x.vers.length - nd - 1, by omega⟩
            have HLEN := hid hm
            have HLB : Hid (nd + (m + 1) < 1000000000000) := by have := vers_small2 HG.out key; rw [← HXV.out, hm] at this; show _ < _; omega
            have HTS : Hid (∀ W, StoreAt W { R with hist := hist } → Calls Try.prog 64 #[.pointer (some ⟨R.sb, 5, none⟩), .string key, .int .i64 (nd : Nat)] W fun e w' => e = .returned (.tuple #[]) ∧ ThrowPost { R with hist := hist } key nd W w') := fun W hW => throw_some { R with hist := hist } key x nd m W hW HX.out HLEN.out HLB.out
            clear hst hnd HLEN HLB
            generalize hln : x.vers.length = len at *
            have hlp2 : (0 : Int) < (nd : Int) := by omega
            have hln2 : (nd : Int) < (len : Int) := by omega
            clear hm
            go_wp2_with (first
              | (go_at_call 62; go_must (refine (HND.out _ HK2.out).mono ?_; rintro e w3 ⟨rfl, k3⟩; have K3 := hid (HK2.out.tr k3 (fun _ h => h)); have bk3 := new_box (wr := wr) BK.out (by omega) k3 (fun _ h => h.elim); have ba3 := new_box (wr := wr) BA.out (by omega) k3 (fun _ h => h.elim); have ck3 := cell_of_heap bk3 0; have ca3 := cell_of_heap ba3 0; simp at ck3 ca3; have BK3 := hid bk3; clear bk3 ba3 k3))
              | (at_builtin; go_must (refine wpList_append_row _ rfl _ _ 32 rfl 9 i0 (.string ⟨#[]⟩) 1 16 Try.underlying32 hi hz0 hz1 hz2 rfl (.slice al (leftL R L k).length cl) (leftL R L k).length _ rfl ((HS.out.row.kept K3.out (fun _ _ h => h)).kept (Keeps.alloc (fun _ => False) _ _) (fun _ _ h => h)) ⟨w3.heap.size, 0, none⟩ 1 1 [.string key] rfl rfl (cell_one_new _ _ _) (by simp [Value.oneCell']) (by unfold maxLen; omega) (by omega) ?_; intro vl' w4 hown' hgrow _ hat; obtain ⟨gl, cl', rfl⟩ := hown'.succ; have S4 := hid ((HS.out.kept K3.out).note hlt2 HSTAY.out rfl (by rw [HKEY.out]; exact hown') hgrow hat); have bk4 := new_box (wr := wr) ((Below.heap_alloc _ (.cells #[.string key] 9) _ (Array.getElem?_eq_some_iff.1 BK3.out).1).trans BK3.out) (by omega) (Keeps.grown hgrow) (fun j e => HS.out.row.lt e.symm); have ck4 := cell_of_heap bk4 0; have cb4 := cell_of_heap S4.out.box 0; simp at ck4 cb4; have BK4 := hid bk4; clear bk4 hown' hgrow hat))
              | (go_at_call 42; go_must (refine (undoBy_any cb fs C _ _ _ S4.out.chg (by have := S4.out.len; omega)).mono ?_; rintro e w5 ⟨rfl, C', hc5, k5, hC5⟩; have bk5 := new_box (wr := wr) BK4.out (by omega) k5 (fun j hj => HS.out.chg.lt j hj); have bp5 := (k5.block w.heap.size (Array.getElem?_eq_some_iff.1 S4.out.box).1 (fun hj => by rcases HS.out.cfr _ hj with h1 | h1; (have := HC.out.lt _ h1; omega); omega)).trans S4.out.box; have ck5 := cell_of_heap bk5 0; have cb5 := cell_of_heap bp5 0; simp at ck5 cb5; have HU := hid (And.intro hc5 (And.intro k5 hC5)); have ST5 := hid (S4.out.st.kept k5 (fun j hj hC => S4.out.apart j hC hj)); clear bk5 bp5 hc5 k5 hC5))
              | (go_at_call 64; go_must (refine (HTS.out w5 ST5.out).mono ?_; rintro e w6 ⟨rfl, ht6⟩; have HT6 := hid ht6; clear ht6)))
            obtain ⟨hist', S6⟩ := S4.out.thrown HT.out.rises hlt2 rfl (fun j hj => HC.out.lt j hj) HFL.out HU.out.1 (by simp) HU.out.2.1 HU.out.2.2 (by
              rw [HNE.out, HKEY.out]
              exact HT6.out)
            exact ⟨⟨k + 1, _, by omega, by go_num, rfl, _, _, _, S6⟩, by simp only [intOf]; omega⟩
          · have hnl2 : nd = x.vers.length := by omega
            have HSTAY : Hid (staysB R L R.keys[k] = false) := by unfold Hid; rw [hst]; simpa using hnl
            have HTS : Hid (∀ W, StoreAt W { R with hist := hist } → Calls Try.prog 64 #[.pointer (some ⟨R.sb, 5, none⟩), .string key, .int .i64 (nd : Nat)] W fun e w' => e = .returned (.tuple #[]) ∧ ThrowPost { R with hist := hist } key nd W w') := fun W hW => by
              have := throw_all { R with hist := hist } key x W hW HX.out
              rwa [← hnl2] at this
            clear hst hnd hnl hnle
            generalize hln : x.vers.length = len at *
            subst hnl2
            have hlp2 : (0 : Int) < (nd : Int) := by omega
            go_wp2_with (first
              | (go_at_call 62; go_must (refine (HND.out _ HK2.out).mono ?_; rintro e w3 ⟨rfl, k3⟩; have K3 := hid (HK2.out.tr k3 (fun _ h => h)); have bk3 := new_box (wr := wr) BK.out (by omega) k3 (fun _ h => h.elim); have ba3 := new_box (wr := wr) BA.out (by omega) k3 (fun _ h => h.elim); have ck3 := cell_of_heap bk3 0; have ca3 := cell_of_heap ba3 0; simp at ck3 ca3; have BK3 := hid bk3; have S3 := hid ((HS.out.kept K3.out).skip hlt2 HSTAY.out); have cb3 := cell_of_heap S3.out.box 0; simp at cb3; clear bk3 ba3 k3))
              | (go_at_call 42; go_must (refine (undoBy_any cb fs C _ _ _ S3.out.chg (by have := S3.out.len; omega)).mono ?_; rintro e w5 ⟨rfl, C', hc5, k5, hC5⟩; have bk5 := new_box (wr := wr) BK3.out (by omega) k5 (fun j hj => HS.out.chg.lt j hj); have bp5 := (k5.block w.heap.size (Array.getElem?_eq_some_iff.1 S3.out.box).1 (fun hj => by rcases HS.out.cfr _ hj with h1 | h1; (have := HC.out.lt _ h1; omega); omega)).trans S3.out.box; have ck5 := cell_of_heap bk5 0; have cb5 := cell_of_heap bp5 0; simp at ck5 cb5; have HU := hid (And.intro hc5 (And.intro k5 hC5)); have ST5 := hid (S3.out.st.kept k5 (fun j hj hC => S3.out.apart j hC hj)); clear bk5 bp5 hc5 k5 hC5))
              | (go_at_call 64; go_must (refine (HTS.out w5 ST5.out).mono ?_; rintro e w6 ⟨rfl, ht6⟩; have HT6 := hid ht6; clear ht6)))
            obtain ⟨hist', S6⟩ := S3.out.thrown HT.out.rises hlt2 rfl (fun j hj => HC.out.lt j hj) HFL.out HU.out.1 (by simp) HU.out.2.1 HU.out.2.2 (by
              rw [HNE.out, HKEY.out]
              exact HT6.out)
            exact ⟨⟨k + 1, _, by omega, by go_num, rfl, _, _, _, S6⟩, by simp only [intOf]; omega⟩
    · have e : k = R.keys.length := by omega
      have HSn : Hid (SweepS w R L cb fs0.length C0 w.heap.size R.keys.length R.keys.length hist fs C (.slice al (leftL R L k).length cl) wr) := by
        have := HS.out
        rw [e] at this ⊢
        exact this
      have c5r : wr.cell? ⟨R.sb, 5, none⟩ = some (.slice av R.keys.length cv) := by
        have := HSn.out.st.cell 5
        rw [this]
        simp [topCells, HKV.out]
      have cb0 := cell_of_heap HSn.out.box 0
      simp at cb0
      have hwsz := HSn.out.size
      have hsbC : R.sb ∉ C := fun hC => HSn.out.apart _ hC (by simp [Rep.fp])
      have hpC : w.heap.size ∉ C := fun hC => by
        rcases HSn.out.cfr _ hC with h1 | h1
        · have := HC.out.lt _ h1; omega
        · omega
      clear HS e HSM hlm
      have HUN := hid (undoBy_any cb fs C (.func 65) #[.pointer (some ⟨wr.heap.size, 0, none⟩), .pointer (some ⟨w.heap.size, 0, none⟩)] (wr.alloc (.cells #[.slice av R.keys.length cv] 32)) (HSn.out.chg.kept (Keeps.alloc (fun _ => False) _ _) (fun _ _ h => h)) (by have := HSn.out.len; omega))
      have hsbw : R.sb < wr.heap.size := HSn.out.st.lt
      go_wp2_with (go_at_call 42; go_must (refine (HUN.out).mono ?_; rintro e w5 ⟨rfl, C', hc5, k5, hC5⟩; have k5' : Keeps (· ∈ C) wr w5 := ((Keeps.refl _ wr).al _).tr k5 (fun _ h => h); have st5 := HSn.out.st.kept k5' (fun j hj hC => HSn.out.apart j hC hj); have cb5 := k5'.cell (p := ⟨w.heap.size, 0, none⟩) cb0 hpC; have c55 := k5'.cell (p := ⟨R.sb, 5, none⟩) c5r hsbC; have f55 : w5.frozen? ⟨R.sb, 5, none⟩ = false := st5.frozen 5; have ST5 := hid st5; have K5 := hid k5'; clear st5 k5 k5' hc5 hC5))
      go_ret
      obtain ⟨n1, n2⟩ := ST5.out.newKeys (vl := .slice al (leftL R L k).length cl) (ks := leftL R L R.keys.length) (HSn.out.row.kept K5.out (fun g hg hC => (HSn.out.own g hg).2.1 hC)) (fun g hg => (HSn.out.own g hg).2.2)
      refine ⟨_, rfl, hist, _, n1, fun k => ?_, HSn.out.some_, HSn.out.filled, ?_, fun k hk => ?_⟩
      · have := HSn.out.vers k
        rwa [List.take_length] at this
      · refine (HSn.out.keep.trans K5.out (fun k hk hC => ?_)).trans (Keeps.setCell _ _ _) (fun k hk e => .inl ?_)
        · rcases HSn.out.cfr k hC with h1 | h1
          · exact .inr h1
          · omega
        · have e' : k = R.sb := e
          rw [e']
          simp [Rep.fp]
      · rcases n2 k hk with h1 | h1
        · exact HSn.out.ffr k h1
        · exact .inr (HSn.out.own k h1).1

end Go.Proofs.Ythgojidgaeimnaa
