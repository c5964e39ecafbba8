import Derived.Test.YtpagenipflmlfaaGreatDoorM20

/- Sweep of what has been, walked. -/

namespace Go.Proofs.YtpagenipflmlfaaGreatDoor

open Go.RowKit Go.Shelf

theorem Tryz.infoStr : (Tryz.prog.info? 9).map (fun i => (i.zero, i.size, i.bytes)) = some (some (.string ⟨#[]⟩), 1, 16) := by kernel_rfl

/-- What Sweep of what has been leaves. -/
def PastSwept (R : Rep) (L : Int) (C0 : List Nat) (w w' : World) : Prop :=
  ∃ hist vl, StoreAt w' { R with kv := vl, keys := leftL R L R.keys.length, hist := hist } ∧ (∀ k, versOf hist k = if memB R.keys k then (versOf R.hist k).drop (needN (versOf R.hist k) L) else versOf R.hist k) ∧
    (∀ k, (look hist k).isSome = true → (look R.hist k).isSome = true) ∧ (∀ p ∈ hist, p.2.vers ≠ []) ∧ Keeps (fun k => k ∈ R.fp ∨ k ∈ C0) w w' ∧ ∀ k ∈ Rep.fp { R with kv := vl, keys := leftL R L R.keys.length, hist := hist }, k ∈ R.fp ∨ w.heap.size < k

/-- how many versions go of the first i keys -/
def thrownN (R : Rep) (L : Int) (i : Nat) : Nat := ((R.keys.take i).map (fun k => needN (versOf R.hist k) L)).sum

/-- how many versions there are -/
def Rep.total (R : Rep) : Nat := (R.keys.map (fun k => (versOf R.hist k).length)).sum

theorem thrownN_succ {R : Rep} {L : Int} {i : Nat} (hi : i < R.keys.length) : thrownN R L (i + 1) = thrownN R L i + needN (versOf R.hist R.keys[i]) L := by
  unfold thrownN
  rw [List.take_succ_eq_append_getElem hi, List.map_append, List.sum_append]
  simp only [List.map_cons, List.map_nil, List.sum_cons, List.sum_nil, Nat.add_zero]

theorem sum_map_le {α : Type} (f g : α → Nat) (h : ∀ a, f a ≤ g a) : ∀ l : List α, (l.map f).sum ≤ (l.map g).sum
  | [] => by simp
  | a :: l => by have := h a; have := sum_map_le f g h l; simp; omega

theorem sum_take_le {α : Type} (f : α → Nat) : ∀ (l : List α) (i : Nat), ((l.take i).map f).sum ≤ (l.map f).sum
  | [], i => by simp
  | a :: l, 0 => by simp
  | a :: l, i + 1 => by have := sum_take_le f l i; simp only [List.take_succ_cons, List.map_cons, List.sum_cons]; omega

theorem thrownN_le (R : Rep) (L : Int) (i : Nat) : thrownN R L i ≤ R.total := by
  unfold thrownN Rep.total
  refine Nat.le_trans (sum_map_le _ (fun k => (versOf R.hist k).length) (fun k => needN_le _ _) _) (sum_take_le _ _ _)

set_option maxRecDepth 100000 in
set_option maxHeartbeats 4000000 in
theorem pastSweep_any (R : Rep) (L : Int) (cb : Nat) (fs0 : List Value) (C0 : List Nat) (w : World) (h : StoreAt w R) (g : Good R) (t : Tied R) (hc : Chg w cb fs0 C0) (hap : ∀ k ∈ C0, k ∉ R.fp) (hl : fs0.length ≤ 10) (hkl : R.keys.length < 900000000000) (htot : R.total ≤ 1000000000000000) :
    Calls Tryz.prog 70 #[.pointer (some ⟨R.sb, 7, none⟩), .int .i64 L, .func (.func 53) #[.pointer (some ⟨cb, 0, none⟩)] #[]] w fun e w' => e = .returned (.int .i64 (thrownN R L R.keys.length)) ∧ PastSwept R L C0 w w' := by
  have hmf : ∀ (fn : Fn) (first cap : Array Value) (w : World), (Instr.makeFunc fn first cap).run Tryz.prog w = .ok (.func fn first cap) w := fun _ _ _ _ => rfl
  obtain ⟨av, cv, hkv, hkm, hsome⟩ := h.past.keysRow.form
  have c5 : w.cell? ⟨R.sb, 7, none⟩ = some (.slice av R.keys.length cv) := by rw [← hkv]; exact h.cell 7
  have hlt := h.lt
  have hfl := fp_lt h
  have hS0 : SweepS w R L cb fs0.length C0 w.heap.size 0 0 R.hist fs0 C0 (.slice none 0 0) (w.alloc (.cells #[.pointer (some ⟨R.sb, 7, none⟩)] 113)) := by
    have hk : Keeps (fun _ => False) w (w.alloc (.cells #[.pointer (some ⟨R.sb, 7, none⟩)] 113)) := Keeps.alloc _ _ _
    refine ⟨h.kept hk (fun _ _ h => h), fun k => by simp [memB], fun _ h => h, t.filled, Row.nil _ _ _, fun g hg => by simp [Value.ownBlock] at hg, hc.kept hk (fun _ _ h => h), by omega, fun k hk => .inl hk, fun k hk => .inl hk, hap, heap_new w _, hk.mono (fun _ _ h => h.elim), by simp⟩
  have HS0 := hid hS0
  have HST := hid h
  have HG := hid g
  have HT := hid t
  have HC := hid hc
  have HAP := hid hap
  have HKV := hid hkv
  have HSM := hid hsome
  have HFL := hid hfl
  have HTOT := hid htot
  clear hS0 h g t hc hap hkv hsome hfl htot
  go_enter Tryz.func70, Tryz.ntmps70
  go_wp2_with fail
  go_loopw [7, 8, 19] (fun th vl i wr => ∃ (k : Nat) (z : Int), k ≤ R.keys.length ∧ i = .int .i64 k ∧ th = .int .i64 z ∧ z = (thrownN R L k : Nat) ∧ ∃ hist fs C, SweepS w R L cb fs0.length C0 w.heap.size k k hist fs C vl wr) (fun _ _ i _ => R.keys.length - (intOf i).toNat)
  case atStart => exact ⟨0, 0, Nat.zero_le _, rfl, rfl, rfl, _, _, _, HS0.out⟩
  case round =>
    obtain ⟨k, z, hk, rfl, rfl, hzz, hist, fs, C, hS⟩ := hrel
    have hzb0 : 0 ≤ z := by rw [hzz]; omega
    have hzb1 : z ≤ 1000000000000000 := by rw [hzz]; have := thrownN_le R L k; have := HTOT.out; omega
    have HZ := hid hzz
    clear hzz
    have HS := hid hS
    clear hS HS0
    obtain ⟨al, cl, rfl, hlm, -⟩ := HS.out.row.form
    by_cases hlt2 : k < R.keys.length
    · obtain ⟨ga, rfl⟩ := HSM.out (by omega)
      have hrow := HS.out.st.past.keysRow
      simp only at hrow
      rw [HKV.out] at hrow
      obtain ⟨key, hkey⟩ : ∃ key, R.keys[k] = key := ⟨_, rfl⟩
      have ck : wr.cell? ⟨ga, k, none⟩ = some (.string key) := by
        rw [hrow.cellAt k (by omega)]
        simp [hlt2, hkey]
      have hkm2 : key ∈ R.keys := hkey ▸ List.getElem_mem hlt2
      have hni : memB (R.keys.take k) key = false := by
        cases hm : memB (R.keys.take k) key with
        | false => rfl
        | true =>
          have hm' := (memB_iff _ _).1 hm
          obtain ⟨q, hq, e⟩ := List.getElem_of_mem hm'
          simp only [List.length_take] at hq
          rw [List.getElem_take, ← hkey] at e
          have := (List.getElem_inj (rises_nodup HT.out.rises)).1 e
          omega
      have hvk : versOf hist key = versOf R.hist key := by rw [HS.out.vers, hni]; simp
      have hvne := vers_ne HT.out hkm2
      obtain ⟨x, hx, hxv⟩ : ∃ x, look hist key = some x ∧ x.vers = versOf R.hist key := by
        rw [← hvk]
        cases hl : look hist key with
        | none => rw [← hvk] at hvne; unfold versOf at hvne; rw [hl] at hvne; simp at hvne
        | some x => exact ⟨x, rfl, by unfold versOf; rw [hl]; rfl⟩
      obtain ⟨b, hvm, hM, c6, hsb, hbs, hkvb⟩ := throw_setup (R := { R with hist := hist }) HS.out.st hx
      have hrx := HS.out.st.past.histEach _ (look_mem hx)
      simp only at hrx
      obtain ⟨a2, c2, hxs, hxm, -⟩ := hrx.form
      obtain ⟨g1, g2⟩ := HG.out.vers key
      rw [← hxv] at g1 g2
      have HLKK : Hid (∀ W, Keeps (fun _ => False) wr W → (Instr.lookup 61 (.map (some b)) (.string key) false).run Tryz.prog W = .ok (.slice a2 x.vers.length c2) W) := fun W hk => by
        have := (hM.kept hk (fun h => h)).lookup (P := Tryz.prog) (t := 61) strKeyOk Tryz.underlying61 Tryz.underlying9 (Tryz.zeroVersions W) key false
        rw [look_map, hx] at this
        simp only [Option.map_some, Option.getD_some, hxs] at this
        exact this
      rw [hxs] at hrx
      have HND : Hid (∀ W, Keeps (fun _ => False) wr W → Calls Tryz.prog 102 #[.slice a2 x.vers.length c2, .int .i64 L] W fun e w' => e = .returned (.int .i64 (needN x.vers L : Nat)) ∧ Keeps (fun _ => False) W w') := fun W hk => needless_any _ _ _ W (hrx.kept hk (fun _ _ h => h)) g1 (by omega)
      have cb0 := cell_of_heap HS.out.box 0
      simp at cb0
      have hwsz := HS.out.size
      have HX := hid hx
      have HXV := hid hxv
      have HKEY := hid hkey
      have HVNE := hid hvne
      have HHK := hid (And.intro g1 g2)
      clear hrow hkm2 hni hvk hvne hx hxv hM hbs hkvb hrx g1 g2 hxs hkey HSM
      go_wp2_with fail
      have hlk1 := HLKK.out ((wr.alloc (.cells #[.string key] 9)).drew) (((Keeps.refl (fun _ => False) wr).al _).dr)
      have hlk2 := fun o => HLKK.out (((wr.alloc (.cells #[.string key] 9)).alloc o).drew) ((((Keeps.refl (fun _ => False) wr).al _).al _).dr)
      go_region_held3 (fun W => W.cell? ⟨w.heap.size, 0, none⟩ = some (.pointer (some ⟨R.sb, 7, none⟩)) ∧ W.cell? ⟨wr.heap.size, 0, none⟩ = some (.string key) ∧ W.cell? ⟨R.sb, 8, none⟩ = some (.map (some b))) (go_keep) (fail)
      all_goals
        obtain ⟨i0, hi, hz0, hz1, hz2⟩ := info_parts Tryz.infoStr
        have HK2 : Hid (Keeps (fun _ => False) wr (((wr.alloc (.cells #[.string key] 9)).alloc (.cells #[.slice a2 x.vers.length c2] 114)).drew)) := (((Keeps.refl _ wr).al _).al _).dr
        have BK : Hid ((((wr.alloc (.cells #[.string key] 9)).alloc (.cells #[.slice a2 x.vers.length c2] 114)).drew).heap[wr.heap.size]? = some (.cells #[.string key] 9 (0, 0))) := (Below.heap_alloc _ _ _ (by simp)).trans (heap_new wr _)
        have BA : Hid ((((wr.alloc (.cells #[.string key] 9)).alloc (.cells #[.slice a2 x.vers.length c2] 114)).drew).heap[wr.heap.size + 1]? = some (.cells #[.slice a2 x.vers.length c2] 114 (0, 0))) := by
          have := heap_new (wr.alloc (.cells #[.string key] 9)) (.cells #[.slice a2 x.vers.length c2] 114)
          rw [World.size_alloc] at this
          exact this
        have hnle := needN_le x.vers L
        have hlpos : 0 < x.vers.length := by
          have := HVNE.out
          rw [← HXV.out] at this
          exact List.length_pos_iff.2 this
        have hxb := HHK.out.2
        have hst : staysB R L R.keys[k] = decide (needN x.vers L < x.vers.length) := by unfold staysB; rw [HKEY.out, HXV.out]
        have hlf : (leftL R L k).length ≤ k := by
          unfold leftL
          exact Nat.le_trans (List.length_filter_le _ _) (List.length_take_le _ _)
        clear hlk1 hlk2 HLKK ck cb0 c6
        obtain ⟨nd, hnd⟩ : ∃ nd, needN x.vers L = nd := ⟨_, rfl⟩
        have HNE : Hid (needN (versOf R.hist R.keys[k]) L = nd) := by unfold Hid; rw [HKEY.out, ← HXV.out, hnd]
        rw [hnd] at HND hnle hst
        by_cases hn0 : nd = 0
        · subst hn0
          have HSTAY : Hid (staysB R L R.keys[k] = true) := by unfold Hid; rw [hst]; simpa using hlpos
          clear hst hnd
          generalize hln : x.vers.length = len at *
          go_wp2_with (first
            | (go_at_call 102; go_must (refine (HND.out _ HK2.out).mono ?_; rintro e w3 ⟨rfl, k3⟩; have K3 := hid (HK2.out.tr k3 (fun _ h => h)); have bk3 := new_box (wr := wr) BK.out (by omega) k3 (fun _ h => h.elim); have ba3 := new_box (wr := wr) BA.out (by omega) k3 (fun _ h => h.elim); have ck3 := cell_of_heap bk3 0; have ca3 := cell_of_heap ba3 0; simp at ck3 ca3; have BK3 := hid bk3; clear bk3 ba3 k3))
            | (at_builtin; go_must (refine wpList_append_row _ rfl _ _ 43 rfl 9 i0 (.string ⟨#[]⟩) 1 16 Tryz.underlying43 hi hz0 hz1 hz2 rfl (.slice al (leftL R L k).length cl) (leftL R L k).length _ rfl ((HS.out.row.kept K3.out (fun _ _ h => h)).kept (Keeps.alloc (fun _ => False) _ _) (fun _ _ h => h)) ⟨w3.heap.size, 0, none⟩ 1 1 [.string key] rfl rfl (cell_one_new _ _ _) (by simp [Value.oneCell']) (by unfold maxLen; omega) (by omega) ?_; intro vl' w4 hown' hgrow _ hat; obtain ⟨gl, cl', rfl⟩ := hown'.succ; have S4 := hid ((HS.out.kept K3.out).note hlt2 HSTAY.out rfl (by rw [HKEY.out]; exact hown') hgrow hat); have bk4 := new_box (wr := wr) ((Below.heap_alloc _ (.cells #[.string key] 9) _ (Array.getElem?_eq_some_iff.1 BK3.out).1).trans BK3.out) (by omega) (Keeps.grown hgrow) (fun j e => HS.out.row.lt e.symm); have ck4 := cell_of_heap bk4 0; have cb4 := cell_of_heap S4.out.box 0; simp at ck4 cb4; have BK4 := hid bk4; clear bk4 hown' hgrow hat)))
          have S5 := hid (S4.out.stay hlt2 HNE.out)
          exact ⟨⟨k + 1, z, by omega, by go_num, rfl, by rw [HZ.out, thrownN_succ hlt2, HNE.out]; rfl, _, _, _, S5.out⟩, by simp only [intOf]; omega⟩
        · have hndp : 0 < nd := by omega
          by_cases hnl : nd < x.vers.length
          · have HSTAY : Hid (staysB R L R.keys[k] = true) := by unfold Hid; rw [hst]; simpa using hnl
            obtain ⟨m, hm⟩ : ∃ m, x.vers.length = nd + (m + 1) := ⟨x.vers.length - nd - 1, by omega⟩
            have HLEN := hid hm
            have HLB : Hid (nd + (m + 1) < 1000000000000) := by have := vers_small2 HG.out key; rw [← HXV.out, hm] at this; show _ < _; omega
            have HTS : Hid (∀ W, StoreAt W { R with hist := hist } → Calls Tryz.prog 104 #[.pointer (some ⟨R.sb, 7, none⟩), .string key, .int .i64 (nd : Nat)] W fun e w' => e = .returned (.tuple #[]) ∧ ThrowPost { R with hist := hist } key nd W w') := fun W hW => throw_some { R with hist := hist } key x nd m W hW HX.out HLEN.out HLB.out
            clear hst hnd HLEN HLB
            generalize hln : x.vers.length = len at *
            have hlp2 : (0 : Int) < (nd : Int) := by omega
            have hln2 : (nd : Int) < (len : Int) := by omega
            clear hm
            go_wp2_with (first
              | (go_at_call 102; go_must (refine (HND.out _ HK2.out).mono ?_; rintro e w3 ⟨rfl, k3⟩; have K3 := hid (HK2.out.tr k3 (fun _ h => h)); have bk3 := new_box (wr := wr) BK.out (by omega) k3 (fun _ h => h.elim); have ba3 := new_box (wr := wr) BA.out (by omega) k3 (fun _ h => h.elim); have ck3 := cell_of_heap bk3 0; have ca3 := cell_of_heap ba3 0; simp at ck3 ca3; have BK3 := hid bk3; clear bk3 ba3 k3))
              | (at_builtin; go_must (refine wpList_append_row _ rfl _ _ 43 rfl 9 i0 (.string ⟨#[]⟩) 1 16 Tryz.underlying43 hi hz0 hz1 hz2 rfl (.slice al (leftL R L k).length cl) (leftL R L k).length _ rfl ((HS.out.row.kept K3.out (fun _ _ h => h)).kept (Keeps.alloc (fun _ => False) _ _) (fun _ _ h => h)) ⟨w3.heap.size, 0, none⟩ 1 1 [.string key] rfl rfl (cell_one_new _ _ _) (by simp [Value.oneCell']) (by unfold maxLen; omega) (by omega) ?_; intro vl' w4 hown' hgrow _ hat; obtain ⟨gl, cl', rfl⟩ := hown'.succ; have S4 := hid ((HS.out.kept K3.out).note hlt2 HSTAY.out rfl (by rw [HKEY.out]; exact hown') hgrow hat); have bk4 := new_box (wr := wr) ((Below.heap_alloc _ (.cells #[.string key] 9) _ (Array.getElem?_eq_some_iff.1 BK3.out).1).trans BK3.out) (by omega) (Keeps.grown hgrow) (fun j e => HS.out.row.lt e.symm); have ck4 := cell_of_heap bk4 0; have cb4 := cell_of_heap S4.out.box 0; simp at ck4 cb4; have BK4 := hid bk4; clear bk4 hown' hgrow hat))
              | (go_at_call 53; go_must (refine (undoBy_any cb fs C _ _ _ S4.out.chg (by have := S4.out.len; omega)).mono ?_; rintro e w5 ⟨rfl, C', hc5, k5, hC5⟩; have bk5 := new_box (wr := wr) BK4.out (by omega) k5 (fun j hj => HS.out.chg.lt j hj); have bp5 := (k5.block w.heap.size (Array.getElem?_eq_some_iff.1 S4.out.box).1 (fun hj => by rcases HS.out.cfr _ hj with h1 | h1; (have := HC.out.lt _ h1; omega); omega)).trans S4.out.box; have ck5 := cell_of_heap bk5 0; have cb5 := cell_of_heap bp5 0; simp at ck5 cb5; have HU := hid (And.intro hc5 (And.intro k5 hC5)); have ST5 := hid (S4.out.st.kept k5 (fun j hj hC => S4.out.apart j hC hj)); clear bk5 bp5 hc5 k5 hC5))
              | (go_at_call 104; go_must (refine (HTS.out w5 ST5.out).mono ?_; rintro e w6 ⟨rfl, ht6⟩; have HT6 := hid ht6; clear ht6)))
            obtain ⟨hist', S6⟩ := S4.out.thrown HT.out.rises hlt2 rfl (fun j hj => HC.out.lt j hj) HFL.out HU.out.1 (by simp) HU.out.2.1 HU.out.2.2 (by
              rw [HNE.out, HKEY.out]
              exact HT6.out)
            exact ⟨⟨k + 1, _, by omega, by go_num, rfl, by rw [HZ.out, thrownN_succ hlt2, HNE.out]; omega, _, _, _, S6⟩, by simp only [intOf]; omega⟩
          · have hnl2 : nd = x.vers.length := by omega
            have HSTAY : Hid (staysB R L R.keys[k] = false) := by unfold Hid; rw [hst]; simpa using hnl
            have HTS : Hid (∀ W, StoreAt W { R with hist := hist } → Calls Tryz.prog 104 #[.pointer (some ⟨R.sb, 7, none⟩), .string key, .int .i64 (nd : Nat)] W fun e w' => e = .returned (.tuple #[]) ∧ ThrowPost { R with hist := hist } key nd W w') := fun W hW => by
              have := throw_all { R with hist := hist } key x W hW HX.out
              rwa [← hnl2] at this
            clear hst hnd hnl hnle
            generalize hln : x.vers.length = len at *
            subst hnl2
            have hlp2 : (0 : Int) < (nd : Int) := by omega
            go_wp2_with (first
              | (go_at_call 102; go_must (refine (HND.out _ HK2.out).mono ?_; rintro e w3 ⟨rfl, k3⟩; have K3 := hid (HK2.out.tr k3 (fun _ h => h)); have bk3 := new_box (wr := wr) BK.out (by omega) k3 (fun _ h => h.elim); have ba3 := new_box (wr := wr) BA.out (by omega) k3 (fun _ h => h.elim); have ck3 := cell_of_heap bk3 0; have ca3 := cell_of_heap ba3 0; simp at ck3 ca3; have BK3 := hid bk3; have S3 := hid ((HS.out.kept K3.out).skip hlt2 HSTAY.out); have cb3 := cell_of_heap S3.out.box 0; simp at cb3; clear bk3 ba3 k3))
              | (go_at_call 53; go_must (refine (undoBy_any cb fs C _ _ _ S3.out.chg (by have := S3.out.len; omega)).mono ?_; rintro e w5 ⟨rfl, C', hc5, k5, hC5⟩; have bk5 := new_box (wr := wr) BK3.out (by omega) k5 (fun j hj => HS.out.chg.lt j hj); have bp5 := (k5.block w.heap.size (Array.getElem?_eq_some_iff.1 S3.out.box).1 (fun hj => by rcases HS.out.cfr _ hj with h1 | h1; (have := HC.out.lt _ h1; omega); omega)).trans S3.out.box; have ck5 := cell_of_heap bk5 0; have cb5 := cell_of_heap bp5 0; simp at ck5 cb5; have HU := hid (And.intro hc5 (And.intro k5 hC5)); have ST5 := hid (S3.out.st.kept k5 (fun j hj hC => S3.out.apart j hC hj)); clear bk5 bp5 hc5 k5 hC5))
              | (go_at_call 104; go_must (refine (HTS.out w5 ST5.out).mono ?_; rintro e w6 ⟨rfl, ht6⟩; have HT6 := hid ht6; clear ht6)))
            obtain ⟨hist', S6⟩ := S3.out.thrown HT.out.rises hlt2 rfl (fun j hj => HC.out.lt j hj) HFL.out HU.out.1 (by simp) HU.out.2.1 HU.out.2.2 (by
              rw [HNE.out, HKEY.out]
              exact HT6.out)
            exact ⟨⟨k + 1, _, by omega, by go_num, rfl, by rw [HZ.out, thrownN_succ hlt2, HNE.out]; omega, _, _, _, S6⟩, by simp only [intOf]; omega⟩
    · have e : k = R.keys.length := by omega
      have HSn : Hid (SweepS w R L cb fs0.length C0 w.heap.size R.keys.length R.keys.length hist fs C (.slice al (leftL R L k).length cl) wr) := by
        have := HS.out
        rw [e] at this ⊢
        exact this
      have c5r : wr.cell? ⟨R.sb, 7, none⟩ = some (.slice av R.keys.length cv) := by
        have := HSn.out.st.cell 7
        rw [this]
        simp [topCells, HKV.out]
      have cb0 := cell_of_heap HSn.out.box 0
      simp at cb0
      have hwsz := HSn.out.size
      have hsbC : R.sb ∉ C := fun hC => HSn.out.apart _ hC (by simp [Rep.fp])
      have hpC : w.heap.size ∉ C := fun hC => by
        rcases HSn.out.cfr _ hC with h1 | h1
        · have := HC.out.lt _ h1; omega
        · omega
      have HKE := hid e
      clear HS e HSM hlm
      have HUN := hid (undoBy_any cb fs C (.func 105) #[.pointer (some ⟨wr.heap.size, 0, none⟩), .pointer (some ⟨w.heap.size, 0, none⟩)] (wr.alloc (.cells #[.slice av R.keys.length cv] 43)) (HSn.out.chg.kept (Keeps.alloc (fun _ => False) _ _) (fun _ _ h => h)) (by have := HSn.out.len; omega))
      have hsbw : R.sb < wr.heap.size := HSn.out.st.lt
      go_wp2_with (go_at_call 53; go_must (refine (HUN.out).mono ?_; rintro e w5 ⟨rfl, C', hc5, k5, hC5⟩; have k5' : Keeps (· ∈ C) wr w5 := ((Keeps.refl _ wr).al _).tr k5 (fun _ h => h); have st5 := HSn.out.st.kept k5' (fun j hj hC => HSn.out.apart j hC hj); have cb5 := k5'.cell (p := ⟨w.heap.size, 0, none⟩) cb0 hpC; have c55 := k5'.cell (p := ⟨R.sb, 7, none⟩) c5r hsbC; have f55 : w5.frozen? ⟨R.sb, 7, none⟩ = false := st5.frozen 7; have ST5 := hid st5; have K5 := hid k5'; clear st5 k5 k5' hc5 hC5))
      go_ret
      obtain ⟨n1, n2⟩ := ST5.out.newKeys (vl := .slice al (leftL R L k).length cl) (ks := leftL R L R.keys.length) (HSn.out.row.kept K5.out (fun g hg hC => (HSn.out.own g hg).2.1 hC)) (fun g hg => (HSn.out.own g hg).2.2)
      refine ⟨ret_int (by rw [HZ.out, HKE.out]), hist, _, n1, fun k => ?_, HSn.out.some_, HSn.out.filled, ?_, fun k hk => ?_⟩
      · have := HSn.out.vers k
        rwa [List.take_length] at this
      · refine (HSn.out.keep.trans K5.out (fun k hk hC => ?_)).trans (Keeps.setCell _ _ _) (fun k hk e => .inl ?_)
        · rcases HSn.out.cfr k hC with h1 | h1
          · exact .inr h1
          · omega
        · have e' : k = R.sb := e
          rw [e']
          simp [Rep.fp]
      · rcases n2 k hk with h1 | h1
        · exact HSn.out.ffr k h1
        · exact .inr (HSn.out.own k h1).1

end Go.Proofs.YtpagenipflmlfaaGreatDoor

/- The least state that is held. -/

namespace Go.Proofs.YtpagenipflmlfaaGreatDoor

open Go.RowKit Go.Shelf

/-- L is the least of now and of where the works began. -/
def IsLeast (now : Int) (bs : List Int) (L : Int) : Prop := L ≤ now ∧ (∀ b ∈ bs, L ≤ b) ∧ (L = now ∨ L ∈ bs)

theorem mem_del {α β : Type} [DecidableEq α] : ∀ {l : List (α × β)} {k : α} {q : α × β}, q ∈ l → q.1 ≠ k → q ∈ del l k
  | [], _, _, h, _ => by cases h
  | (a, x) :: r, k, q, h, hne => by
    unfold del
    by_cases e : a = k
    · rw [if_pos e]
      rcases List.mem_cons.1 h with rfl | h1
      · exact absurd e hne
      · exact h1
    · rw [if_neg e]
      rcases List.mem_cons.1 h with rfl | h1
      · simp
      · exact List.mem_cons_of_mem _ (mem_del h1 hne)

theorem min_int (x y : Int) (W : World) : (Builtin.min_ #[3, 3] 3 #[.int .i64 x, .int .i64 y]).run Tryz.prog W = .ok (.int .i64 (if y < x then y else x)) W := by
  simp [Builtin.min_, Builtin.min2]

/-- A range over a map that may be nil. -/
def OptIter {α : Type} (mk : α → Value) (w : World) (r : Nat) (ob : Option Nat) (l left : List (α × Value)) : Prop :=
  match ob with
  | none => l = [] ∧ left = [] ∧ w.heap[r]? = some (.mapIter none 0 #[] 0)
  | some b => IterAt mk w r b l left

/-- how many are left -/
def optLeft (ob : Option Nat) (r : Nat) (w : World) : Nat :=
  match ob with
  | none => 0
  | some b => w.rangeLeft b r

theorem OptIter.left_eq {α : Type} {mk : α → Value} {w : World} {r : Nat} {ob : Option Nat} {l left : List (α × Value)} (h : OptIter mk w r ob l left) : optLeft ob r w = left.length := by
  cases ob with
  | none => obtain ⟨_, rfl, _⟩ := h; rfl
  | some b => exact IterAt.left_eq h

theorem IterAt.kept' {α : Type} {mk : α → Value} {w w' : World} {r b : Nat} {l left : List (α × Value)} {S : Nat → Prop} (h : IterAt mk w r b l left) (hk : Keeps S w w') (hr : ¬ S r) (hb : ¬ S b) : IterAt mk w' r b l left := by
  obtain ⟨es, clock, since, seen, h1, h2, h3, h4, h5⟩ := h
  exact ⟨es, clock, since, seen, (hk.block b (Array.getElem?_eq_some_iff.1 h1).1 hb).trans h1, h2, h3, (hk.block r (Array.getElem?_eq_some_iff.1 h4).1 hr).trans h4, h5⟩

theorem OptIter.kept {α : Type} {mk : α → Value} {w w' : World} {r : Nat} {ob : Option Nat} {l left : List (α × Value)} {S : Nat → Prop} (h : OptIter mk w r ob l left) (hk : Keeps S w w') (hr : ¬ S r) (hb : ∀ b, ob = some b → ¬ S b) : OptIter mk w' r ob l left := by
  cases ob with
  | none =>
    obtain ⟨h1, h2, h3⟩ := h
    exact ⟨h1, h2, (hk.block r (Array.getElem?_eq_some_iff.1 h3).1 hr).trans h3⟩
  | some b => exact IterAt.kept' h hk hr (hb b rfl)

section

variable {P : Program} {α : Type} [DecidableEq α] {d : TypeDesc} {mk : α → Value} (w : World) {ops : Array Oper} {rest : List Oper} {o : Oper} {a : Act} {Q : Exit → Act → World → Prop}

theorem wpList_range_opt (hg : o.guard = none) (m : Operand) (t : TypeId) (hop : o.op = Op.range t m) (kt e : TypeId) (ht : P.underlying t = some (.map kt e))
    (ob : Option Nat) (hm : a.eval m = .map ob) (l : List (α × Value)) (hown : OptMap mk w ob l)
    (hK : ∀ w', OptIter mk w' w.heap.size ob l l → Keeps (fun _ => False) w w' → w'.heap.size = w.heap.size + 1 → wpList P ops Q rest (a.put o.dst (.pointer (some ⟨w.heap.size, 0, none⟩))) w') : wpList P ops Q (o :: rest) a w := by
  cases ob with
  | some b => exact wpList_range_at w hg m t hop kt e ht b hm l hown hK
  | none =>
    refine wpList_plain hg fun K' hK' => ?_
    have h' : l = [] := hown
    unfold Oper.wp
    simp [execOp, hop, hm, range_nil ht w, Result.andThen]
    exact hK' _ _ (hK _ ⟨h', h', heap_new w _⟩ (Keeps.alloc _ _ _) (by simp))

theorem wpList_next_opt (hg : o.guard = none) (it : Operand) (hop : o.op = Op.next it false) (K : KeyOk d mk) (ob : Option Nat) (r : Nat) (hit : a.eval it = .pointer (some ⟨r, 0, none⟩)) (l left : List (α × Value)) (h : OptIter mk w r ob l left)
    (hDone : left = [] → wpList P ops Q rest (a.put o.dst (.tuple #[.bool false])) w)
    (hMore : ∀ k v w', (k, v) ∈ left → OptIter mk w' r ob l (del left k) → Keeps (· = r) w w' → w'.heap.size = w.heap.size → (Instr.entry (.pointer (some ⟨r, 0, none⟩))).run P w' = .ok (.tuple #[mk k, v]) w' → wpList P ops Q rest (a.put o.dst (.tuple #[.bool true, mk k, v])) w') :
    wpList P ops Q (o :: rest) a w := by
  cases ob with
  | some b => exact wpList_next_at w hg it hop K b r hit l left h hDone hMore
  | none =>
    refine wpList_plain hg fun K' hK' => ?_
    obtain ⟨_, h2, h3⟩ := h
    unfold Oper.wp
    simp [execOp, hop, hit, next_nil (P := P) o.type w h3, Result.andThen]
    exact hK' _ _ (hDone h2)

end

/-- A range that looks for the least. -/
structure LInv {α β : Type} [DecidableEq α] (ps : List (α × β)) (val : β → Value) (f : α × β → Int) (c0 : Int) (left : List (α × Value)) (c : Int) : Prop where
  le : c ≤ c0
  at_ : c = c0 ∨ c ∈ ps.map f
  seen : ∀ p ∈ ps, (p.1, val p.2) ∉ left → c ≤ f p
  sub : ∀ q ∈ left, q ∈ ps.map (fun p => (p.1, val p.2))

theorem LInv.start {α β : Type} [DecidableEq α] (ps : List (α × β)) (val : β → Value) (f : α × β → Int) (c0 : Int) : LInv ps val f c0 (ps.map fun p => (p.1, val p.2)) c0 :=
  ⟨Int.le_refl _, .inl rfl, fun p hp hn => absurd (List.mem_map.2 ⟨p, hp, rfl⟩) hn, fun _ hq => hq⟩

theorem LInv.step {α β : Type} [DecidableEq α] {ps : List (α × β)} {val : β → Value} {f : α × β → Int} {c0 c c' : Int} {left : List (α × Value)} {p : α × β} (hn : (ps.map (·.1)).Nodup) (h : LInv ps val f c0 left c) (hp : p ∈ ps) (e : c' = if f p < c then f p else c) : LInv ps val f c0 (del left p.1) c' := by
  obtain ⟨q1, q2, q3, q4⟩ := h
  refine ⟨by split at e <;> omega, ?_, fun p' hp' hn' => ?_, fun q hq => q4 q ((del_sublist _ _).subset hq)⟩
  · split at e
    · right; rw [e]; exact List.mem_map.2 ⟨p, hp, rfl⟩
    · rw [e]; exact q2
  · by_cases ek : p'.1 = p.1
    · have epp : p' = p := by
        have h1 := look_of_mem hn (k := p'.1) (v := p'.2) hp'
        have h2 := look_of_mem hn (k := p.1) (v := p.2) hp
        rw [ek, h2] at h1
        simp only [Option.some.injEq] at h1
        exact Prod.ext ek h1.symm
      rw [epp]
      split at e <;> omega
    · have h1 := q3 p' hp' (fun hm => hn' (mem_del hm ek))
      split at e <;> omega

theorem LInv.done {α β : Type} [DecidableEq α] {ps : List (α × β)} {val : β → Value} {f : α × β → Int} {c0 c : Int} {left : List (α × Value)} (h : LInv ps val f c0 left c) (hl : left = []) : IsLeast c0 (ps.map f) c := by
  refine ⟨h.le, fun b hb => ?_, h.at_⟩
  obtain ⟨p, hp, rfl⟩ := List.mem_map.1 hb
  exact h.seen p hp (by rw [hl]; simp)

theorem IsLeast.more {a c e : Int} {bs ds : List Int} (h : IsLeast a bs c) (k : IsLeast c ds e) : IsLeast a (bs ++ ds) e := by
  obtain ⟨h1, h2, h3⟩ := h
  obtain ⟨k1, k2, k3⟩ := k
  refine ⟨by omega, fun b hb => ?_, ?_⟩
  · rcases List.mem_append.1 hb with hb | hb
    · have := h2 b hb; omega
    · exact k2 b hb
  · rcases k3 with rfl | k3
    · rcases h3 with rfl | h3
      · exact .inl rfl
      · exact .inr (List.mem_append_left _ h3)
    · exact .inr (List.mem_append_right _ k3)

/-- the least state that a copying needs -/
def Cop.need (x : Cop) : Int := if x.full then x.to else x.from'

/-- the states that are held, but for the last -/
def Rep.held (R : Rep) : List Int := R.works.map (fun p => p.2.began) ++ R.pins.map (fun p => p.1) ++ R.copyings.map (fun p => p.2.need)

set_option maxRecDepth 100000 in
set_option maxHeartbeats 400000 in
theorem leastNeeded_any (x : Cop) (w : World) :
    Calls Tryz.prog 101 #[x.val] w fun e w' => e = .returned (.int .i64 x.need) ∧ Keeps (fun _ => False) w w' := by
  obtain ⟨full, fr, to, hd, nx, sm, ct⟩ := x
  unfold Cop.val Cop.need
  cases full
  all_goals
    go_enter Tryz.func101, Tryz.ntmps101
    go_wp2
    go_ret
    exact ⟨rfl, Keeps.alloc _ _ _⟩

theorem pins_nodup {w : World} {R : Rep} (h : StoreAt w R) : (R.pins.map (·.1)).Nodup := by
  have := h.works.pinsMap.nodup
  simpa [List.map_map, Function.comp_def] using this

theorem copies_nodup {w : World} {R : Rep} (h : StoreAt w R) : (R.copyings.map (·.1)).Nodup := by
  have := h.works.copyMap.nodup
  simpa [List.map_map, Function.comp_def] using this

set_option maxRecDepth 100000 in
set_option maxHeartbeats 1000000 in
theorem leastHeld_any (R : Rep) (w : World) (h : StoreAt w R) :
    Calls Tryz.prog 69 #[.pointer (some ⟨R.sb, 0, none⟩)] w fun e w' => ∃ L : Int, e = .returned (.int .i64 L) ∧ IsLeast R.now R.held L ∧ Keeps (fun _ => False) w w' := by
  have c0 : w.cell? ⟨R.sb, 0, none⟩ = some (.int .i64 R.now) := h.cell 0
  have c3 : w.cell? ⟨R.sb, 3, none⟩ = some (.map R.wm) := h.cell 3
  have c4 : w.cell? ⟨R.sb, 4, none⟩ = some (.map R.pm) := h.cell 4
  have c6 : w.cell? ⟨R.sb, 6, none⟩ = some (.map R.cm) := h.cell 6
  have hlt := h.lt
  have HST := hid h
  clear h
  go_enter Tryz.func69, Tryz.ntmps69
  go_wp2_with (at_range; go_must (refine wpList_range_opt _ rfl _ 58 rfl 3 101 Tryz.underlying58 R.wm rfl _ HST.out.works.worksMap ?_; intro w1 hit hk1 hz1))
  go_frame
  go_loopw [3] (fun i wr => ∃ (c : Int) (left : List (Int × Value)), i = .int .i64 c ∧ OptIter (Value.int .i64) wr w.heap.size R.wm (R.works.map fun p => (p.1, workPtr p.2)) left ∧ Keeps (fun _ => False) w wr ∧ w.heap.size < wr.heap.size ∧ LInv R.works workPtr (fun p => p.2.began) R.now left c) (fun _ wr => optLeft R.wm w.heap.size wr)
  case atStart => exact ⟨R.now, _, rfl, hit, hk1, by omega, LInv.start _ _ _ _⟩
  case round =>
    obtain ⟨c, left, rfl, hit', hkr, hzr, hc⟩ := hrel
    clear hit hk1 hz1 w1
    have d4 := hkr.cell (p := ⟨R.sb, 4, none⟩) c4 (fun h => h)
    have HC := hid hc
    clear hc
    go_wp2_with (at_next; go_must (refine wpList_next_opt _ rfl _ rfl intKeyOk R.wm w.heap.size rfl _ _ hit' ?_ ?_))
    · intro hnil
      obtain ⟨wA, rfl⟩ : ∃ x, x = wr := ⟨_, rfl⟩
      have HD := hid (HC.out.done hnil)
      have HKR := hid hkr
      clear hnil hit' c0 c3 HC
      go_wp2_with (at_range; go_must (refine wpList_range_opt _ rfl _ 59 rfl 3 3 Tryz.underlying59 R.pm rfl _ (HST.out.works.pinsMap.kept HKR.out (fun _ _ h => h)) ?_; intro w2 hit2 hk2 hz2))
      go_frame
      go_loopw [3] (fun i wr => ∃ (c2 : Int) (left2 : List (Int × Value)), i = .int .i64 c2 ∧ OptIter (Value.int .i64) wr wA.heap.size R.pm (R.pins.map fun p => (p.1, .int .i64 p.2)) left2 ∧ Keeps (fun _ => False) wA wr ∧ wA.heap.size < wr.heap.size ∧ LInv R.pins (fun z => .int .i64 z) (fun p => p.1) c left2 c2) (fun _ wr => optLeft R.pm wA.heap.size wr)
      case atStart => exact ⟨c, _, rfl, hit2, hk2, by omega, LInv.start _ _ _ _⟩
      case round =>
        obtain ⟨c2, left2, rfl, hit3, hkq, hzq, hc2⟩ := hrel
        clear hit2 hk2 hz2 w2
        have hkwq : Keeps (fun _ => False) w wr := hkr.tr hkq (fun _ h => h)
        have d6 := hkwq.cell (p := ⟨R.sb, 6, none⟩) c6 (fun h => h)
        have HC2 := hid hc2
        clear hc2
        go_wp2_with (at_next; go_must (refine wpList_next_opt _ rfl _ rfl intKeyOk R.pm wA.heap.size rfl _ _ hit3 ?_ ?_))
        · intro hnil2
          obtain ⟨wB, rfl⟩ : ∃ x, x = wr := ⟨_, rfl⟩
          have HD2 := hid (HC2.out.done hnil2)
          have HKWQ := hid hkwq
          clear hnil2 hit3 HC2 d4 c4 c6
          go_wp2_with (at_range; go_must (refine wpList_range_opt _ rfl _ 60 rfl 3 129 Tryz.underlying60 R.cm rfl _ (HST.out.works.copyMap.kept HKWQ.out (fun _ _ h => h)) ?_; intro w3 hit4 hk4 hz4))
          go_frame
          go_loopw [3] (fun i wr => ∃ (c3 : Int) (left3 : List (Int × Value)), i = .int .i64 c3 ∧ OptIter (Value.int .i64) wr wB.heap.size R.cm (R.copyings.map fun p => (p.1, p.2.val)) left3 ∧ Keeps (fun _ => False) wB wr ∧ wB.heap.size < wr.heap.size ∧ LInv R.copyings Cop.val (fun p => p.2.need) c2 left3 c3) (fun _ wr => optLeft R.cm wB.heap.size wr)
          case atStart => exact ⟨c2, _, rfl, hit4, hk4, by omega, LInv.start _ _ _ _⟩
          case round =>
            obtain ⟨c3, left3, rfl, hit5, hkx, hzx, hc3⟩ := hrel
            clear hit4 hk4 hz4 w3
            have HC3 := hid hc3
            clear hc3
            go_wp2_with (at_next; go_must (refine wpList_next_opt _ rfl _ rfl intKeyOk R.cm wB.heap.size rfl _ _ hit5 ?_ ?_))
            · intro hnil3
              have HD3 := hid (HC3.out.done hnil3)
              clear hnil3
              go_wp2
              go_ret
              exact ⟨c3, rfl, (HD.out.more HD2.out).more HD3.out, hkwq.tr hkx (fun _ h => h)⟩
            · intro k v w4 hkv hit6 hk6 hz6 hen
              obtain ⟨p, hp, e⟩ := List.mem_map.1 (HC3.out.sub _ hkv)
              simp only [Prod.mk.injEq] at e
              obtain ⟨rfl, rfl⟩ := e
              have hkx4 : Keeps (fun _ => False) wB w4 := hkx.trans hk6 (fun i hi e => by have e' : i = wB.heap.size := e; omega)
              obtain ⟨pn, ⟨full, fr, to, hd, nx, sm, ct⟩⟩ := p
              have HLN := hid (fun W => leastNeeded_any ⟨full, fr, to, hd, nx, sm, ct⟩ W)
              simp only [Cop.val] at hen HLN
              obtain ⟨nd, hnd⟩ : ∃ nd, nd = Cop.need ⟨full, fr, to, hd, nx, sm, ct⟩ := ⟨_, rfl⟩
              rw [← hnd] at HLN
              obtain ⟨c', hc'⟩ : ∃ c', c' = if nd < c3 then nd else c3 := ⟨_, rfl⟩
              have hmn := fun W => min_int c3 nd W
              rw [← hc'] at hmn
              have HC' := hid hc'
              have HND := hid hnd
              have HI2 := hid hit6
              have HI1 := hid hit5
              have HKV := hid hkv
              have HK2 := hid hkx4
              have HP := hid hp
              clear hit6 hit5 hkv hc' hkx4 hk6 hp d6 hkx hnd
              go_wp2_with (go_at_call 101; go_must (refine (HLN.out _).mono ?_; rintro e w5 ⟨rfl, k5⟩))
              have kw5 : Keeps (fun _ => False) w4 w5 := ((Keeps.refl (fun _ => False) w4).al _).tr k5 (fun _ h => h)
              have hI5 : OptIter (Value.int .i64) w5 wB.heap.size R.cm (R.copyings.map fun p => (p.1, p.2.val)) (del left3 pn) := HI2.out.kept kw5 (fun h => h) (fun _ _ h => h)
              refine ⟨⟨c', del left3 pn, rfl, hI5, HK2.out.tr kw5 (fun _ h => h), by have := kw5.size; omega, HC3.out.step (copies_nodup HST.out) HP.out (by rw [HC'.out, HND.out])⟩, ?_⟩
              rw [hI5.left_eq, HI1.out.left_eq]
              exact del_less HKV.out
        · intro k v w4 hkv hit6 hk6 hz6 hen
          obtain ⟨p, hp, e⟩ := List.mem_map.1 (HC2.out.sub _ hkv)
          simp only [Prod.mk.injEq] at e
          obtain ⟨rfl, rfl⟩ := e
          have hkx4 : Keeps (fun _ => False) wA w4 := hkq.trans hk6 (fun i hi e => by have e' : i = wA.heap.size := e; omega)
          obtain ⟨c', hc'⟩ : ∃ c', c' = if p.1 < c2 then p.1 else c2 := ⟨_, rfl⟩
          have hmn := fun W => min_int c2 p.1 W
          rw [← hc'] at hmn
          have HC' := hid hc'
          have HI2 := hid hit6
          have HI1 := hid hit3
          have HKV := hid hkv
          have HK2 := hid hkx4
          have HP := hid hp
          clear hit6 hit3 hkv hc' hkx4 hk6 hp d4 c4 c6 hkq hkwq d6
          go_wp2
          refine ⟨⟨c', del left2 p.1, rfl, HI2.out, HK2.out, by omega, HC2.out.step (pins_nodup HST.out) HP.out HC'.out⟩, ?_⟩
          rw [HI2.out.left_eq, HI1.out.left_eq]
          exact del_less HKV.out
    · intro k v w2 hkv hit2 hk2 hz2 hen
      obtain ⟨p, hp, e⟩ := List.mem_map.1 (HC.out.sub _ hkv)
      simp only [Prod.mk.injEq] at e
      obtain ⟨rfl, rfl⟩ := e
      have hkw2 : Keeps (fun _ => False) w w2 := hkr.trans hk2 (fun i hi e => by have e' : i = w.heap.size := e; omega)
      obtain ⟨d0, -, -⟩ := (HST.out.kept hkw2 (fun _ _ h => h)).works.work (n := p.1) (x := p.2) hp
      obtain ⟨c', hc'⟩ : ∃ c', c' = if p.2.began < c then p.2.began else c := ⟨_, rfl⟩
      have hmn := fun W => min_int c p.2.began W
      rw [← hc'] at hmn
      have HC' := hid hc'
      simp only [workPtr] at hen
      have HI2 := hid hit2
      have HI1 := hid hit'
      have HKV := hid hkv
      have HK2 := hid hkw2
      have HP := hid hp
      clear hit2 hit' hkv hc' hkw2 hk2 hp d4 c0 c3 c4 c6 hkr
      go_wp2
      refine ⟨⟨c', del left p.1, rfl, HI2.out, HK2.out, by omega, HC.out.step (works_nodup HST.out) HP.out HC'.out⟩, ?_⟩
      rw [HI2.out.left_eq, HI1.out.left_eq]
      exact del_less HKV.out

end Go.Proofs.YtpagenipflmlfaaGreatDoor

/- Sweep. -/

namespace Go.Proofs.YtpagenipflmlfaaGreatDoor

open Go.RowKit Go.Shelf

/-- What Sweep leaves. -/
def SweptPost (R : Rep) (L : Int) (w w' : World) : Prop :=
  ∃ hist vl, StoreAt w' { R with floor := L, kv := vl, keys := leftL R L R.keys.length, hist := hist } ∧ (∀ k, versOf hist k = if memB R.keys k then (versOf R.hist k).drop (needN (versOf R.hist k) L) else versOf R.hist k) ∧
    (∀ k, (look hist k).isSome = true → (look R.hist k).isSome = true) ∧ (∀ p ∈ hist, p.2.vers ≠ []) ∧ Keeps (· ∈ R.fp) w w' ∧ ∀ k ∈ Rep.fp { R with floor := L, kv := vl, keys := leftL R L R.keys.length, hist := hist }, k ∈ R.fp ∨ w.heap.size ≤ k

theorem StoreAt.floorSet {w w' : World} {R : Rep} {C : List Nat} {n : Int} (h : StoreAt w R) (hk : Keeps (fun k => k ∈ C ∨ k = R.sb) w w') (hC : ∀ k ∈ C, k ∉ R.fp) (hb : w'.heap[R.sb]? = (w.setCell ⟨R.sb, 1, none⟩ (.int .i64 n)).heap[R.sb]?) : StoreAt w' { R with floor := n } := by
  refine h.nums hk (fun k hk' => ?_) R.now n R.begun ?_
  · rintro (hc | rfl)
    · exact hC k hc (List.mem_cons_of_mem _ hk')
    · have := h.nodup
      simp only [Rep.fp, List.nodup_cons] at this
      exact this.1 hk'
  · rw [hb]
    exact h.set (R' := { R with floor := n }) (i := 1) (v := .int .i64 n) rfl (by simp [topCells])

set_option maxRecDepth 100000 in
set_option maxHeartbeats 1000000 in
theorem sweep_any (R : Rep) (w : World) (h : StoreAt w R) (g : Good R) (t : Tied R) (hkl : R.keys.length < 900000000000) (htot : R.total ≤ 1000000000000000) :
    Calls Tryz.prog 34 #[.pointer (some ⟨R.sb, 0, none⟩)] w fun e w' => ∃ L : Int, e = .returned (.int .i64 (thrownN R L R.keys.length)) ∧ IsLeast R.now R.held L ∧ SweptPost R L w w' := by
  have hmf : ∀ (fn : Fn) (first cap : Array Value) (w : World), (Instr.makeFunc fn first cap).run Tryz.prog w = .ok (.func fn first cap) w := fun _ _ _ _ => rfl
  have hk0 : Keeps (fun _ => False) w ((w.alloc (.cells #[.slice none 0 0] 69)).alloc (.cells #[.int .i64 0] 34)) := ((Keeps.refl _ w).al _).al _
  have HLH := hid (leastHeld_any R _ (h.kept hk0 (fun _ _ h => h)))
  have hlt := h.lt
  have hcg : Chg ((w.alloc (.cells #[.slice none 0 0] 69)).alloc (.cells #[.int .i64 0] 34)) w.heap.size [] [w.heap.size] := by
    refine ⟨.slice none 0 0, (Below.heap_alloc _ _ _ (by simp)).trans (heap_new w _), Row.nil _ _ _, by simp [Value.ownBlock], rfl⟩
  have he0 : ((w.alloc (.cells #[.slice none 0 0] 69)).alloc (.cells #[.int .i64 0] 34)).heap[w.heap.size + 1]? = some (.cells #[.int .i64 0] 34 (0, 0)) := by
    have := heap_new (w.alloc (.cells #[.slice none 0 0] 69)) (.cells #[.int .i64 0] 34)
    rwa [World.size_alloc] at this
  have HST := hid h
  have HG := hid g
  have HT := hid t
  have HK0 := hid hk0
  have HCG := hid hcg
  have HE0 := hid he0
  clear h g t hk0 hcg he0
  go_enter_defers Tryz.func34, Tryz.ntmps34
  go_wp2_with fail
  refine (HLH.out).mono ?_
  rintro e w1 ⟨L, rfl, hL, k1⟩
  have HL := hid hL
  have hS1 := HST.out.kept (HK0.out.tr k1 (fun _ h => h)) (fun _ _ h => h)
  have hz1 : w.heap.size + 2 ≤ w1.heap.size := by have := k1.size; simp at this; omega
  have HAS := hid (assign_int w.heap.size [] [w.heap.size] R.sb 1 R.floor L w1 (HCG.out.kept k1 (fun _ _ h => h)) (hS1.cell 1) (hS1.frozen 1) (by simp; omega) (by simp))
  have HS1 := hid hS1
  have K1 := hid k1
  clear hL hS1 k1 HLH
  go_wp2_with fail
  refine (HAS.out).mono ?_
  rintro e w2 ⟨rfl, fs1, C1, hf1, hC1, k2, hC1', hb2⟩
  have hflt := fp_lt HST.out
  have hC1f : ∀ k ∈ C1, k = w.heap.size ∨ w1.heap.size ≤ k := fun k hk => by
    rcases hC1' k hk with h1 | h1
    · left; simpa using h1
    · exact .inr h1
  have hS2 : StoreAt w2 { R with floor := L } := HS1.out.floorSet k2 (fun k hk hf => by have := hflt k hf; simp at hk; omega) hb2
  have HPS := hid (pastSweep_any { R with floor := L } L w.heap.size fs1 C1 w2 hS2 ⟨HG.out.now, HG.out.begun, HG.out.works8, HG.out.numbers, HG.out.began, HG.out.writes30, HG.out.wkeys, HG.out.rising, HG.out.states, HG.out.filled, HG.out.hkeys, HG.out.hvals, HG.out.sorted, HG.out.keys⟩ ⟨HT.out.rises, HT.out.keys, HT.out.filled⟩ hC1 (fun k hk hf => by
    have := hflt k hf
    rcases hC1f k hk with h1 | h1 <;> omega) (by rw [hf1]; simp) hkl htot)
  have K2 := hid k2
  have HC1 := hid hC1f
  clear hS2 hb2 hC1 k2 hC1' hf1 hC1f HAS
  go_wp2_with fail
  refine (HPS.out).mono ?_
  rintro e w3 ⟨rfl, hP⟩
  have HP := hid hP
  clear hP HPS
  go_wp2
  have hpost : SweptPost R L w w3 := by
    obtain ⟨hist, vl, p1, p2, p3, p4, p5, p6⟩ := HP.out
    refine ⟨hist, vl, p1, p2, p3, p4, ?_, fun k hk => ?_⟩
    · have q1 : Keeps (· ∈ R.fp) w w1 := (HK0.out.tr K1.out (fun _ h => h)).mono (fun _ _ h => h.elim)
      have q2 : Keeps (· ∈ R.fp) w w2 := q1.trans K2.out (fun k hk h => by
        rcases h with h | h
        · simp at h; omega
        · rw [h]; simp [Rep.fp])
      refine q2.trans p5 (fun k hk h => ?_)
      rcases h with h | h
      · exact h
      · rcases HC1.out k h with h1 | h1 <;> omega
    · rcases p6 k hk with h1 | h1
      · exact .inl h1
      · right
        have := K2.out.size
        omega
  have he3 : w3.cell? ⟨w.heap.size + 1, 0, none⟩ = some (.int .i64 0) := by
    obtain ⟨hist, vl, -, -, -, -, p5, -⟩ := HP.out
    have e1 := (K1.out.block (w.heap.size + 1) (Array.getElem?_eq_some_iff.1 HE0.out).1 (fun h => h)).trans HE0.out
    have e2 := (K2.out.block (w.heap.size + 1) (Array.getElem?_eq_some_iff.1 e1).1 (by rintro (h | h); (simp at h); omega)).trans e1
    have e3 := (p5.block (w.heap.size + 1) (Array.getElem?_eq_some_iff.1 e2).1 (by
      rintro (h | h)
      · have h' : w.heap.size + 1 ∈ R.fp := h
        have := hflt _ h'
        omega
      · rcases HC1.out _ h with h1 | h1 <;> omega)).trans e2
    exact cell_of_heap e3 0
  refine leaves_cons (f := 68) (args := #[.pointer (some ⟨w.heap.size, 0, none⟩), .pointer (some ⟨w.heap.size + 1, 0, none⟩)]) (by simp) (by simp [go_sem]) ?_
  refine (sweep1_ok w.heap.size (w.heap.size + 1) w3 he3).mono ?_
  rintro e u' w'' ⟨rfl, rfl, rfl⟩
  simp [Leaves, settle, results, Tryz.results34, go_sem]
  exact ⟨L, rfl, HL.out, hpost⟩

end Go.Proofs.YtpagenipflmlfaaGreatDoor
