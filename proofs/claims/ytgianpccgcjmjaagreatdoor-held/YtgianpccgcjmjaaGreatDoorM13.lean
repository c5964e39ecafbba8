import Derived.Test.YtgianpccgcjmjaaGreatDoorM12

/- Scan, walked. -/
namespace Go.Proofs.YtgianpccgcjmjaaGreatDoor
open Go.RowKit Go.Shelf

attribute [local go_sem] Oper.semAt_some

set_option maxRecDepth 100000 in
set_option maxHeartbeats 2000000 in
theorem scan_any (R : Rep) (n : Int) (x : WkR) (w : World) (h : StoreAt w R) (g : Good R) (t : Tied R) (hn : look R.works n = some x) (hkl : R.keys.length < 1000000000000) :
    Calls Tryz.prog 26 #[.pointer (some ⟨R.sb, 0, none⟩), .int .i64 n, .string ⟨#[]⟩, .int .i64 (-1)] w (ScanPost R x w) := by
  have hk0 : Keeps (fun _ => False) w ((w.alloc (.cells #[.pointer (some ⟨R.sb, 0, none⟩)] 23)).alloc (.cells #[.int .i64 (-1)] 3)) := ((Keeps.refl _ w).al _).al _
  have hf := find_any R n _ (h.kept hk0 (fun _ _ h => h))
  rw [hn] at hf
  simp only [Option.map_some, Option.getD_some, workPtr] at hf
  have HF := hid hf
  have HST := hid h
  have HG := hid g
  have HT := hid t
  have HN := hid hn
  clear hf hk0 h g t hn
  refine (callsIn_wide (n := 8)).1 ?_
  refine callsIn_of_wp_marks Tryz.func26 rfl trivial ?_ rfl
  simp only [Tryz.ntmps26, List.size_toArray, List.length_cons, List.length_nil, Nat.reduceAdd, Nat.reduceSub, Array.replicate_succ, Array.replicate_zero, List.push_toArray, List.append_toArray, List.nil_append, List.cons_append]
  gi_wp2_with (refine ⟨trivial, ?_⟩; gi_at_call 52; go_must (refine (callsIn_wide.2 HF.out).mono ?_; rintro e w1 ⟨rfl, rfl⟩))
  obtain ⟨oa, ca, hkv⟩ := (seg_keysV (G := R.kv.ownBlock.toList) HST.out.past.keysRow (fun g hg => by simp [hg])).form
  have HKEYS : Hid (∀ W, Keeps (fun _ => False) w W → Calls Tryz.prog 58 #[.pointer (some ⟨R.sb, 7, none⟩), .string ⟨#[]⟩] W fun e w' => e = .returned (.slice oa R.keys.length ca) ∧ Keeps (fun _ => False) W w') := fun W hW => by
    have := pastKeys_any R W (HST.out.kept hW (fun _ _ h => h)) HT.out.rises hkl
    rwa [hkv] at this
  have HWK : Hid (∀ W, Keeps (fun _ => False) w W → Calls Tryz.prog 59 #[.pointer (some ⟨x.blk, 0, none⟩), .string ⟨#[]⟩] W fun e w' => ∃ v ks, e = .returned v ∧ Row w' 9 1 v ks.length (ks.map Value.string) ∧ Rises ks ∧ ks.Perm (x.writes.map (·.1)) ∧ Keeps (fun _ => False) W w' ∧ (∀ k, v.ownBlock = some k → W.heap.size < k)) := fun W hW => by
    obtain ⟨c0, c1, hm⟩ := (HST.out.kept hW (fun _ _ h => h)).works.work (look_mem HN.out)
    have h30 := HG.out.writes30 _ (look_mem HN.out)
    have hwk := HG.out.wkeys _ (look_mem HN.out)
    refine (keys_core x.blk x.mb _ W c1 hm (fun p hp => ?_) (by simp; simp at h30; omega)).mono ?_
    · obtain ⟨q, hq, rfl⟩ := List.mem_map.1 hp
      have := (hwk q hq).1
      simp [keyB] at this
      unfold maxLen
      simp
      omega
    · rintro e w' ⟨v, ks, h1, h2, h3, h4, h5, h6⟩
      exact ⟨v, ks, h1, h2, h3, by simpa [List.map_map, Function.comp_def] using h4, h5, h6⟩
  have HKV := hid hkv
  clear hkv HF
  have hkW : Keeps (fun _ => False) w ((((w.alloc (.cells #[.pointer (some ⟨R.sb, 0, none⟩)] 23)).alloc (.cells #[.int .i64 (-1)] 3)).alloc (.cells #[.pointer (some ⟨x.blk, 0, none⟩)] 103)).alloc (.cells #[.slice none 0 0] 31)) := ((((Keeps.refl _ w).al _).al _).al _).al _
  have HKW := hid hkW
  clear hkW
  rename_i K1 hK1 K0 hK0
  have hrest : ∀ (w3 : World) (ob : Option Addr) (cb : Nat) (ks : List ByteArray), Keeps (fun _ => False) ((((w.alloc (.cells #[.pointer (some ⟨R.sb, 0, none⟩)] 23)).alloc (.cells #[.int .i64 (-1)] 3)).alloc (.cells #[.pointer (some ⟨x.blk, 0, none⟩)] 103)).alloc (.cells #[.slice none 0 0] 31)) w3 → Row w3 9 1 (.slice ob ks.length cb) ks.length (ks.map Value.string) → Rises ks → ks.Perm (x.writes.map (·.1)) → (∀ k, (Value.slice ob ks.length cb).ownBlock = some k → ((((w.alloc (.cells #[.pointer (some ⟨R.sb, 0, none⟩)] 23)).alloc (.cells #[.int .i64 (-1)] 3)).alloc (.cells #[.pointer (some ⟨x.blk, 0, none⟩)] 103)).alloc (.cells #[.slice none 0 0] 31)).heap.size < k) →
      K0 { tmps := #[Value.pointer (some ⟨R.sb, 0, none⟩), .int .i64 n, .string ⟨#[]⟩, .int .i64 (-1), .pointer (some ⟨w.heap.size, 0, none⟩), undef, undef, .pointer (some ⟨w.heap.size + 1, 0, none⟩), .slice none 0 0, .int .i64 0, .pointer (some ⟨w.heap.size + 1 + 1, 0, none⟩), .pointer (some ⟨w.heap.size + 1 + 1 + 1, 0, none⟩), undef, undef, undef, .pointer (some ⟨R.sb, 0, none⟩), .int .i64 n, .pointer (some ⟨x.blk, 0, none⟩), .pointer (some ⟨x.blk, 0, none⟩), .bool false, .string ⟨#[]⟩, .int .i64 0, .bool false, .pointer (some ⟨R.sb, 0, none⟩), .pointer (some ⟨R.sb, 0, none⟩), .pointer (some ⟨R.sb, 7, none⟩), .string ⟨#[]⟩, .slice oa R.keys.length ca, .pointer (some ⟨x.blk, 0, none⟩), .string ⟨#[]⟩, .slice ob ks.length cb, .func (.func 90) #[] #[.pointer (some ⟨w3.heap.size, 0, none⟩), .pointer (some ⟨w3.heap.size + 1, 0, none⟩)], undef, undef, undef, undef, undef, undef, undef, undef, undef, undef, undef, undef, undef, undef, undef, undef, undef, undef, undef, undef], defers := [] } ((w3.alloc (.cells #[.slice oa R.keys.length ca] 57)).alloc (.cells #[.slice ob ks.length cb] 57)) := by
    intro w3 ob cb ks h1 h2 h3 h4 h5
    refine hK0 _ _ ?_
    dsimp only
    have hkw3 : Keeps (fun _ => False) w w3 := HKW.out.tr h1 (fun _ h => h)
    have hz : w.heap.size + 4 ≤ w3.heap.size := by have := h1.size; simp at this; omega
    have hS3 : StoreAt w3 R := HST.out.kept hkw3 (fun _ _ h => h)
    obtain ⟨w5, hw5⟩ : ∃ w5, (w3.alloc (.cells #[.slice oa R.keys.length ca] 57)).alloc (.cells #[.slice ob ks.length cb] 57) = w5 := ⟨_, rfl⟩
    have hk35 : Keeps (fun _ => False) w3 w5 := by rw [← hw5]; exact ((Keeps.refl _ w3).al _).al _
    have hzz : w5.heap.size = w3.heap.size + 2 := by rw [← hw5]; simp
    have qa : w5.heap[w3.heap.size]? = some (.cells #[.slice oa R.keys.length ca] 57 (0, 0)) := by rw [← hw5]; exact (Below.heap_alloc _ _ _ (by simp)).trans (heap_new w3 _)
    have qb : w5.heap[w3.heap.size + 1]? = some (.cells #[.slice ob ks.length cb] 57 (0, 0)) := by
      rw [← hw5]
      have := heap_new (w3.alloc (.cells #[.slice oa R.keys.length ca] 57)) (.cells #[.slice ob ks.length cb] 57)
      simpa using this
    rw [hw5]
    clear hw5
    have hkv : ∀ k ∈ R.kv.ownBlock.toList, k < w.heap.size := fun k hk => fp_lt HST.out k (by simp only [Rep.fp, Rep.fpPast, List.mem_cons, List.mem_append]; exact .inr (.inr (.inl (.inl hk))))
    have hov : ∀ k ∈ (Value.slice ob ks.length cb).ownBlock.toList, w.heap.size + 4 < k ∧ k < w3.heap.size := fun k hk => by
      have hk' : (Value.slice ob ks.length cb).ownBlock = some k := by simpa using hk
      have e1 := h5 k hk'
      simp at e1
      exact ⟨by omega, h2.lt hk'⟩
    obtain ⟨G, hGe⟩ : ∃ G, R.kv.ownBlock.toList ++ (Value.slice ob ks.length cb).ownBlock.toList = G := ⟨_, rfl⟩
    have hG : ∀ k ∈ G, k < w3.heap.size ∧ k ≠ w.heap.size + 1 + 1 + 1 := fun k hk => by
      rw [← hGe] at hk
      rcases List.mem_append.1 hk with hk | hk
      · have := hkv k hk; omega
      · have := hov k hk; omega
    have hmem : MergeMem G w3.heap.size (w3.heap.size + 1) R.keys ks [] w5 := by
      refine ⟨_, _, R.keys, ks, qa, qb, ?_, ?_, ⟨List.Pairwise.nil, HT.out.rises, h3, fun k hk => (by cases hk), fun k => by simp, by simp⟩⟩
      · have := seg_keysV (G := G) ((hS3.kept hk35 (fun _ _ h => h)).past.keysRow) (fun g hg => by rw [← hGe]; simp [hg])
        rwa [HKV.out] at this
      · exact (h2.kept hk35 (fun _ _ h => h)).seg (fun g hg => by rw [← hGe]; simp [hg])
    have hseq := merged1_all G w3.heap.size (w3.heap.size + 1) R.keys ks w5 (fun h => by have := (hG _ h).1; omega) (fun h => by have := (hG _ h).1; omega) (by omega) (fun k hk => by have := (hG k hk).1; omega) hmem
    have bx : ∀ (k : Nat) (o : Obj), ((((w.alloc (.cells #[.pointer (some ⟨R.sb, 0, none⟩)] 23)).alloc (.cells #[.int .i64 (-1)] 3)).alloc (.cells #[.pointer (some ⟨x.blk, 0, none⟩)] 103)).alloc (.cells #[.slice none 0 0] 31)).heap[k]? = some o → w5.heap[k]? = some o := fun k o hk => (hk35.block k (Nat.lt_of_lt_of_le (Array.getElem?_eq_some_iff.1 hk).1 h1.size) (fun h => h)).trans ((h1.block k (Array.getElem?_eq_some_iff.1 hk).1 (fun h => h)).trans hk)
    have b1 : w5.heap[w.heap.size]? = some (.cells #[.pointer (some ⟨R.sb, 0, none⟩)] 23 (0, 0)) := bx _ _ (four_new w _ _ _ _).1
    have b2 : w5.heap[w.heap.size + 1]? = some (.cells #[.int .i64 (-1)] 3 (0, 0)) := bx _ _ (four_new w _ _ _ _).2.1
    have b3 : w5.heap[w.heap.size + 1 + 1]? = some (.cells #[.pointer (some ⟨x.blk, 0, none⟩)] 103 (0, 0)) := bx _ _ (four_new w _ _ _ _).2.2.1
    have b4 : w5.heap[w.heap.size + 1 + 1 + 1]? = some (.cells #[.slice none 0 0] 31 (0, 0)) := bx _ _ (four_new w _ _ _ _).2.2.2
    have HS5 := hid (hS3.kept hk35 (fun _ _ h => h))
    have H24 := hid (And.intro h4 h3)
    have HKS := hid hkw3
    have HK35 := hid hk35
    have B1 := hid b1
    have B2 := hid b2
    have B3 := hid b3
    have HL : Hid (∀ k ∈ w3.heap.size :: (w3.heap.size + 1) :: G, k < w5.heap.size ∧ k ≠ w.heap.size + 1 + 1 + 1) := fun k hk => by
      rcases List.mem_cons.1 hk with rfl | hk
      · omega
      · rcases List.mem_cons.1 hk with rfl | hk
        · omega
        · have := hG k hk; omega
    have hpB : w.heap.size + 1 + 1 + 1 < w5.heap.size := by omega
    have h0 : ScanAt (pairOf x.writes (versOf R.hist) x.began) (w.heap.size + 1 + 1 + 1) w3.heap.size (w3.heap.size + 1) w5 [] w5 := ⟨_, b4, Row.nil _ _ _, fun g hg => by simp [Value.ownBlock] at hg, Keeps.refl _ _⟩
    have hbound : R.keys.length + ks.length < 2000000000000 := by
      have e1 := h4.length_eq
      have e2 := HG.out.writes30 _ (look_mem HN.out)
      simp at e1 e2
      omega
    clear h1 h2 h3 h4 h5 hkw3 hS3 hk35 qa qb hkv hov hGe hG hmem bx b1 b2 b3 b4 hkl hK0 HKEYS HWK
    gi_wp2_with fail
    refine wpIn_range_all (α := ByteArray) rfl (by omega) (gf := 90) (lb := #[.pointer (some ⟨w3.heap.size, 0, none⟩), .pointer (some ⟨w3.heap.size + 1, 0, none⟩)]) rfl trivial (enters_of Tryz.func90 (by kernel_rfl) rfl)
      hseq ?cs (fun h k => ⟨Nat.le_trans h.1 k.1, fun j hj => (k.2 j hj).trans (h.2 j hj)⟩) ?kb (fun _ => rfl) (ScanAt (pairOf x.writes (versOf R.hist) x.began) (w.heap.size + 1 + 1 + 1) w3.heap.size (w3.heap.size + 1) w5)
      (scanAt_own hpB) (scanAt_C (by omega) (by omega) (by omega) (by omega)) h0 (fun key => { tmps := #[Value.pointer (some ⟨R.sb, 0, none⟩), .int .i64 n, .string ⟨#[]⟩, .int .i64 (-1), .pointer (some ⟨w.heap.size, 0, none⟩), undef, undef, .pointer (some ⟨w.heap.size + 1, 0, none⟩), .slice none 0 0, .int .i64 0, .pointer (some ⟨w.heap.size + 1 + 1, 0, none⟩), .pointer (some ⟨w.heap.size + 1 + 1 + 1, 0, none⟩), .string key, undef, undef, .pointer (some ⟨R.sb, 0, none⟩), .int .i64 n, .pointer (some ⟨x.blk, 0, none⟩), .pointer (some ⟨x.blk, 0, none⟩), .bool false, .string ⟨#[]⟩, .int .i64 0, .bool false, .pointer (some ⟨R.sb, 0, none⟩), .pointer (some ⟨R.sb, 0, none⟩), .pointer (some ⟨R.sb, 7, none⟩), .string ⟨#[]⟩, .slice oa R.keys.length ca, .pointer (some ⟨x.blk, 0, none⟩), .string ⟨#[]⟩, .slice ob ks.length cb, .func (.func 90) #[] #[.pointer (some ⟨w3.heap.size, 0, none⟩), .pointer (some ⟨w3.heap.size + 1, 0, none⟩)], .string key, undef, undef, undef, undef, undef, undef, undef, undef, undef, undef, undef, undef, undef, undef, undef, undef, undef, undef, undef], defers := [] }) ?assign ?body ?done
    case cs =>
      rintro A B k hC hk ⟨o, ho, _⟩
      exact hC.block k (Array.getElem?_eq_some_iff.1 ho).1 (by rintro (e | e) <;> omega)
    case kb =>
      intro W l o' hl
      exact ⟨by simp, fun j hj => World.putObj_heap_other (by have := (HL.out j hj).1; omega)⟩
    case assign =>
      intro l key W K hK
      have ez : ∀ t : Array Value, (#[32].zip #[Value.string key]).foldl (fun t (p, v) => t.setIfInBounds p v) t = t.setIfInBounds 32 (.string key) := fun t => by simp [Array.zip]
      simp only [ez]
      gi_wp2
      exact hK
    case body =>
      intro l pre key W hI hlt
      obtain ⟨v, q1, q2, q3, q4⟩ := hI
      have bk : ∀ (k : Nat) (o : Obj), k < w.heap.size + 1 + 1 + 1 → w5.heap[k]? = some o → W.heap[k]? = some o := fun k o hk ho => (q4.block k (Array.getElem?_eq_some_iff.1 ho).1 (by rintro (e | e | e) <;> omega)).trans ho
      have c4 := cell_of_heap (bk _ _ (by omega) B1.out) 0
      have c7 := cell_of_heap (bk _ _ (by omega) B2.out) 0
      have c10 := cell_of_heap (bk _ _ (by omega) B3.out) 0
      have c11 := cell_of_heap q1 0
      simp at c4 c7 c10 c11
      have hSW : StoreAt W R := HS5.out.kept q4 (fun k hk e => by have := fp_lt HST.out k hk; rcases e with e | e | e <;> omega)
      have hsee := see_any R n x key W hSW HG.out (look_mem HN.out)
      simp only [workPtr] at hsee
      obtain ⟨av, cv, rfl, hmx, -⟩ := q2.form
      have hfl : (pre.filterMap (pairOf x.writes (versOf R.hist) x.began)).length ≤ pre.length := List.length_filterMap_le _ _
      obtain ⟨m, hm⟩ : ∃ m, m = (pre.filterMap (pairOf x.writes (versOf R.hist) x.began)).length := ⟨_, rfl⟩
      rw [← hm] at c11 q1 q2 q3 hfl
      have HM := hid hm
      have HQ1 := hid q1
      have HQ2 := hid q2
      have HQ3 := hid q3
      have HQ4 := hid q4
      have hne1 : ((m : Int) == -1) = false := by simp
      have hsv : pairOf x.writes (versOf R.hist) x.began key = if standsB (seeVer x.writes (versOf R.hist key) x.began key) = true then some (key, ((seeVer x.writes (versOf R.hist key) x.began key).getD Ver.zero).value) else none := rfl
      generalize ((seeVer x.writes (versOf R.hist key) x.began key).getD Ver.zero).value = val at hsee hsv
      have HLT := hid hlt
      clear q1 q2 q3 q4 bk hSW hm hseq h0
      cases hst : standsB (seeVer x.writes (versOf R.hist key) x.began key) with
      | false =>
        rw [hst] at hsee hsv
        simp only [Bool.false_eq_true, if_false] at hsv
        have HSEE := hid hsee
        have HSV := hid hsv
        clear hsee hsv hst
        gi_wp2_with (refine ⟨trivial, ?_⟩; gi_at_call 56; go_must (refine (CallsIn.inRound l (callsIn_wide.2 HSEE.out)).mono ?_; rintro e W1 ⟨rfl, k1⟩))
        have epre : (pre ++ [key]).filterMap (pairOf x.writes (versOf R.hist) x.began) = pre.filterMap (pairOf x.writes (versOf R.hist) x.began) := by simp [List.filterMap_append, HSV.out]
        refine scan_goesOn _ hpB HL.out HQ2.out HQ3.out HQ4.out (k1.mono (fun _ _ h => h.elim)) ((k1.block _ (Array.getElem?_eq_some_iff.1 HQ1.out).1 (fun h => h)).trans HQ1.out) ?_ HQ3.out
        rw [epre, ← HM.out]
        exact HQ2.out.kept k1 (fun _ _ h => h)
      | true =>
        rw [hst] at hsee hsv
        simp only [if_true] at hsv
        have HSEE := hid hsee
        have HSV := hid hsv
        clear hsee hsv hst
        obtain ⟨i0, hi, hz0, hz1, hz2⟩ := info_parts Tryz.infoPair
        have HAPP : Hid (∀ W1, Keeps (fun _ => False) W W1 → ∃ g' cap' w', (Builtin.append_ #[31, 31] 31 #[.slice av m cv, .slice (some ⟨W1.heap.size, 0, none⟩) 1 1]).run Tryz.prog (W1.alloc (.cells #[.string key, .string val] 88)) = .ok (.slice (some ⟨g', 0, none⟩) (m + 1) cap') w' ∧
            ScanNew W m av cv (w.heap.size + 1 + 1 + 1) w5 g' cap' w' ((pre.filterMap (pairOf x.writes (versOf R.hist) x.began)).flatMap pairCells ++ [.string key, .string val])) := fun W1 k1 => by
          obtain ⟨v', w', r1, r2, r3, r4, r5⟩ := run_append_row (P := Tryz.prog) (W1.alloc (.cells #[.string key, .string val] 88)) 31 31 88 i0 (.agg #[.string ⟨#[]⟩, .string ⟨#[]⟩]) 2 32 Tryz.underlying31 hi hz0 hz1 hz2 rfl (.slice av m cv) m _ ((HQ2.out.kept k1 (fun _ _ h => h)).kept (Keeps.alloc (fun _ => False) _ _) (fun _ _ h => h)) ⟨W1.heap.size, 0, none⟩ 1 1 [.string key, .string val] rfl (pair_new _ _ _ _) (by simp [Value.oneCell']) (by unfold maxLen; omega) (by omega)
          obtain ⟨g', cap', rfl⟩ := r2.succ
          exact ⟨g', cap', w', r1, scan_new k1 HQ1.out HQ3.out HQ4.out r2 r3 r5 hpB⟩
        have Z0 := hid hi
        clear hi hz0 hz1 hz2 Z0
        gi_wp2_with (first | (gi_at_builtin; refine wpListIn_append_run _ rfl _ _ 31 rfl _ _ _ _ rfl rfl HRUN.out ?_) | (refine ⟨trivial, ?_⟩; gi_at_call 56; go_must (refine (CallsIn.inRound l (callsIn_wide.2 HSEE.out)).mono ?_; rintro e W1 ⟨rfl, k1⟩; have d11 := k1.cell (p := ⟨w.heap.size + 1 + 1 + 1, 0, none⟩) c11 (fun h => h); obtain ⟨g', cap', w', hrun, hnew⟩ := HAPP.out W1 k1; have e11 := cell_of_heap hnew.box 0; have f11 := frozen_of_heap hnew.box 0; simp at e11; have HNEW := hid hnew; have HRUN := hid hrun; clear hnew HAPP hrun)))
        have epre : (pre ++ [key]).filterMap (pairOf x.writes (versOf R.hist) x.began) = pre.filterMap (pairOf x.writes (versOf R.hist) x.began) ++ [(key, val)] := by simp [List.filterMap_append, HSV.out]
        refine scan_goesOn _ hpB HL.out HQ2.out HQ3.out HQ4.out HNEW.out.keep (heap_setCell_same HNEW.out.box _) ?_ HNEW.out.own
        rw [epre]
        have := HNEW.out.row
        simpa [HM.out, List.flatMap_append, pairCells] using this
    case done =>
      rintro D xs W hD hS hI hK
      obtain ⟨v, q1, q2, q3, q4⟩ := hI
      have c11 := cell_of_heap q1 0
      simp at c11
      obtain ⟨av, cv, rfl, hmx, -⟩ := q2.form
      have HQ := hid (And.intro q1 (And.intro q2 (And.intro q3 q4)))
      have HS := hid hS
      have HK := hid hK
      clear q1 q2 q3 q4 hS hK hseq h0
      gi_wp2
      refine ⟨by simp, .inl ⟨_, _, rfl, run_takeDeferred HK.out, ?_⟩⟩
      refine ⟨_, results_tmp2 rfl _ _ _, ?_⟩
      obtain ⟨q1, q2, q3, q4⟩ := HQ.out
      have kp := Keeps.grown (grownBy_putObj' W D (.deferred none))
      refine ⟨_, xs, ks, rfl, H24.out.1, HS.out, q2.kept kp (fun g hg e => ?_), fun g hg => ?_, ?_⟩
      · obtain ⟨cur, hcur⟩ := q2.cellsAt hg
        simp only [Option.some.injEq] at e
        rw [e, HK.out] at hcur
        cases hcur
      · have := q3 g hg
        omega
      · have k1 : Keeps (fun _ => False) w W := (HKS.out.tr HK35.out (fun _ h => h)).trans q4 (fun k hk e => by rcases e with e | e | e <;> omega)
        refine k1.trans kp (fun k hk e => ?_)
        simp only [Option.some.injEq] at e
        omega
  have HREST := hid hrest
  clear hrest
  refine wpIn_normal ?_
  gi_region_with (first
    | (refine ⟨trivial, ?_⟩; gi_at_call 58; go_must (refine (callsIn_wide.2 (HKEYS.out _ HKW.out.dr)).mono ?_; rintro e w2 ⟨rfl, k2⟩; have b2 := (Keeps.drew (fun _ => False) _).tr k2 (fun _ h => h); have c10 := b2.cell (p := ⟨w.heap.size + 1 + 1, 0, none⟩) (v := .pointer (some ⟨x.blk, 0, none⟩)) (by simp [go_sem]) (fun h => h)))
    | (refine ⟨trivial, ?_⟩; gi_at_call 59; go_must (refine (callsIn_wide.2 (HWK.out _ (HKW.out.tr b2 (fun _ h => h)))).mono ?_; rintro e w3 ⟨v3, ks, rfl, r3, rs3, p3, k3, o3⟩; obtain ⟨ob, cb, rfl, -⟩ := r3.form))
    | (refine ⟨trivial, ?_⟩; gi_at_call 57; go_must (refine (callsIn_wide.2 (merged_any _ _ _ _ _ _ _)).mono ?_; rintro e w4 ⟨rfl, rfl⟩)))
  all_goals exact HREST.out w3 ob cb ks (b2.tr k3 (fun _ h => h)) r3 rs3 p3 (fun k hk => Nat.lt_of_le_of_lt b2.size (o3 k hk))

end Go.Proofs.YtgianpccgcjmjaaGreatDoor

/- General laws of lists that a function makes, and of records (out of R0, R1, RA), for a seat without the document's answer. -/
namespace Go.Proofs.YtgianpccgcjmjaaGreatDoor
open Go.RowKit Go.Shelf

theorem flat_at {α : Type} {f : α → List Value} {size : Nat} (hf : ∀ a, (f a).length = size) : ∀ (l : List α) (k r : Nat) (hk : k < l.length), r < size → (l.flatMap f)[k * size + r]? = (f l[k])[r]?
  | [], k, r, hk, _ => by simp at hk
  | a :: l, 0, r, _, hr => by
    have : r < (f a).length := by rw [hf]; exact hr
    simp [List.getElem?_append_left this]
  | a :: l, k + 1, r, hk, hr => by
    have ih := flat_at hf l k r (by simpa using hk) hr
    have e : (k + 1) * size + r = (f a).length + (k * size + r) := by rw [hf, Nat.add_mul, Nat.one_mul]; omega
    rw [List.flatMap_cons, e, List.getElem?_append_right (by omega), Nat.add_sub_cancel_left, ih]
    simp

theorem Row.elem {α : Type} {f : α → List Value} {size : Nat} (hf : ∀ a, (f a).length = size) {w : World} {e : TypeId} {g cap : Nat} {l : List α} (h : Row w e size (.slice (some ⟨g, 0, none⟩) l.length cap) l.length (l.flatMap f)) (k : Nat) (hk : k < l.length) (r : Nat) (hr : r < size) :
    w.cell? ⟨g, k * size + r, none⟩ = (f l[k])[r]? := by
  have hlt : k * size + r < l.length * size := by
    have : (k + 1) * size ≤ l.length * size := Nat.mul_le_mul_right _ hk
    rw [Nat.add_mul, Nat.one_mul] at this
    omega
  rw [h.cellAt _ hlt, flat_at hf l k r hk hr]

theorem news_arr (w : World) (arr : Array Value) (t : TypeId) : ∀ j u, arr.toList[j]? = some u → (w.alloc (.cells arr t)).cell? ((⟨w.heap.size, 0, none⟩ : Addr).add j) = some u := by
  intro j u hj
  rw [Addr.add_lit, Nat.zero_add, cell_of_heap (heap_new w (.cells arr t)) j]
  simpa using hj

/-- A list that a function makes: v holds l in W, its block is new since w. -/
structure Made {α : Type} (e : TypeId) (size : Nat) (f : α → List Value) (w W : World) (v : Value) (l : List α) : Prop where
  row : Row W e size v l.length (l.flatMap f)
  own : ∀ g, v.ownBlock = some g → w.heap.size ≤ g
  keep : Keeps (fun _ => False) w W

theorem Made.nil {α : Type} {e : TypeId} {size : Nat} {f : α → List Value} {w W : World} (hk : Keeps (fun _ => False) w W) : Made e size f w W (.slice none 0 0) ([] : List α) :=
  ⟨Row.nil _ _ _, fun g hg => by simp [Value.ownBlock] at hg, hk⟩

theorem Made.kept {α : Type} {e : TypeId} {size : Nat} {f : α → List Value} {w W W' : World} {v : Value} {l : List α} (h : Made e size f w W v l) (hk : Keeps (fun _ => False) W W') : Made e size f w W' v l :=
  ⟨h.row.kept hk (fun _ _ h => h), h.own, h.keep.tr hk (fun _ h => h)⟩

/-- append of one -/
theorem Made.push {α : Type} {e : TypeId} {size : Nat} {f : α → List Value} {w W W1 w' : World} {v v' : Value} {l : List α} {a : α} (h : Made e size f w W v l) (hW : Keeps (fun _ => False) W W1) (hr : Row w' e size v' (l.length + 1) (l.flatMap f ++ f a)) (hg : W1.grownBy w' v.ownBlock)
    (ho : v'.ownBlock = v.ownBlock ∨ v'.ownBlock = some W1.heap.size) : Made e size f w w' v' (l ++ [a]) := by
  have hz := h.keep.size
  have hz1 := hW.size
  refine ⟨by simpa using hr, fun g hgv => ?_, (h.keep.tr hW (fun _ h => h)).trans (Keeps.grown hg) (fun k hk e => ?_)⟩
  · rcases ho with e1 | e1
    · exact h.own g (by rw [← e1]; exact hgv)
    · rw [hgv] at e1
      simp at e1
      omega
  · have := h.own k e.symm
    omega

/-- a record -/
structure RecB where
  key : ByteArray
  value : ByteArray
  gone : Bool

def RecB.cells (r : RecB) : List Value := [.string r.key, .string r.value, .bool r.gone]

def RecB.val (r : RecB) : Value := .agg #[.string r.key, .string r.value, .bool r.gone]

theorem RecB.len (r : RecB) : r.cells.length = 3 := rfl

def RecB.zero : RecB := ⟨ByteArray.empty, ByteArray.empty, false⟩

theorem Tryz.infoRec : (Tryz.prog.info? 139).map (fun i => (i.zero, i.size, i.bytes)) = some (some (.agg #[.string ⟨#[]⟩, .string ⟨#[]⟩, .bool false]), 3, 40) := by kernel_rfl

theorem gtr_str (x y : ByteArray) : (!ltK x y && !(x.toList == y.toList)) = ltK y x := by
  cases h1 : ltK x y with
  | true =>
    have h2 : ltK y x = false := by
      cases h3 : ltK y x with
      | false => rfl
      | true => have := ltK_trans h1 h3; rw [ltK_irrefl] at this; cases this
    simp [h2]
  | false =>
    cases h3 : ltK y x with
    | true =>
      have hne := (Lib.bytes_beq_false_iff x y).2 (fun e => by rw [e, ltK_irrefl] at h3; cases h3)
      simp [hne]
    | false =>
      have e := ltK_total h1 h3
      subst e
      simp

/-- the same slice, its length written otherwise -/
theorem Made.slice {α : Type} {e : TypeId} {size : Nat} {f : α → List Value} {w W : World} {v v' : Value} {l : List α} (h : Made e size f w W v l) (hv : v = v') : Made e size f w W v' l := hv ▸ h

/-- block k holds elements of type e -/
def TypeIs (w : World) (k : Nat) (e : TypeId) : Prop := ∃ cur, w.heap[k]? = some (.cells cur e (0, 0))

theorem TypeIs.lt {w : World} {k : Nat} {e : TypeId} (h : TypeIs w k e) : k < w.heap.size := by
  obtain ⟨cur, h⟩ := h
  exact (Array.getElem?_eq_some_iff.1 h).1

theorem TypeIs.kept {w w' : World} {k : Nat} {e : TypeId} {S : Nat → Prop} (h : TypeIs w k e) (hk : Keeps S w w') (hS : ¬ S k) : TypeIs w' k e := by
  obtain ⟨cur, h⟩ := h
  exact ⟨cur, (hk.block k (Array.getElem?_eq_some_iff.1 h).1 hS).trans h⟩

theorem TypeIs.ne {w : World} {k : Nat} {e e' : TypeId} (h : TypeIs w k e) (hne : e ≠ e') : ¬ TypeIs w k e' := by
  rintro ⟨cur', h'⟩
  obtain ⟨cur, h⟩ := h
  rw [h] at h'
  simp only [Option.some.injEq, Obj.cells.injEq] at h'
  exact hne h'.2.1

theorem Row.typeIs {w : World} {e : TypeId} {size n : Nat} {v : Value} {xs : List Value} (h : Row w e size v n xs) {g : Nat} (hg : v.ownBlock = some g) : TypeIs w g e := h.cellsAt hg

theorem Keeps.drN {S : Nat → Prop} {a w : World} (h : Keeps S a w) (q : Nat) : Keeps S a (w.drewN q) := h.tr (T := fun _ => False) ⟨rfl, rfl, rfl, Nat.le_refl _, fun _ _ _ => rfl⟩ (fun _ h => h.elim)

end Go.Proofs.YtgianpccgcjmjaaGreatDoor

/- number. -/
namespace Go.Proofs.YtgianpccgcjmjaaGreatDoor
open Go.RowKit Go.Shelf

def byteCells (b : UInt8) : List Value := [.int .u8 (b.toNat : Nat)]

theorem byte_flat (l : List UInt8) : l.flatMap byteCells = l.map fun b => Value.int .u8 (b.toNat : Nat) := by
  induction l with
  | nil => rfl
  | cons b l ih => simp [byteCells, ih]

/-- a list of bytes as a text -/
theorem bytes_row {W : World} {g cap : Nat} {l : List UInt8} (h : Row W 5 1 (.slice (some ⟨g, 0, none⟩) l.length cap) l.length (l.flatMap byteCells)) :
    (convert 194 9 (.slice (some ⟨g, 0, none⟩) l.length cap)).run Tryz.prog W = .ok (.string (ofL l)) W := by
  rw [run_convert_bytes_string W _ _ 5 _ _ _ Tryz.underlying194 Tryz.underlying5 Tryz.underlying9]
  have hr := h
  rw [byte_flat] at hr
  have hl := run_loadCells_list (P := Tryz.prog) (w := W) ⟨g, 0, none⟩ ((l.map fun b => ((b.toNat : Nat) : Int)).map (Value.int .u8)) (fun j v hj => by
    rw [Addr.add_lit, Nat.zero_add]
    have hj' : j < l.length := by
      have := (List.getElem?_eq_some_iff.1 hj).1
      simpa using this
    rw [hr.cellAt j (by omega)]
    simpa using hj)
  simp only [List.length_map] at hl
  rw [run_bytesToString W _ _ _ _ hl]
  congr 2
  have gen : ∀ (l : List UInt8) (a : List UInt8), (l.map fun b => ((b.toNat : Nat) : Int)).foldl (fun r n => r.push (UInt8.ofNat n.toNat)) (ofL a) = ofL (a ++ l) := by
    intro l
    induction l with
    | nil => intro a; simp
    | cons n l ih =>
      intro a
      have e : (ofL a).push (UInt8.ofNat ((n.toNat : Nat) : Int).toNat) = ofL (a ++ [n]) := by
        apply ByteArray.ext
        simp [ofL, ByteArray.push]
      rw [List.map_cons, List.foldl_cons, e, ih]
      simp
  exact gen l []

theorem or128 {m : Nat} : bits BinOp.or IntKind.u8 ((m : Int) % 256) 128 = ((m % 128 + 128 : Nat) : Int) := by
  have h := (bits_nat .u8 8 (by simp [IntKind.bits]) (fun n h0 h1 => wraps_u8 n h0 h1) (m % 256) 128 (by omega) (by omega)).2
  have e1 : ((m % 256 : Nat) : Int) = (m : Int) % 256 := by omega
  have e2 : ((128 : Nat) : Int) = 128 := rfl
  rw [e1, e2] at h
  rw [h]
  have hall : ∀ i : Fin 256, i.val ||| 128 = i.val % 128 + 128 := by decide +kernel
  have := hall ⟨m % 256, by omega⟩
  simp only at this
  rw [this]
  omega

theorem Tryz.infoByte : (Tryz.prog.info? 5).map (fun i => (i.zero, i.size, i.bytes)) = some (some (.int .u8 0), 1, 1) := by kernel_rfl

theorem numL_len : ∀ (f n : Nat), n < 128 ^ (f + 1) → (numL n).length ≤ f + 1
  | 0, n, h => by rw [numL_small (by simpa using h)]; simp
  | f + 1, n, h => by
    by_cases hn : n < 128
    · rw [numL_small hn]; simp
    · rw [numL_great hn, List.length_cons]
      have := numL_len f (n / 128) (Nat.div_lt_of_lt_mul (by rw [Nat.pow_succ, Nat.mul_comm] at h; exact h))
      omega

set_option maxRecDepth 100000 in
set_option maxHeartbeats 1000000 in
theorem number_any (n0 : Nat) (w : World) (h0 : n0 < 9223372036854775808) :
    Calls Tryz.prog 124 #[.int .i64 (n0 : Nat)] w fun e w' => e = .returned (.string (ofL (numL n0))) ∧ Keeps (fun _ => False) w w' := by
  obtain ⟨i0, hi, hz0, hz1, hz2⟩ := info_parts Tryz.infoByte
  have HL : Hid ((numL n0).length ≤ 9) := numL_len 8 n0 (by omega)
  go_enter Tryz.func124, Tryz.ntmps124
  go_wp2_with fail
  go_loopw [0, 3] (fun z v wr => ∃ (m : Nat) (pre : List UInt8), m ≤ n0 ∧ z = .int .i64 (m : Nat) ∧ Made 5 1 byteCells w wr v pre ∧ pre ++ numL m = numL n0) (fun z _ _ => (intOf z).toNat)
  case atStart => exact ⟨n0, [], Nat.le_refl _, rfl, Made.nil (Keeps.refl _ _), rfl⟩
  case round =>
    obtain ⟨m, pre, hm, rfl, hM, he⟩ := hrel
    obtain ⟨ob, cb, rfl, hmx, -⟩ := hM.row.form
    have HP : Hid (pre.length ≤ 9) := by
      have h1 := congrArg List.length he
      have h2 := HL.out
      rw [List.length_append] at h1
      show _ ≤ _
      omega
    have HM := hid hM
    have HE := hid he
    have hmI : (m : Int) ≤ 9223372036854775807 := by omega
    unfold maxLen at hmx
    clear hM he
    by_cases hlt : m < 128
    · have HN : Hid (numL n0 = pre ++ [UInt8.ofNat m]) := by
        show _ = _
        rw [← HE.out, numL_small hlt]
      have hdv : (UInt8.ofNat m).toNat = m := toNat_ofNat (by omega)
      have HDV := hid hdv
      have hltI : (m : Int) < 128 := by omega
      clear hdv
      generalize UInt8.ofNat m = d at *
      go_wp2_with (at_builtin; go_must (refine wpList_append_row _ rfl _ _ 194 rfl 5 i0 _ 1 1 Tryz.underlying194 hi hz0 hz1 hz2 rfl (.slice ob pre.length cb) pre.length _ rfl (HM.out.row.kept (Keeps.alloc (fun _ => False) _ _) (fun _ _ h => h)) ⟨wr.heap.size, 0, none⟩ 1 1 [.int .u8 (m : Nat)] rfl rfl (news_arr wr #[.int .u8 (m : Nat)] _) (by simp [Value.oneCell']) (by have := HP.out; unfold maxLen; omega) (by have := HP.out; omega) ?_; intro v' w2 hown' hgrow _ hat; obtain ⟨g', cap', rfl⟩ := hown'.succ; have hM2 := HM.out.push (a := d) ((Keeps.refl _ _).al _) (by simpa [byteCells, HDV.out] using hown') hgrow hat; have hr2 := hM2.row; simp only [List.length_append, List.length_cons, List.length_nil, Nat.zero_add] at hr2; have hcv := bytes_row (l := pre ++ [d]) (by simpa using hr2); simp only [List.length_append, List.length_cons, List.length_nil, Nat.zero_add] at hcv; have HM2 := hid hM2; clear hown' hgrow hat hM2 hr2))
      go_ret
      exact ⟨by rw [HN.out]; rfl, HM2.out.keep⟩
    · have e1 := or128 (m := m)
      have hd : m % 128 + 128 < 256 := by omega
      have HN : Hid ((pre ++ [UInt8.ofNat (m % 128 + 128)]) ++ numL (m / 128) = numL n0) := by
        show _ = _
        rw [← HE.out, numL_great hlt]
        simp
      have hdv : (UInt8.ofNat (m % 128 + 128)).toNat = m % 128 + 128 := toNat_ofNat hd
      rw [← hdv] at e1
      generalize UInt8.ofNat (m % 128 + 128) = d at *
      have hltI : (128 : Int) ≤ m := by omega
      clear hd hdv
      go_wp2_with (at_builtin; go_must (refine wpList_append_row _ rfl _ _ 194 rfl 5 i0 _ 1 1 Tryz.underlying194 hi hz0 hz1 hz2 rfl (.slice ob pre.length cb) pre.length _ rfl (HM.out.row.kept (Keeps.alloc (fun _ => False) _ _) (fun _ _ h => h)) ⟨wr.heap.size, 0, none⟩ 1 1 [.int .u8 (d.toNat : Nat)] rfl rfl (news_arr wr #[.int .u8 (d.toNat : Nat)] _) (by simp [Value.oneCell']) (by have := HP.out; unfold maxLen; omega) (by have := HP.out; omega) ?_; intro v' w2 hown' hgrow _ hat; have HM2 := hid (HM.out.push (a := d) ((Keeps.refl _ _).al _) hown' hgrow hat); clear hown' hgrow hat))
      exact ⟨⟨m / 128, pre ++ [d], by omega, by go_num, HM2.out, HN.out⟩, by simp only [intOf]; omega⟩

end Go.Proofs.YtgianpccgcjmjaaGreatDoor
