import Derived.Test.YtpagenipflmlfaaGreatDoorM08

/- forget: a key that has no version left. -/

namespace Go.Proofs.YtpagenipflmlfaaGreatDoor

open Go.RowKit

theorem own_ne {g s n c : Nat} (h : s ≠ g) : ¬ (Value.slice (some ⟨g, 0, none⟩) n c).ownBlock = some s := fun e => h (by simpa [Value.ownBlock, eq_comm] using e)

theorem own_eq {g s n c : Nat} (h : (Value.slice (some ⟨g, 0, none⟩) n c).ownBlock = some s) : g = s := by simpa [Value.ownBlock] using h

theorem StoreAt.forgot {w w' : World} {R : Rep} {S : Nat → Prop} (key : ByteArray) {kv' : Value} {keys' : List ByteArray} {b : Nat} (h : StoreAt w R) (hk : Keeps S w w')
    (hS : ∀ k, k < w.heap.size → S k → k = R.sb ∨ R.kv.ownBlock = some k ∨ R.vm = some k)
    (ht : w'.heap[R.sb]? = some (.cells (topCells { R with kv := kv' }) 65 (0, 0)))
    (hkr : Row w' 9 1 kv' keys'.length (keys'.map Value.string)) (hvm : R.vm = some b)
    (hm : MapAt Value.string w' b (del (R.hist.map fun p => (p.1, p.2.sl)) key)) (hkv : kv'.ownBlock = R.kv.ownBlock) :
    StoreAt w' { R with kv := kv', keys := keys', hist := del R.hist key } ∧ (Rep.fp { R with kv := kv', keys := keys', hist := del R.hist key }).Sublist R.fp := by
  have hlt := fp_lt h
  have hnd := h.nodup
  have hsub : (Rep.fp { R with kv := kv', keys := keys', hist := del R.hist key }).Sublist R.fp := by
    show (R.sb :: (R.fpWorks ++ (kv'.ownBlock.toList ++ R.vm.toList ++ (del R.hist key).flatMap (fun p => p.2.sl.ownBlock.toList)))).Sublist (R.sb :: (R.fpWorks ++ (R.kv.ownBlock.toList ++ R.vm.toList ++ R.hist.flatMap (fun p => p.2.sl.ownBlock.toList))))
    rw [hkv]
    exact List.Sublist.cons_cons _ (List.Sublist.append_left (List.Sublist.append_left (flatMap_sublist _ (del_sublist _ _)) _) _)
  have hnd1 := hnd
  simp only [Rep.fp, Rep.fpPast, List.nodup_cons, List.nodup_append, List.mem_append, not_or] at hnd1
  obtain ⟨⟨n1, ⟨n2, n3⟩, n4⟩, n5, ⟨⟨n6, n7, n8⟩, n9, n10⟩, n11⟩ := hnd1
  have hns : ∀ k ∈ R.fpWorks, ¬ S k := by
    intro k hk1 hs
    rcases hS k (hlt k (by simp [Rep.fp, hk1])) hs with e | e | e
    · exact n1 (e ▸ hk1)
    · exact n11 k hk1 k (.inl (.inl (by simp [e]))) rfl
    · exact n11 k hk1 k (.inl (.inr (by simp [e]))) rfl
  have hnh : ∀ p ∈ R.hist, ∀ g, p.2.sl.ownBlock = some g → ¬ S g := by
    intro p hp g hg hs
    have hgd : g ∈ R.hist.flatMap (fun p => p.2.sl.ownBlock.toList) := List.mem_flatMap.2 ⟨p, hp, by simp [hg]⟩
    rcases hS g (hlt g (by simp only [Rep.fp, Rep.fpPast, List.mem_cons, List.mem_append]; exact .inr (.inr (.inr hgd)))) hs with e | e | e
    · exact n4 (e ▸ hgd)
    · exact n10 g (.inl (by simp [e])) g hgd rfl
    · exact n10 g (.inr (by simp [e])) g hgd rfl
  have hw := h.works.kept hk hns
  refine ⟨⟨ht, ⟨hw.worksMap, hw.worksEach, hw.pinsMap, hw.copyMap⟩, ⟨hkr, ?_, ?_⟩, hsub.nodup hnd⟩, hsub⟩
  · show OptMap _ _ R.vm _
    rw [hvm]
    show MapAt _ _ _ _
    rw [← del_map]
    exact hm
  · intro p hp
    have hp1 := (del_sublist _ _).subset hp
    exact (h.past.histEach p hp1).kept hk (hnh p hp1)

/-- What forget leaves. -/
def ForgetPost (R : Rep) (key : ByteArray) (w w' : World) : Prop :=
  ∃ kv', StoreAt w' { R with kv := kv', keys := R.keys.eraseIdx (below R.keys key), hist := del R.hist key } ∧ (Rep.fp { R with kv := kv', keys := R.keys.eraseIdx (below R.keys key), hist := del R.hist key }).Sublist R.fp ∧ Keeps (· ∈ R.fp) w w'

set_option maxRecDepth 100000 in
set_option maxHeartbeats 300000 in
theorem forget_any (R : Rep) (key : ByteArray) (w : World) (h : StoreAt w R) (hr : Rises R.keys) (hm : memB R.keys key = true) (b : Nat) (hvm : R.vm = some b) (hl : R.keys.length < 1000000000000) :
    Calls Tryz.prog 144 #[.pointer (some ⟨R.sb, 7, none⟩), .string key] w fun e w' => e = .returned (.tuple #[]) ∧ ForgetPost R key w w' := by
  have hM : MapAt Value.string w b (R.hist.map fun p => (p.1, p.2.sl)) := by have := h.past.histMap; rw [hvm] at this; exact this
  have c6 : w.cell? ⟨R.sb, 8, none⟩ = some (.map (some b)) := (h.cell 8).trans (by rw [← hvm]; rfl)
  have hrow := h.past.keysRow
  obtain ⟨hbl, hbk⟩ := (below_mem (x := key) hr).2 ((memB_iff _ _).1 hm)
  obtain ⟨a, capv, hkv, hnl, ha⟩ := hrow.form
  obtain ⟨g, rfl⟩ := ha (by omega)
  have c5 : w.cell? ⟨R.sb, 7, none⟩ = some (.slice (some ⟨g, 0, none⟩) R.keys.length capv) := (h.cell 7).trans (by rw [← hkv]; rfl)
  have hlt := h.lt
  have hf5 : w.frozen? ⟨R.sb, 7, none⟩ = false := h.frozen 7
  have hnd1 := h.nodup
  simp only [Rep.fp, Rep.fpPast, List.nodup_cons, List.nodup_append, List.mem_append, not_or, hkv, hvm] at hnd1
  have hsg : R.sb ≠ g := fun e => hnd1.1.2.1.1 (by simp [Value.ownBlock, e])
  have hsb : R.sb ≠ b := fun e => hnd1.1.2.1.2 (by simp [e])
  have hgb : g ≠ b := fun e => hnd1.2.2.1.1.2.2 g (by simp [Value.ownBlock]) b (by simp) e
  rw [hkv] at hrow
  have HROW : Hid (Row w 9 1 (.slice (some ⟨g, 0, none⟩) R.keys.length capv) R.keys.length (R.keys.map Value.string)) := hrow
  have HROW1 : Hid (∀ w1, Keeps (· = b) w w1 → Row w1 9 1 (.slice (some ⟨g, 0, none⟩) R.keys.length capv) R.keys.length (R.keys.map Value.string)) := fun w1 hk => hrow.kept hk (fun k hk' e => by
    have h2 : k = b := e
    exact hgb ((own_eq hk').trans h2))
  have HFZ : Hid (∀ w1 w2 w3, Keeps (· = b) w w1 → Keeps (fun _ => False) w1 w2 → Keeps (fun k => (Value.slice (some ⟨g, 0, none⟩) R.keys.length capv).ownBlock = some k) w2 w3 → w3.frozen? ⟨R.sb, 7, none⟩ = false) := fun w1 w2 w3 h1 h2 h3 => by
    rw [h3.frozen (by have := h1.size; have := h2.size; show R.sb < _; omega) (own_ne hsg), h2.frozen (by have := h1.size; show R.sb < _; omega) (fun h => h), h1.frozen hlt hsb]
    exact hf5
  have HST : Hid (StoreAt w R) := h
  have HR : Hid (Rises R.keys) := hr
  have HM : Hid (MapAt Value.string w b (R.hist.map fun p => (p.1, p.2.sl))) := hM
  have HKV : Hid (R.kv = .slice (some ⟨g, 0, none⟩) R.keys.length capv) := hkv
  have HVM : Hid (R.vm = some b) := hvm
  have HL : Hid (R.keys.length < 1000000000000) := hl
  have HSG : Hid (R.sb ≠ g) := hsg
  have HSB : Hid (R.sb ≠ b) := hsb
  have HGB : Hid (g ≠ b) := hgb
  have HMEM : Hid (memB R.keys key = true) := hm
  obtain ⟨i, hi⟩ : ∃ i, below R.keys key = i := ⟨_, rfl⟩
  rw [hi] at hbl
  have HI : Hid (below R.keys key = i) := hi
  have hib : i < 1000000000000 := by omega
  clear h hr hM hkv hvm hl hnd1 hsg hsb hgb hrow hm hi hbk
  go_enter Tryz.func144, Tryz.ntmps144
  go_wp2_with (first
    | (at_delete; go_must (refine wpList_delete_at _ rfl _ _ 61 9 rfl 114 strKeyOk Tryz.underlying61 Tryz.underlying9 b rfl key rfl _ HM.out ?_; intro w1 hm1 hk1 hz1; have c51 := hk1.cell (p := ⟨R.sb, 7, none⟩) c5 HSB.out))
    | (go_at_call 92; go_must (refine (search_keys _ R.keys key w1 (HROW1.out w1 hk1) HR.out (by have := HL.out; omega)).mono ?_; rw [HI.out, HMEM.out]; rintro e w2 ⟨rfl, hk2⟩; have c52 := hk2.cell (p := ⟨R.sb, 7, none⟩) c51 (fun h => h)))
    | (go_at_call 163; go_must (refine (delete_key _ R.keys i w2 ((HROW1.out w1 hk1).kept hk2 (fun _ _ h => h)) hbl).mono ?_; rintro e w3 ⟨g', cap', hg', rfl, hrow3, hk3⟩; obtain rfl : g = g' := own_eq hg'; have c53 := hk3.cell (p := ⟨R.sb, 7, none⟩) c52 (own_ne HSG.out); have hf53 : w3.frozen? ⟨R.sb, 7, none⟩ = false := HFZ.out w1 w2 w3 hk1 hk2 hk3)))
  go_end0
  have hkk : Keeps (fun k => k = R.sb ∨ k = g ∨ k = b) w (w3.setCell ⟨R.sb, 7, none⟩ (.slice (some ⟨g, 0, none⟩) (R.keys.length - 1) cap')) := (((hk1.mono (fun _ _ h => .inr (.inr h))).tr hk2 (fun _ h => h.elim)).tr hk3 (fun _ h => .inr (.inl (own_eq h).symm))).tr (Keeps.setCell _ _ _) (fun _ h => .inl h)
  have hlen : (R.keys.eraseIdx i).length = R.keys.length - 1 := List.length_eraseIdx_of_lt hbl
  have h3 : w3.heap[R.sb]? = some (.cells (topCells R) 65 (0, 0)) := by
    rw [hk3.block R.sb (by have := hk1.size; have := hk2.size; omega) (own_ne HSG.out), hk2.block R.sb (by have := hk1.size; omega) (fun h => h), hk1.block R.sb hlt HSB.out]
    exact HST.out.top
  have hres := HST.out.forgot key (kv' := .slice (some ⟨g, 0, none⟩) (R.keys.length - 1) cap') (keys' := R.keys.eraseIdx i) (b := b) hkk (fun k _ hs => ?_) ?_ ?_ HVM.out ?_ (by rw [HKV.out]; rfl)
  · rw [← HI.out] at hres
    refine ⟨rfl, _, hres.1, hres.2, hkk.mono (fun k _ hs => ?_)⟩
    rcases hs with rfl | rfl | rfl
    · simp [Rep.fp]
    · simp [Rep.fp, Rep.fpPast, HKV.out, Value.ownBlock]
    · simp [Rep.fp, Rep.fpPast, HVM.out]
  · rcases hs with h | h | h
    · exact .inl h
    · exact .inr (.inl (by rw [HKV.out, h]; rfl))
    · exact .inr (.inr (by rw [HVM.out, h]))
  · rw [heap_setCell_same h3]
    rfl
  · rw [hlen]
    exact hrow3.kept (Keeps.setCell _ _ _) (fun k hk e => HSG.out (by
      have h1 : k = R.sb := e
      exact h1.symm.trans (own_eq hk).symm))
  · exact ((hm1.kept hk2 (fun h => h)).kept hk3 (fun h => HGB.out (own_eq h))).kept (Keeps.setCell _ _ _) (fun e => HSB.out (Eq.symm e))

end Go.Proofs.YtpagenipflmlfaaGreatDoor

/- Drop: the last version of a key is taken back. -/

namespace Go.Proofs.YtpagenipflmlfaaGreatDoor

open Go.RowKit

/-- clear(all[last:]), and what is left of the versions then -/
theorem clear_last (g m cap : Nat) (xs : List Value) (w : World) (h : Row w 107 3 (.slice (some ⟨g, 0, none⟩) (m + 1) cap) (m + 1) xs) :
    ∃ wc, (Builtin.clear_ #[114] 0 #[.slice (some ⟨g, m * 3, none⟩) 1 (cap - m)]).run Tryz.prog w = .ok (.tuple #[]) wc ∧ Keeps (· = g) w wc ∧ Row wc 107 3 (.slice (some ⟨g, 0, none⟩) m m) m (xs.take (m * 3)) := by
  rcases h.2 with ⟨e, _⟩ | ⟨g', cap', cur, e, hg, hnc, hcm, hcs, htk⟩
  · cases e
  · cases e
    have hsz : (m + 1) * 3 ≤ cur.size := Nat.le_trans (Nat.mul_le_mul_right 3 hnc) hcs
    have hst := run_storeCells_cells (P := Tryz.prog) g (m * 3) [.int .i64 0, .string ⟨#[]⟩, .bool false] 0 w (fun j hj => by
        rw [cell_of_heap hg]
        simp at hj ⊢
        omega) (fun j _ => frozen_of_heap hg _) (by simp [Value.oneCell'])
    refine ⟨w.setCells g (m * 3) [.int .i64 0, .string ⟨#[]⟩, .bool false], ?_, Keeps.setCells _ _ _ _, ⟨?_, .inr ⟨g, m, _, rfl, heap_setCells _ _ _ _ _ hg, Nat.le_refl _, by omega, by rw [putL_size]; omega, ?_⟩⟩⟩
    · have hz : (Builtin.zeroCells (Value.agg #[.int .i64 0, .string ⟨#[]⟩, .bool false]).cells 1).toList = [.int .i64 0, .string ⟨#[]⟩, .bool false] := by kernel_rfl
      simp only [Nat.add_zero] at hst
      simp [Builtin.clear_, run_underlying Tryz.underlying114, hz, hst]
    · rw [List.length_take, h.1]
      omega
    · rw [putL_toList _ _ _ (by simp; omega), List.append_assoc, List.take_append_of_le_length (by simp; omega), List.take_take, Nat.min_self, ← htk, List.take_take, Nat.min_eq_left (by omega)]

theorem take_last {vs : List Ver} {v : Ver} {m : Nat} (hm : vs.length = m) : ((vs ++ [v]).flatMap Ver.cells).take (m * 3) = vs.flatMap Ver.cells := by
  rw [List.flatMap_append, List.take_left' (by rw [cells_length, hm])]

/-- How the store lies when the last version is cut off. -/
theorem StoreAt.dropped {w wc : World} {R : Rep} {key : ByteArray} {x : HsR} {vs : List Ver} {v : Ver} {g b m cap : Nat} {ob : Obj} (h : StoreAt w R) (hx : look R.hist key = some x) (hxv : x.vers = vs ++ [v]) (hm : vs.length = m) (hxs : x.sl = .slice (some ⟨g, 0, none⟩) (vs.length + 1) cap) (hvm : R.vm = some b)
    (hkc : Keeps (· = g) w wc) (hRc : Row wc 107 3 (.slice (some ⟨g, 0, none⟩) m m) m ((x.vers.flatMap Ver.cells).take (m * 3))) (hM1 : MapAt Value.string (Go.ChangeMaps.setBlock wc.drew b ob) b (put (R.hist.map fun p => (p.1, p.2.sl)) key (.slice (some ⟨g, 0, none⟩) m m))) (hN : g ≠ R.sb ∧ g ≠ b ∧ R.sb ≠ b ∧ g < w.heap.size) :
    StoreAt (Go.ChangeMaps.setBlock wc.drew b ob) { R with vm := some b, hist := put R.hist key ⟨.slice (some ⟨g, 0, none⟩) m m, vs⟩ } ∧ Keeps (· ∈ R.fp) w (Go.ChangeMaps.setBlock wc.drew b ob) ∧ ∀ k ∈ Rep.fp { R with vm := some b, hist := put R.hist key ⟨.slice (some ⟨g, 0, none⟩) m m, vs⟩ }, k ∈ R.fp := by
  obtain ⟨hgs, hgb, hsb, hgl⟩ := hN
  have hsl : slOf R.hist key = x.sl := by unfold slOf; rw [hx]; rfl
  have hkk : Keeps (fun k => k = g ∨ k = b) w (Go.ChangeMaps.setBlock wc.drew b ob) := ((hkc.mono (fun _ _ h => .inl h)).dr).tr (Keeps.setBlock wc.drew b ob) (fun _ h => .inr h)
  have hkvn : ∀ k, R.kv.ownBlock = some k → k ≠ b ∧ k ≠ g := fun k hk => by
    have hn := ((fp_perm R key).nodup_iff).1 h.nodup
    rw [List.nodup_append] at hn
    have hd1 := hn.2.2
    rw [hsl, hxs] at hd1
    exact ⟨fun e => hd1 k (by simp [hk]) k (List.mem_append_right _ (by simp [Rep.restOf, hvm, e])) rfl, fun e => hd1 k (by simp [hk]) k (List.mem_append_left _ (by simp [e, Value.ownBlock])) rfl⟩
  have hgf : (slOf R.hist key).ownBlock = some g := by rw [hsl, hxs]; rfl
  refine ⟨h.added key hkk (fun k _ hs => ?_) ?_ ?_ hM1 ?_ (fun g hg => .inl hg) (fun k hk => .inl ?_) (.inl hvm) ?_, hkk.mono (fun k _ hs => ?_), fun k hk => ?_⟩
  · rcases hs with rfl | rfl
    · exact .inr (.inr (.inr hgf))
    · exact .inr (.inr (.inl hvm))
  · have e : topCells { R with kv := R.kv, vm := some b } = topCells R := by simp [topCells, hvm]
    rw [e]
    exact (hkk.block R.sb h.lt (by rintro (h | h); exact hgs h.symm; exact hsb h)).trans h.top
  · exact h.past.keysRow.kept hkk (fun k hk => by rintro (h | h); exact (hkvn k hk).2 h; exact (hkvn k hk).1 h)
  · rw [hxv, take_last hm] at hRc
    rw [hm]
    exact (hRc.kept (Keeps.drew (fun _ => False) wc) (fun _ _ h => h)).kept (Keeps.setBlock wc.drew b ob) (fun k hk e => hgb ((own_eq hk).trans e))
  · rw [hgf, own_eq hk]
  · cases hkb : R.kv.ownBlock with
    | none => simp [Value.ownBlock, hgb]
    | some k =>
      have h1 := hkvn k hkb
      simp [Value.ownBlock, hgb, h1.1, h1.2]
  · rw [(fp_perm R key).mem_iff]
    rcases hs with rfl | rfl
    · exact List.mem_append_right _ (List.mem_append_left _ (by simp [hgf]))
    · exact List.mem_append_right _ (List.mem_append_right _ (by simp [Rep.restOf, hvm]))
  · rcases addFp (R := R) (key := key) (kv' := R.kv) (sl' := .slice (some ⟨g, 0, none⟩) m m) (keys' := R.keys) (b := b) (vs' := vs) (n := k + 1) (fun _ h => .inl h) (fun k hk => .inl (by rw [hgf, own_eq hk])) (.inl hvm) k hk with h1 | h1
    · exact h1
    · omega

theorem rises_nodup {ks : List ByteArray} (hr : Rises ks) : ks.Nodup := by
  refine hr.imp (fun h e => ?_)
  rw [e, ltK_irrefl] at h
  cases h

theorem memB_erase {ks : List ByteArray} {x : ByteArray} (hr : Rises ks) (hm : memB ks x = true) (k : ByteArray) : memB (ks.eraseIdx (below ks x)) k = (decide (x ≠ k) && memB ks k) := by
  obtain ⟨hb, hbk⟩ := (below_mem (x := x) hr).2 ((memB_iff _ _).1 hm)
  have hnd := rises_nodup hr
  rw [Bool.eq_iff_iff, memB_iff, List.mem_eraseIdx_iff_getElem]
  simp only [Bool.and_eq_true, decide_eq_true_eq, memB_iff]
  constructor
  · rintro ⟨i, hi, hne, rfl⟩
    refine ⟨fun e => hne ?_, List.getElem_mem hi⟩
    exact (List.getElem_inj hnd).1 (e.symm.trans hbk.symm)
  · rintro ⟨hne, hk⟩
    obtain ⟨i, hi, rfl⟩ := List.getElem_of_mem hk
    refine ⟨i, hi, fun e => hne ?_, rfl⟩
    subst e
    exact hbk.symm

/-- What Drop leaves: the key has vs. -/
def DropPost (R : Rep) (key : ByteArray) (vs : List Ver) (w w' : World) : Prop :=
  ∃ R', StoreAt w' R' ∧ R' = { R with kv := R'.kv, keys := R'.keys, vm := R'.vm, hist := R'.hist } ∧ Tied R' ∧ (∀ k, versOf R'.hist k = if key = k then vs else versOf R.hist k) ∧
    Keeps (· ∈ R.fp) w w' ∧ (∀ k ∈ R'.fp, k ∈ R.fp) ∧ R'.keys.length ≤ R.keys.length

theorem drop_more {R : Rep} {key : ByteArray} {vs : List Ver} {sl : Value} {b : Nat} {w w1 : World} (h : StoreAt w R) (t : Tied R) (hvs : vs ≠ []) (hm : memB R.keys key = true) (hS : StoreAt w1 { R with vm := some b, hist := put R.hist key ⟨sl, vs⟩ }) (hk : Keeps (· ∈ R.fp) w w1)
    (hf : ∀ k ∈ Rep.fp { R with vm := some b, hist := put R.hist key ⟨sl, vs⟩ }, k ∈ R.fp) : DropPost R key vs w w1 := by
  refine ⟨_, hS, rfl, ⟨t.rises, fun k => ?_, fun p hp => ?_⟩, fun k => versOf_put _ _ _ _, hk, hf, Nat.le_refl _⟩
  · show memB R.keys k = (look (put R.hist key ⟨sl, vs⟩) k).isSome
    rw [look_put]
    split
    · rename_i e
      rw [← e, hm]
      rfl
    · exact t.keys k
  · rcases mem_put (hist_nodup h.past) hp with rfl | ⟨h1, _⟩
    · exact hvs
    · exact t.filled p h1

theorem drop_last {R : Rep} {key : ByteArray} {vs : List Ver} {sl : Value} {b : Nat} {w w1 w2 : World} (h : StoreAt w R) (t : Tied R) (hvs : vs = []) (hm : memB R.keys key = true) (hk : Keeps (· ∈ R.fp) w w1)
    (hf : ∀ k ∈ Rep.fp { R with vm := some b, hist := put R.hist key ⟨sl, vs⟩ }, k ∈ R.fp) (hg : ForgetPost { R with vm := some b, hist := put R.hist key ⟨sl, vs⟩ } key w1 w2) : DropPost R key vs w w2 := by
  obtain ⟨kv', hS, hsub, hk2⟩ := hg
  have hdel : del (put R.hist key ⟨sl, vs⟩) key = del R.hist key := del_put _ _ _
  have hnd := hist_nodup h.past
  refine ⟨_, hS, rfl, ⟨?_, fun k => ?_, fun p hp => ?_⟩, fun k => ?_, hk.tr hk2 (fun k hk => hf k hk), fun k hk => hf k (hsub.subset hk), ?_⟩
  · exact t.rises.sublist (List.eraseIdx_sublist _ _)
  · show memB (R.keys.eraseIdx (below R.keys key)) k = (look (del (put R.hist key ⟨sl, vs⟩) key) k).isSome
    rw [hdel, look_del _ hnd, memB_erase t.rises hm, t.keys]
    by_cases e : key = k
    · simp [e]
    · simp [e]
  · have hp' : p ∈ del (put R.hist key ⟨sl, vs⟩) key := hp
    rw [hdel] at hp'
    exact t.filled p ((del_sublist _ _).subset hp')
  · show versOf (del (put R.hist key ⟨sl, vs⟩) key) k = _
    rw [hdel]
    unfold versOf
    rw [look_del _ hnd]
    split
    · rw [hvs]; rfl
    · rfl
  · exact (List.eraseIdx_sublist _ _).length_le

set_option maxRecDepth 100000 in
set_option maxHeartbeats 500000 in
theorem drop_any (R : Rep) (key : ByteArray) (vs : List Ver) (v : Ver) (w : World) (h : StoreAt w R) (t : Tied R) (hv : versOf R.hist key = vs ++ [v]) (hl : R.keys.length < 1000000000000) (hvl : vs.length < 1000000000000) :
    Calls Tryz.prog 113 #[.pointer (some ⟨R.sb, 7, none⟩), .string key] w fun e w' => e = .returned (.tuple #[]) ∧ DropPost R key vs w w' := by
  obtain ⟨x, hx⟩ : ∃ x, look R.hist key = some x := by
    cases hx : look R.hist key with
    | some x => exact ⟨x, rfl⟩
    | none =>
      unfold versOf at hv
      rw [hx] at hv
      simp at hv
  have hxv : x.vers = vs ++ [v] := by unfold versOf at hv; rw [hx] at hv; exact hv
  obtain ⟨b, hvm⟩ : ∃ b, R.vm = some b := by
    cases hv : R.vm with
    | some b => exact ⟨b, rfl⟩
    | none =>
      have := h.past.histMap
      rw [hv] at this
      have e : R.hist = [] := List.map_eq_nil_iff.1 this
      rw [e] at hx
      cases hx
  have hM : MapAt Value.string w b (R.hist.map fun p => (p.1, p.2.sl)) := by have := h.past.histMap; rw [hvm] at this; exact this
  have c6 : w.cell? ⟨R.sb, 8, none⟩ = some (.map (some b)) := (h.cell 8).trans (by rw [← hvm]; rfl)
  have hlt := h.lt
  have hR := h.past.histEach _ (look_mem hx)
  have hxl : x.vers.length = vs.length + 1 := by rw [hxv]; simp
  rw [hxl] at hR
  have hR' : Row w 107 3 x.sl (vs.length + 1) (x.vers.flatMap Ver.cells) := hR
  obtain ⟨g, cap, hsl⟩ := hR'.succ
  have hlk : look (R.hist.map fun p => (p.1, p.2.sl)) key = some (.slice (some ⟨g, 0, none⟩) (vs.length + 1) cap) := by rw [look_map, hx, ← hsl]; rfl
  obtain ⟨m, hm⟩ : ∃ m, vs.length = m := ⟨_, rfl⟩
  rw [hm] at hlk hvl
  have HLK : Hid (look (R.hist.map fun p => (p.1, p.2.sl)) key = some (.slice (some ⟨g, 0, none⟩) (m + 1) cap)) := hlk
  have HST : Hid (StoreAt w R) := h
  have HT : Hid (Tied R) := t
  have HX : Hid (look R.hist key = some x) := hx
  have HVM : Hid (R.vm = some b) := hvm
  have HM : Hid (MapAt Value.string w b (R.hist.map fun p => (p.1, p.2.sl))) := hM
  have HR : Hid (Row w 107 3 x.sl (vs.length + 1) (x.vers.flatMap Ver.cells)) := hR
  have HL : Hid (R.keys.length < 1000000000000) := hl
  have HVS : Hid (x.vers = vs ++ [v]) := hxv
  have HMM : Hid (vs.length = m) := hm
  have HSL : Hid (x.sl = .slice (some ⟨g, 0, none⟩) (vs.length + 1) cap) := hsl
  have hcap : m + 1 ≤ cap := by
    rcases hR.2 with ⟨e, h0⟩ | ⟨g', cap', cur, e, hg, hnc, hcm, hcs, htk⟩
    · omega
    · rw [hsl] at e
      cases e
      omega
  have hRm : Row w 107 3 (.slice (some ⟨g, 0, none⟩) (m + 1) cap) (m + 1) (x.vers.flatMap Ver.cells) := by rw [← hm, ← hsl]; exact hR
  obtain ⟨wc, hclr, hkc, hRc⟩ := clear_last g m cap _ w hRm
  obtain ⟨hgs, hgb, hsb, hgl⟩ : g ≠ R.sb ∧ g ≠ b ∧ R.sb ≠ b ∧ g < w.heap.size := by
    have hn := ((fp_perm R key).nodup_iff).1 h.nodup
    rw [List.nodup_append, List.nodup_append] at hn
    have hsl' : slOf R.hist key = x.sl := by unfold slOf; rw [hx]; rfl
    have hd2 := hn.2.1.2.2
    have hr := hn.2.1.2.1
    rw [hsl', hsl] at hd2
    refine ⟨fun e => hd2 g (by simp [Value.ownBlock]) g (by simp [Rep.restOf, e]) rfl, fun e => hd2 g (by simp [Value.ownBlock]) g (by simp [Rep.restOf, hvm, e]) rfl, fun e => ?_, hRm.lt rfl⟩
    simp only [Rep.restOf, List.nodup_cons, List.mem_append, not_or] at hr
    exact hr.1.2.1 (by simp [hvm, e])
  have c6c : wc.cell? ⟨R.sb, 8, none⟩ = some (.map (some b)) := hkc.cell (p := ⟨R.sb, 8, none⟩) c6 (Ne.symm hgs)
  have hMc : MapAt Value.string wc.drew b (R.hist.map fun p => (p.1, p.2.sl)) := (hM.kept hkc (Ne.symm hgb)).kept (Keeps.drew (fun _ => False) wc) (fun h => h)
  obtain ⟨ob, hrun, hM1⟩ := hMc.update (P := Tryz.prog) (t := 61) strKeyOk Tryz.underlying61 Tryz.underlying9 key (.slice (some ⟨g, 0, none⟩) m m)
  have HM1 : Hid (MapAt Value.string (Go.ChangeMaps.setBlock wc.drew b ob) b (put (R.hist.map fun p => (p.1, p.2.sl)) key (.slice (some ⟨g, 0, none⟩) m m))) := hM1
  have HRC : Hid (Row wc 107 3 (.slice (some ⟨g, 0, none⟩) m m) m ((x.vers.flatMap Ver.cells).take (m * 3))) := hRc
  have HKC : Hid (Keeps (· = g) w wc) := hkc
  have HN : Hid (g ≠ R.sb ∧ g ≠ b ∧ R.sb ≠ b ∧ g < w.heap.size) := ⟨hgs, hgb, hsb, hgl⟩
  have hRS : R.sb < wc.heap.size := Nat.lt_of_lt_of_le hlt hkc.size
  clear hRm hkc hRc hMc hM1 hgs hgb hsb hgl
  clear h t hx hvm hM hR hR' hl hxv hm hsl hlk hv hxl
  go_enter Tryz.func113, Tryz.ntmps113
  go_wp2_with (at_lookup; go_must (refine wpList_lookup_at _ rfl _ _ 61 rfl 9 114 strKeyOk Tryz.underlying61 Tryz.underlying9 _ (Tryz.zeroVersions _) b rfl key rfl _ HM.out ?_; rw [HLK.out]; simp only [Option.getD_some]))
  go_region
  obtain ⟨hS1, hk1, hf1⟩ := HST.out.dropped HX.out HVS.out HMM.out HSL.out HVM.out HKC.out HRC.out HM1.out HN.out
  have hmem : memB R.keys key = true := by rw [HT.out.keys, HX.out]; rfl
  have HS1 : Hid (StoreAt (Go.ChangeMaps.setBlock wc.drew b ob) { R with vm := some b, hist := put R.hist key ⟨.slice (some ⟨g, 0, none⟩) m m, vs⟩ }) := hS1
  have HK1 : Hid (Keeps (· ∈ R.fp) w (Go.ChangeMaps.setBlock wc.drew b ob)) := hk1
  have HF1 : Hid (∀ k ∈ Rep.fp { R with vm := some b, hist := put R.hist key ⟨.slice (some ⟨g, 0, none⟩) m m, vs⟩ }, k ∈ R.fp) := hf1
  have HMEM : Hid (memB R.keys key = true) := hmem
  clear hS1 hk1 hf1 hmem hclr hrun c6c
  by_cases hm0 : m = 0
  · have hFG := forget_any { R with vm := some b, hist := put R.hist key ⟨.slice (some ⟨g, 0, none⟩) m m, vs⟩ } key _ HS1.out HT.out.rises HMEM.out b rfl HL.out
    go_wp2_with (go_at_call 144; go_must (refine hFG.mono ?_; rintro e w4 ⟨rfl, hf⟩))
    go_end0
    exact ⟨rfl, drop_last HST.out HT.out (List.eq_nil_of_length_eq_zero (HMM.out.trans hm0)) HMEM.out HK1.out HF1.out hf⟩
  · go_wp2
    go_end0
    exact ⟨rfl, drop_more HST.out HT.out (fun e => hm0 (HMM.out.symm.trans (by rw [e]; rfl))) HMEM.out HS1.out HK1.out HF1.out⟩

end Go.Proofs.YtpagenipflmlfaaGreatDoor

/- The step that takes one version back. -/

namespace Go.Proofs.YtpagenipflmlfaaGreatDoor

open Go.RowKit

theorem DropPost.keeps {R : Rep} {key : ByteArray} {vs : List Ver} {w w' : World} (h : DropPost R key vs w w') : Keeps (· ∈ R.fp) w w' := by
  obtain ⟨_, _, _, _, _, h, _⟩ := h
  exact h

theorem DropPost.from {R : Rep} {key : ByteArray} {vs : List Ver} {w0 w w' : World} (h : DropPost R key vs w w') (hk : Keeps (fun _ => False) w0 w) : DropPost R key vs w0 w' := by
  obtain ⟨R', h1, h2, h3, h4, h5, h6⟩ := h
  exact ⟨R', h1, h2, h3, h4, (hk.mono (fun _ _ h => h.elim)).tr h5 (fun _ h => h), h6⟩

theorem DropPost.id {R : Rep} {key : ByteArray} {w : World} (h : StoreAt w R) (t : Tied R) (hv : versOf R.hist key = []) : DropPost R key (versOf R.hist key).dropLast w w := by
  refine ⟨R, h, rfl, t, fun k => ?_, Keeps.refl _ _, fun _ h => h, Nat.le_refl _⟩
  split
  · rename_i e
    rw [← e, hv]
    rfl
  · rfl

set_option maxRecDepth 100000 in
set_option maxHeartbeats 500000 in
theorem drop_none (R : Rep) (key : ByteArray) (w : World) (h : StoreAt w R) (hx : look R.hist key = none) :
    Calls Tryz.prog 113 #[.pointer (some ⟨R.sb, 7, none⟩), .string key] w fun e w' => e = .returned (.tuple #[]) ∧ w' = w := by
  have c6 : w.cell? ⟨R.sb, 8, none⟩ = some (.map R.vm) := h.cell 8
  have hM := h.past.histMap
  have hlt := h.lt
  have HSL : Hid ((look (R.hist.map fun p => (p.1, p.2.sl)) key).getD (.slice none 0 0) = .slice none 0 0) := by
    unfold Hid
    rw [look_map, hx]
    rfl
  obtain ⟨vm, hvm⟩ : ∃ vm, R.vm = vm := ⟨_, rfl⟩
  rw [hvm] at c6 hM
  clear h hx
  go_enter Tryz.func113, Tryz.ntmps113
  go_wp2_with (at_lookup; go_must (refine wpList_lookup_opt _ rfl _ _ 61 rfl 9 114 strKeyOk Tryz.underlying61 Tryz.underlying9 _ (Tryz.zeroVersions _) vm rfl key rfl _ hM ?_; rw [HSL.out]))
  refine bodyPost_ret (results_none rfl _ _ _) rfl ?_
  exact ⟨rfl, rfl⟩

/-- Drop of any key. -/
theorem drop_all (R : Rep) (key : ByteArray) (w : World) (h : StoreAt w R) (t : Tied R) (hl : R.keys.length < 1000000000000) (hvl : (versOf R.hist key).length < 1000000000000) :
    Calls Tryz.prog 113 #[.pointer (some ⟨R.sb, 7, none⟩), .string key] w fun e w' => e = .returned (.tuple #[]) ∧ DropPost R key (versOf R.hist key).dropLast w w' := by
  cases hx : look R.hist key with
  | none =>
    refine (drop_none R key w h hx).mono ?_
    rintro e w' ⟨rfl, rfl⟩
    exact ⟨rfl, .id h t (by unfold versOf; rw [hx]; rfl)⟩
  | some x =>
    have hv : versOf R.hist key = x.vers := by unfold versOf; rw [hx]; rfl
    have hne := t.filled _ (look_mem hx)
    rw [hv]
    exact drop_any R key x.vers.dropLast (x.vers.getLast hne) w h t (by rw [hv]; exact (List.dropLast_concat_getLast hne).symm) hl (by rw [hv] at hvl; simp; omega)

set_option maxRecDepth 100000 in
set_option maxHeartbeats 500000 in
theorem undo_one (R : Rep) (key : ByteArray) (s kb : Nat) (w : World) (h : StoreAt w R) (t : Tied R) (hl : R.keys.length < 1000000000000) (hvl : (versOf R.hist key).length < 1000000000000)
    (hs : w.cell? ⟨s, 0, none⟩ = some (.pointer (some ⟨R.sb, 0, none⟩))) (hk : w.cell? ⟨kb, 0, none⟩ = some (.string key)) (hsf : s ∉ R.fp) (hkf : kb ∉ R.fp) :
    Calls Tryz.prog 112 #[.pointer (some ⟨s, 0, none⟩), .pointer (some ⟨kb, 0, none⟩)] w fun e w' => e = .returned (.tuple #[]) ∧ DropPost R key (versOf R.hist key).dropLast w w' := by
  obtain ⟨vs, hvs⟩ : ∃ vs, (versOf R.hist key).dropLast = vs := ⟨_, rfl⟩
  rw [hvs]
  have HD : Hid (∀ W, Keeps (fun _ => False) w W → Calls Tryz.prog 113 #[.pointer (some ⟨R.sb, 7, none⟩), .string key] W fun e w' => e = .returned (.tuple #[]) ∧ DropPost R key vs W w') := fun W hk => hvs ▸ drop_all R key W (h.kept hk (fun _ _ h => h)) t hl hvl
  have HSF : Hid (s ∉ R.fp) := hsf
  have HKF : Hid (kb ∉ R.fp) := hkf
  have hlt := h.lt
  have hsl : s < w.heap.size := World.block_lt_of_cell? _ _ hs
  have hkl : kb < w.heap.size := World.block_lt_of_cell? _ _ hk
  clear h t hl hvl hsf hkf hvs
  go_enter Tryz.func112, Tryz.ntmps112
  go_region_held3 (fun W => W.cell? ⟨s, 0, none⟩ = some (.pointer (some ⟨R.sb, 0, none⟩)) ∧ W.cell? ⟨kb, 0, none⟩ = some (.string key)) (go_keep) (first | (go_at_call 113; refine (HD.out _ (Keeps.drew (fun _ => False) w)).mono ?_; rintro e wb ⟨rfl, hd⟩; have hs' := hd.keeps.cell (p := ⟨s, 0, none⟩) (v := .pointer (some ⟨R.sb, 0, none⟩)) hs HSF.out; have hk' := hd.keeps.cell (p := ⟨kb, 0, none⟩) (v := .string key) hk HKF.out))
  go_end0
  exact ⟨rfl, hd.from (Keeps.drew (fun _ => False) w)⟩

end Go.Proofs.YtpagenipflmlfaaGreatDoor

/- slices.Backward over the steps of a change. -/

namespace Go.Proofs.YtpagenipflmlfaaGreatDoor

open Go.RowKit Go.Shelf

attribute [local go_sem] Oper.semAt_some

/-- what the rounds leave to the iterator: the box and the row of steps -/
def KpB (B g : Nat) (A C : World) : Prop := C.heap[B]? = A.heap[B]? ∧ C.heap[g]? = A.heap[g]?

/-- the indices that have come when k are left -/
def comeB (n k : Nat) : List (Fin n) := ((List.finRange n).drop k).reverse

theorem comeB_step {n k : Nat} (h : k < n) : comeB n k = comeB n (k + 1) ++ [⟨k, h⟩] := by
  unfold comeB
  rw [List.drop_eq_getElem_cons (i := k) (by simpa using h)]
  simp

theorem comeB_length (n k : Nat) : (comeB n k).length = n - k := by simp [comeB]

theorem comeB_all (n : Nat) : comeB n n = [] := by simp [comeB]

set_option maxRecDepth 100000 in
set_option maxHeartbeats 600000 in
theorem backward1_any (F : Fence) (n : Nat) (h1 : F.fn 87) (hro : F.round = none) (hn : 1 ≤ n) (l B g cap : Nat) (fs : List Value) (J Jx : List (Fin fs.length) → World → Prop)
    (hY : ∀ pre x W, J pre W → pre.length < fs.length → YieldAt F (n - 1) Tryz.prog l #[.int .i64 (x.val : Nat), fs[x.val]] W fun e W' => (e = .returned (.bool true) ∧ J (pre ++ [x]) W' ∧ KpB B g W W') ∨ (e = .returned (.bool false) ∧ Jx (pre ++ [x]) W'))
    (W : World) (hB : W.cell? ⟨B, 0, none⟩ = some (.slice (some ⟨g, 0, none⟩) fs.length cap)) (hfs : ∀ i (h : i < fs.length), W.cell? ⟨g, i, none⟩ = some fs[i]) (hl : fs.length < 1000000000000) (h0 : J [] W) :
    CallsIn F n Tryz.prog 87 #[.func (.yield l) #[] #[], .pointer (some ⟨B, 0, none⟩)] W fun e W' => (∃ v, e = .returned v) ∧ (J (comeB fs.length 0) W' ∨ ∃ pre, Jx pre W') := by
  refine callsIn_of_wp Tryz.func87 rfl h1 ?_ hro
  simp only [Tryz.ntmps87, List.size_toArray, List.length_cons, List.length_nil, Nat.reduceAdd, Nat.reduceSub, Array.replicate_succ, Array.replicate_zero, List.push_toArray, List.append_toArray, List.nil_append, List.cons_append]
  gi_wp2
  gi_loopw [3] (fun i wr => ∃ k : Nat, k ≤ fs.length ∧ i = .int .i64 ((k : Int) - 1) ∧ J (comeB fs.length k) wr ∧ KpB B g W wr) (fun i _ => (intOf i + 1).toNat)
  case atStart => exact ⟨fs.length, Nat.le_refl _, rfl, by rw [comeB_all]; exact h0, rfl, rfl⟩
  case round =>
    obtain ⟨k, hk, rfl, hJs, hKp⟩ := hrel
    have hB' : wr.cell? ⟨B, 0, none⟩ = some (.slice (some ⟨g, 0, none⟩) fs.length cap) := by
      rw [← hB]; simp only [World.cell?, hKp.1]
    rcases Nat.eq_zero_or_pos k with rfl | hk0
    · gi_wp2
      go_end0
      exact ⟨⟨_, rfl⟩, .inl hJs⟩
    · obtain ⟨j, rfl⟩ : ∃ j, k = j + 1 := ⟨k - 1, by omega⟩
      have hj : j < fs.length := by omega
      have hcj : wr.cell? ⟨g, j, none⟩ = some fs[j] := by
        rw [← hfs j hj]; simp only [World.cell?, hKp.2]
      have ej : ((j + 1 : Nat) : Int) - 1 = (j : Int) := by omega
      rw [ej]
      obtain ⟨fn, tmps, assign, body, hy, hR⟩ := hY _ ⟨j, hj⟩ wr hJs (by rw [comeB_length]; omega)
      simp only at hy
      gi_wp2
      refine hR.mono ?_
      have hst := comeB_step hj
      rintro e W3 (⟨rfl, hJ3, hk3⟩ | ⟨rfl, hJx3⟩)
      · rw [← hst] at hJ3
        have hKp3 : KpB B g W W3 := ⟨hk3.1.trans hKp.1, hk3.2.trans hKp.2⟩
        clear hY hst hk3 hy hR hB' hcj hfs hB hKp hJs
        gi_wp2
        refine ⟨⟨j, by omega, rfl, hJ3, hKp3⟩, ?_⟩
        simp only [intOf]
        omega
      · clear hY hst hy hR hB' hcj hfs hB hKp hJs
        gi_wp2
        refine bodyPost_ret (results_none rfl _ _ _) rfl ?_
        exact ⟨⟨_, rfl⟩, .inr ⟨_, hJx3⟩⟩

theorem backward_stops (F : Fence) (n : Nat) (h1 : F.fn 87) (hro : F.round = none) (hn : 1 ≤ n) (B g cap : Nat) (fs : List Value) (w : World) (hB : B < w.heap.size) (hg : g < w.heap.size) (hc : w.cell? ⟨B, 0, none⟩ = some (.slice (some ⟨g, 0, none⟩) fs.length cap))
    (hfs : ∀ i (h : i < fs.length), w.cell? ⟨g, i, none⟩ = some fs[i]) (hl : fs.length < 1000000000000) :
    SeqStopsK F n Tryz.prog 87 #[.pointer (some ⟨B, 0, none⟩)] (fun x : Fin fs.length => #[.int .i64 (x.val : Nat), fs[x.val]]) (KpB B g) (fun xs => xs = comeB fs.length 0) (fun _ => True) fs.length w := fun l J Jx W hW _ _ hY h0 => by
  have hc' := (hW.cell (p := ⟨B, 0, none⟩) hB).trans hc
  refine (backward1_any F n h1 hro hn l B g cap fs J Jx hY W hc' (fun i hi => (hW.cell (p := ⟨g, i, none⟩) hg).trans (hfs i hi)) hl h0).mono fun e W' ⟨he, hj⟩ => ⟨he, ?_⟩
  rcases hj with hj | ⟨pre, hj⟩
  · exact .inl ⟨_, rfl, hj⟩
  · exact .inr ⟨pre, trivial, hj⟩

end Go.Proofs.YtpagenipflmlfaaGreatDoor

/- settle, where keys have been added: their versions are taken back. -/

namespace Go.Proofs.YtpagenipflmlfaaGreatDoor

open Go.RowKit Go.Shelf

/-- the versions without the last n -/
def cutN (n : Nat) (vs : List Ver) : List Ver := vs.take (vs.length - n)

theorem cutN_zero (vs : List Ver) : cutN 0 vs = vs := by simp [cutN]

theorem cutN_last (n : Nat) (vs : List Ver) : (cutN n vs).dropLast = cutN (n + 1) vs := by
  unfold cutN
  rw [List.dropLast_eq_take, List.take_take, List.length_take]
  congr 1
  omega

theorem cutN_one (vs : List Ver) (v : Ver) : cutN 1 (vs ++ [v]) = vs := by
  unfold cutN
  rw [List.length_append]
  exact List.take_left' rfl

theorem cutN_le (n : Nat) (vs : List Ver) : (cutN n vs).length ≤ vs.length := by simp [cutN]

/-- how often a key is among those taken back -/
def cntK (ks : List ByteArray) (k : ByteArray) : Nat := (ks.filter (fun x => decide (x = k))).length

theorem cntK_snoc (ks : List ByteArray) (x k : ByteArray) : cntK (ks ++ [x]) k = cntK ks k + if x = k then 1 else 0 := by
  unfold cntK
  rw [List.filter_append, List.length_append]
  by_cases e : x = k
  · simp [e]
  · simp [e]

theorem cntK_nodup : ∀ {ks : List ByteArray}, ks.Nodup → ∀ k, cntK ks k = if memB ks k then 1 else 0
  | [], _, k => by simp [cntK, memB]
  | a :: r, h, k => by
    rw [List.nodup_cons] at h
    have ih := cntK_nodup h.2 k
    unfold cntK memB at ih ⊢
    by_cases e : a = k
    · subst e
      have hm : r.any (fun x => decide (x = a)) = false := by
        rw [Bool.eq_false_iff]
        intro hh
        exact h.1 ((memB_iff r a).1 hh)
      rw [hm] at ih
      simp at ih ⊢
      exact ih
    · have e' : decide (a = k) = false := by simp [e]
      rw [List.filter_cons_of_neg (by simp [e]), ih, List.any_cons, e', Bool.false_or]

theorem cntK_reverse (ks : List ByteArray) (k : ByteArray) : cntK ks.reverse k = cntK ks k := by
  unfold cntK
  rw [List.filter_reverse, List.length_reverse]

/-- How it stands when the last versions of these keys have been taken back. -/
def BackAt (Rj : Rep) (w : World) (pre : List ByteArray) (W : World) : Prop :=
  ∃ Rk, StoreAt W Rk ∧ Rk = { Rj with kv := Rk.kv, keys := Rk.keys, vm := Rk.vm, hist := Rk.hist } ∧ Tied Rk ∧ (∀ k, versOf Rk.hist k = cutN (cntK pre k) (versOf Rj.hist k)) ∧ (∀ x ∈ Rk.fp, x ∈ Rj.fp) ∧ Keeps (· ∈ Rj.fp) w W ∧ Rk.keys.length ≤ Rj.keys.length

theorem BackAt.kept {Rj : Rep} {pre : List ByteArray} {w W W' : World} {S : Nat → Prop} (h : BackAt Rj w pre W) (hj : StoreAt w Rj) (hk : Keeps S W W') (hS : ∀ i, S i → w.heap.size ≤ i) : BackAt Rj w pre W' := by
  obtain ⟨Rk, h1, h2, h3, h4, h5, h6, h7⟩ := h
  have hlt := fp_lt hj
  exact ⟨Rk, h1.kept hk (fun i hi hs => by have := hS i hs; have := hlt i (h5 i hi); omega), h2, h3, h4, h5, h6.trans hk (fun i hi hs => by have := hS i hs; omega), h7⟩

theorem backAt_step {Rj : Rep} {pre : List ByteArray} {w W : World} {s kb : Nat} {key : ByteArray} (h : BackAt Rj w pre W)
    (hbox : w.heap[kb]? = some (.cells #[.string key] 9 (0, 0))) (hsbox : w.heap[s]? = some (.cells #[.pointer (some ⟨Rj.sb, 0, none⟩)] 23 (0, 0))) (hsj : s ∉ Rj.fp) (hkj : kb ∉ Rj.fp) (hkl : Rj.keys.length < 1000000000000) (hvl : ∀ x, (versOf Rj.hist x).length < 1000000000000) :
    Calls Tryz.prog 112 #[.pointer (some ⟨s, 0, none⟩), .pointer (some ⟨kb, 0, none⟩)] W fun e W' => e = .returned (.tuple #[]) ∧ BackAt Rj w (pre ++ [key]) W' ∧ Keeps (· ∈ Rj.fp) W W' := by
  obtain ⟨Rk, h1, h2, h3, h4, h5, h6, h7⟩ := h
  have hskb : Rk.sb = Rj.sb := by rw [h2]
  have hc1 : W.cell? ⟨s, 0, none⟩ = some (.pointer (some ⟨Rk.sb, 0, none⟩)) := by
    rw [hskb]
    exact h6.cell (p := ⟨s, 0, none⟩) (cell_of_heap hsbox 0) hsj
  have hc2 : W.cell? ⟨kb, 0, none⟩ = some (.string key) := h6.cell (p := ⟨kb, 0, none⟩) (cell_of_heap hbox 0) hkj
  refine (undo_one Rk key s kb W h1 h3 (by omega) (by rw [h4]; exact Nat.lt_of_le_of_lt (cutN_le _ _) (hvl _)) hc1 hc2 (fun hf => hsj (h5 _ hf)) (fun hf => hkj (h5 _ hf))).mono ?_
  rintro e W' ⟨rfl, R', g1, g2, g3, g4, g5, g6, g7⟩
  refine ⟨rfl, ⟨R', g1, by rw [g2, h2], g3, fun k => ?_, fun x hx => h5 x (g6 x hx), h6.tr g5 (fun x hx => h5 x hx), by omega⟩, g5.mono (fun x _ hx => h5 x hx)⟩
  rw [g4, cntK_snoc]
  by_cases e : key = k
  · subst e
    rw [if_pos rfl, if_pos rfl, h4, cutN_last]
  · rw [if_neg e, if_neg e, h4, Nat.add_zero]

/-- All of them taken back: what was. -/
theorem BackAt.all {R Rj : Rep} {ks : List ByteArray} {ver : ByteArray → Ver} {w W : World} (h : BackAt Rj w ks.reverse W) (hG : Grew R ks ver Rj) (hn : ks.Nodup) : ∃ R0, StoreAt W R0 ∧ Grew R [] ver R0 ∧ (∀ x ∈ R0.fp, x ∈ Rj.fp) ∧ Keeps (· ∈ Rj.fp) w W ∧ R0.keys.length ≤ Rj.keys.length := by
  obtain ⟨Rk, h1, h2, h3, h4, h5, h6, h7⟩ := h
  have hs := hG.same
  refine ⟨Rk, h1, ⟨by rw [h2, hs], fun k => ?_, h3⟩, h5, h6, h7⟩
  rw [h4, cntK_reverse, cntK_nodup hn, hG.vers]
  cases hm : memB ks k with
  | true => simpa [memB] using cutN_one _ _
  | false => simpa [memB] using cutN_zero _

end Go.Proofs.YtpagenipflmlfaaGreatDoor

/- settle, walked where keys have been added. -/

namespace Go.Proofs.YtpagenipflmlfaaGreatDoor

open Go.RowKit Go.Shelf

attribute [local go_sem] Oper.semAt_some

theorem Keeps.belowB {B : Nat} {w w' : World} (h : Below B w w') : Keeps (fun k => B ≤ k) w w' :=
  ⟨h.os, h.tape, h.output, h.size, fun k _ hn => h.block k (by omega)⟩

/-- the keys of steps that have come -/
def keysAt (ks : List ByteArray) {n : Nat} (pre : List (Fin n)) : List ByteArray := pre.map fun i => ks.getD i.val ByteArray.empty

theorem keysAt_all {ks : List ByteArray} {n : Nat} (h : n = ks.length) : keysAt ks (comeB n 0) = ks.reverse := by
  subst h
  unfold keysAt comeB
  rw [List.drop_zero, List.map_reverse]
  congr 1
  apply List.ext_getElem
  · simp
  · intro i h1 h2
    simp

theorem ownFrom_back {Rj : Rep} {ks : List ByteArray} {w : World} {n B : Nat} (hj : StoreAt w Rj) (hB : w.heap.size ≤ B) : OwnFrom B (fun (pre : List (Fin n)) W => BackAt Rj w (keysAt ks pre) W ∧ w.heap.size < W.heap.size) :=
  fun _ _ _ _ hs hg hr => ⟨hs.1.kept hj (Keeps.grown hg) (fun i e => by have := (hr i e.symm).1; omega), Nat.lt_of_lt_of_le hs.2 hg.size⟩

set_option maxRecDepth 100000 in
set_option maxHeartbeats 600000 in
theorem settle_steps (Rj : Rep) (ks : List ByteArray) (cb eb g cap : Nat) (kbs : List Nat) (n : Int) (hn : 1 ≤ n ∧ n ≤ 9) (w : World) (hS : StoreAt w Rj) (ht : Tied Rj) (hlen : kbs.length = ks.length) (hl30 : ks.length ≤ 30)
    (hc : w.cell? ⟨cb, 0, none⟩ = some (.slice (some ⟨g, 0, none⟩) kbs.length cap)) (hfs : ∀ i (h : i < kbs.length), w.cell? ⟨g, i, none⟩ = some (clo kbs[i])) (hgf : g ∉ Rj.fp) (hgl : g < w.heap.size)
    (hboxes : ∀ i (h : i < kbs.length), w.heap[kbs[i]]? = some (.cells #[.pointer (some ⟨Rj.sb, 0, none⟩)] 23 (0, 0)) ∧ w.heap[kbs[i] + 1]? = some (.cells #[.string (ks.getD i ByteArray.empty)] 9 (0, 0)))
    (hap : ∀ k, (k ∈ kbs ∨ ∃ b ∈ kbs, k = b + 1) → k ∉ Rj.fp) (he : w.cell? ⟨eb, 0, none⟩ = some (.int .i64 n)) (hkl : Rj.keys.length < 1000000000000) (hvl : ∀ x, (versOf Rj.hist x).length < 1000000000000) :
    Calls Tryz.prog 26 #[.pointer (some ⟨cb, 0, none⟩), .nilIface, .pointer (some ⟨eb, 0, none⟩)] w fun e w' => e = .returned (.tuple #[]) ∧ BackAt Rj w ks.reverse w' := by
  obtain ⟨h1, h2⟩ := hn
  have hnb : (n == 0) = false := by simp; omega
  have hmf : ∀ (fn : Fn) (first cap : Array Value) (w : World), (Instr.makeFunc fn first cap).run Tryz.prog w = .ok (.func fn first cap) w := fun _ _ _ _ => rfl
  have HS : Hid (StoreAt w Rj) := hS
  have HB0 : Hid (BackAt Rj w [] w) := ⟨Rj, hS, rfl, ht, fun k => by simp [cntK, cutN_zero], fun _ h => h, Keeps.refl _ _, Nat.le_refl _⟩
  have HST : Hid (∀ k (hk : k < kbs.length) pre W, BackAt Rj w pre W → Calls Tryz.prog 112 #[.pointer (some ⟨kbs[k], 0, none⟩), .pointer (some ⟨kbs[k] + 1, 0, none⟩)] W fun e W' => e = .returned (.tuple #[]) ∧ BackAt Rj w (pre ++ [ks.getD k ByteArray.empty]) W' ∧ Keeps (· ∈ Rj.fp) W W') := fun k hk pre W hW =>
    backAt_step hW (hboxes k hk).2 (hboxes k hk).1 (hap _ (.inl (List.getElem_mem hk))) (hap _ (.inr ⟨_, List.getElem_mem hk, rfl⟩)) hkl hvl
  have HFL : Hid (∀ k ∈ Rj.fp, k < w.heap.size) := fp_lt hS
  have HGF : Hid (g ∉ Rj.fp) := hgf
  have hm30 : kbs.length ≤ 30 := by omega
  have HLEN : Hid (kbs.length = ks.length) := hlen
  clear hS ht hboxes hap hgf hkl hvl hlen hl30
  refine (callsIn_wide (n := 8)).1 ?_
  refine callsIn_of_wp_marks Tryz.func26 rfl trivial ?_ rfl
  simp only [Tryz.ntmps26, List.size_toArray, List.length_cons, List.length_nil, Nat.reduceAdd, Nat.reduceSub, Array.replicate_succ, Array.replicate_zero, List.push_toArray, List.append_toArray, List.nil_append, List.cons_append]
  gi_wp2_with (refine ⟨trivial, ?_⟩; gi_at_call 52; go_must (refine (callsIn_wide.2 (backward_any _ _ _ _)).mono ?_; rintro e w1 ⟨rfl, rfl⟩))
  have hlf : (kbs.map clo).length = kbs.length := by simp
  have hseq := backward_stops Fence.wide 7 trivial rfl (by omega) w.heap.size g cap (kbs.map clo) (w.alloc (.cells #[.slice (some ⟨g, 0, none⟩) kbs.length cap] 67)) (by simp) (by simp; omega) (by simp) (fun i hi => by
      have hi' : i < kbs.length := by simpa using hi
      rw [World.cell?_alloc_past _ _ _ hgl, hfs i hi']
      simp) (by rw [hlf]; omega)
  refine wpIn_rangeFunc_ownG (α := Fin (kbs.map clo).length) rfl (by omega) (gf := 87) (lb := #[.pointer (some ⟨w.heap.size, 0, none⟩)]) rfl trivial (enters_of Tryz.func87 (by kernel_rfl) rfl)
    hseq (fun h k => ⟨k.1.trans h.1, k.2.trans h.2⟩) ?kb (Below.refl _ _) (fun x => rfl)
    (fun pre W => BackAt Rj w (keysAt ks pre) W ∧ w.heap.size < W.heap.size) (fun _ _ _ => False) ?own ?ownx ?start
    (fun x => { tmps := #[.pointer (some ⟨cb, 0, none⟩), .nilIface, .pointer (some ⟨eb, 0, none⟩), undef, undef, undef, undef, (kbs.map clo)[x.val], .nilIface, .bool false, undef, undef, .pointer (some ⟨eb, 0, none⟩), .pointer (some ⟨eb, 0, none⟩), .int .i64 n, .bool false, .pointer (some ⟨cb, 0, none⟩), .pointer (some ⟨cb, 0, none⟩), .pointer (some ⟨cb, 0, none⟩), .slice (some ⟨g, 0, none⟩) kbs.length cap, .func (.func 87) #[] #[.pointer (some ⟨w.heap.size, 0, none⟩)], .int .i64 (x.val : Nat), (kbs.map clo)[x.val], undef, undef], defers := [] }) ?assign ?body ?done (fun _ _ _ _ _ _ h => h.elim)
  case kb =>
    intro W l o o' hl hlo hcells hwalk
    simp at hl
    have hl1 : l ≠ w.heap.size := by omega
    have hl2 : l ≠ g := by omega
    exact ⟨World.putObj_heap_other (Ne.symm hl1), World.putObj_heap_other (Ne.symm hl2)⟩
  case own => exact ownFrom_back HS.out (by simp)
  case ownx => exact fun _ _ _ _ _ h _ _ => h
  case start => exact ⟨HB0.out.kept HS.out (Keeps.alloc (fun _ => False) _ _) (fun _ h => h.elim), by simp⟩
  case assign =>
    intro l x W K hK
    have ez : Array.foldl (fun (t : Array Value) (x : Tmp × Value) => match x with | (p, v) => t.setIfInBounds p v) #[Value.pointer (some ⟨cb, 0, none⟩), .nilIface, .pointer (some ⟨eb, 0, none⟩), undef, undef, undef, undef, undef, .nilIface, .bool false, undef, undef, .pointer (some ⟨eb, 0, none⟩), .pointer (some ⟨eb, 0, none⟩), .int .i64 n, .bool false, .pointer (some ⟨cb, 0, none⟩), .pointer (some ⟨cb, 0, none⟩), .pointer (some ⟨cb, 0, none⟩), .slice (some ⟨g, 0, none⟩) kbs.length cap, .func (.func 87) #[] #[.pointer (some ⟨w.heap.size, 0, none⟩)], undef, undef, undef, undef] (#[21, 22].zip #[Value.int .i64 (x.val : Nat), (kbs.map clo)[x.val]]) = #[Value.pointer (some ⟨cb, 0, none⟩), .nilIface, .pointer (some ⟨eb, 0, none⟩), undef, undef, undef, undef, undef, .nilIface, .bool false, undef, undef, .pointer (some ⟨eb, 0, none⟩), .pointer (some ⟨eb, 0, none⟩), .int .i64 n, .bool false, .pointer (some ⟨cb, 0, none⟩), .pointer (some ⟨cb, 0, none⟩), .pointer (some ⟨cb, 0, none⟩), .slice (some ⟨g, 0, none⟩) kbs.length cap, .func (.func 87) #[] #[.pointer (some ⟨w.heap.size, 0, none⟩)], .int .i64 (x.val : Nat), (kbs.map clo)[x.val], undef, undef] := by kernel_rfl
    simp only [ez]
    gi_wp2
    simp only [List.getElem_map] at hK
    exact hK
  case body =>
    intro l pre x W hI hlt
    have hx' : x.val < kbs.length := by have := x.isLt; simpa using this
    have ex : (kbs.map clo)[x.val] = .func (.func 112) #[] #[.pointer (some ⟨kbs[x.val], 0, none⟩), .pointer (some ⟨kbs[x.val] + 1, 0, none⟩)] := by simp [clo]
    have HC := HST.out x.val hx' (keysAt ks pre) W hI.1
    rw [ex]
    have HI : Hid (w.heap.size < W.heap.size) := hI.2
    generalize kbs[x.val] = kb at HC
    clear hI hseq ex
    gi_wp2_with (refine ⟨trivial, ?_⟩; gi_at_call 112; go_must (refine (CallsIn.inRound l (callsIn_wide.2 HC)).mono ?_; rintro e W1 ⟨rfl, hB1, hk1⟩))
    have hsz := HI.out
    refine ⟨⟨hk1.size, fun k o hk ho _ => ?_⟩, ⟨?_, ?_⟩, ?_, Nat.lt_of_lt_of_le hsz hk1.size⟩
    · simp at hk
      rw [hk1.block k (Array.getElem?_eq_some_iff.1 ho).1 (fun hf => by have := HFL.out k hf; omega)]
      exact ho
    · exact hk1.block _ hsz (fun hf => by have := HFL.out _ hf; omega)
    · exact hk1.block _ (by omega) HGF.out
    · have ek : keysAt ks (pre ++ [x]) = keysAt ks pre ++ [ks.getD x.val ByteArray.empty] := by simp [keysAt]
      rw [ek]
      exact hB1
  case done =>
    rintro D ys W hD rfl hB hK
    gi_wp2
    refine ⟨by simp, .inl ⟨_, _, rfl, run_takeDeferred hK, ?_⟩⟩
    refine ⟨_, results_none rfl _ _ _, rfl, ?_⟩
    have hk0 := hB.1
    rw [keysAt_all (by rw [hlf]; exact HLEN.out)] at hk0
    exact hk0.kept HS.out (Keeps.belowB (belowK_b (w := w) (Nat.le_refl _) W D _ _ (by simp at hD; omega) hK rfl rfl)) (fun _ h => h)

end Go.Proofs.YtpagenipflmlfaaGreatDoor
