/- Drop: the last version of a key is taken back. -/
import Derived.Test.YtfcocbcihhdbkaaSL
namespace Go.Proofs.Ytfcocbcihhdbkaa
open Go.RowKit

/-- clear(all[last:]), and what is left of the versions then -/
theorem clear_last (g m cap : Nat) (xs : List Value) (w : World) (h : Row w 79 3 (.slice (some ⟨g, 0, none⟩) (m + 1) cap) (m + 1) xs) :
    ∃ wc, (Builtin.clear_ #[99] 0 #[.slice (some ⟨g, m * 3, none⟩) 1 (cap - m)]).run Try.prog w = .ok (.tuple #[]) wc ∧ Keeps (· = g) w wc ∧ Row wc 79 3 (.slice (some ⟨g, 0, none⟩) m m) m (xs.take (m * 3)) := by
  rcases h.2 with ⟨e, _⟩ | ⟨g', cap', cur, e, hg, hnc, hcm, hcs, htk⟩
  · cases e
  · cases e
    have hsz : (m + 1) * 3 ≤ cur.size := Nat.le_trans (Nat.mul_le_mul_right 3 hnc) hcs
    have hst := run_storeCells_cells (P := Try.prog) g (m * 3) [.int .i64 0, .string ⟨#[]⟩, .bool false] 0 w (fun j hj => by
        rw [cell_of_heap hg]
        simp at hj ⊢
        omega) (fun j _ => frozen_of_heap hg _) (by simp [Value.oneCell'])
    refine ⟨w.setCells g (m * 3) [.int .i64 0, .string ⟨#[]⟩, .bool false], ?_, Keeps.setCells _ _ _ _, ⟨?_, .inr ⟨g, m, _, rfl, heap_setCells _ _ _ _ _ hg, Nat.le_refl _, by omega, by rw [putL_size]; omega, ?_⟩⟩⟩
    · have hz : (Builtin.zeroCells (Value.agg #[.int .i64 0, .string ⟨#[]⟩, .bool false]).cells 1).toList = [.int .i64 0, .string ⟨#[]⟩, .bool false] := by kernel_rfl
      simp only [Nat.add_zero] at hst
      simp [Builtin.clear_, run_underlying Try.underlying99, hz, hst]
    · rw [List.length_take, h.1]
      omega
    · rw [putL_toList _ _ _ (by simp; omega), List.append_assoc, List.take_append_of_le_length (by simp; omega), List.take_take, Nat.min_self, ← htk, List.take_take, Nat.min_eq_left (by omega)]

theorem take_last {vs : List Ver} {v : Ver} {m : Nat} (hm : vs.length = m) : ((vs ++ [v]).flatMap Ver.cells).take (m * 3) = vs.flatMap Ver.cells := by
  rw [List.flatMap_append, List.take_left' (by rw [cells_length, hm])]

/-- How the store lies when the last version is cut off. -/
theorem StoreAt.dropped {w wc : World} {R : Rep} {key : ByteArray} {x : HsR} {vs : List Ver} {v : Ver} {g b m cap : Nat} {ob : Obj} (h : StoreAt w R) (hx : look R.hist key = some x) (hxv : x.vers = vs ++ [v]) (hm : vs.length = m) (hxs : x.sl = .slice (some ⟨g, 0, none⟩) (vs.length + 1) cap) (hvm : R.vm = some b)
    (hkc : Keeps (· = g) w wc) (hRc : Row wc 79 3 (.slice (some ⟨g, 0, none⟩) m m) m ((x.vers.flatMap Ver.cells).take (m * 3))) (hM1 : MapAt Value.string (Go.ChangeMaps.setBlock wc.drew b ob) b (put (R.hist.map fun p => (p.1, p.2.sl)) key (.slice (some ⟨g, 0, none⟩) m m))) (hN : g ≠ R.sb ∧ g ≠ b ∧ R.sb ≠ b ∧ g < w.heap.size) :
    StoreAt (Go.ChangeMaps.setBlock wc.drew b ob) { R with vm := some b, hist := put R.hist key ⟨.slice (some ⟨g, 0, none⟩) m m, vs⟩ } ∧ Keeps (· ∈ R.fp) w (Go.ChangeMaps.setBlock wc.drew b ob) ∧ ∀ k ∈ Rep.fp { R with vm := some b, hist := put R.hist key ⟨.slice (some ⟨g, 0, none⟩) m m, vs⟩ }, k ∈ R.fp := by
  obtain ⟨hgs, hgb, hsb, hgl⟩ := hN
  have hsl : slOf R.hist key = x.sl := by unfold slOf; rw [hx]; rfl
  have hkk : Keeps (fun k => k = g ∨ k = b) w (Go.ChangeMaps.setBlock wc.drew b ob) := ((hkc.mono (fun _ _ h => .inl h)).dr).tr (Keeps.setBlock wc.drew b ob) (fun _ h => .inr h)
  have hkvn : ∀ k, R.kv.ownBlock = some k → k ≠ b ∧ k ≠ g := fun k hk => by
    have hn := ((fp_perm R key).nodup_iff).1 h.nodup
    rw [List.nodup_append] at hn
    have hd1 := hn.2.2
    rw [hsl, hxs] at hd1
    exact ⟨fun e => hd1 k (by simp [hk]) k (List.mem_append_right _ (by simp [Rep.restOf, hvm, e])) rfl, fun e => hd1 k (by simp [hk]) k (List.mem_append_left _ (by simp [e, Value.ownBlock])) rfl⟩
  have hgf : (slOf R.hist key).ownBlock = some g := by rw [hsl, hxs]; rfl
  refine ⟨h.added key hkk (fun k _ hs => ?_) ?_ ?_ hM1 ?_ (fun g hg => .inl hg) (fun k hk => .inl ?_) (.inl hvm) ?_, hkk.mono (fun k _ hs => ?_), fun k hk => ?_⟩
  · rcases hs with rfl | rfl
    · exact .inr (.inr (.inr hgf))
    · exact .inr (.inr (.inl hvm))
  · have e : topCells { R with kv := R.kv, vm := some b } = topCells R := by simp [topCells, hvm]
    rw [e]
    exact (hkk.block R.sb h.lt (by rintro (h | h); exact hgs h.symm; exact hsb h)).trans h.top
  · exact h.past.keysRow.kept hkk (fun k hk => by rintro (h | h); exact (hkvn k hk).2 h; exact (hkvn k hk).1 h)
  · rw [hxv, take_last hm] at hRc
    rw [hm]
    exact (hRc.kept (Keeps.drew (fun _ => False) wc) (fun _ _ h => h)).kept (Keeps.setBlock wc.drew b ob) (fun k hk e => hgb ((own_eq hk).trans e))
  · rw [hgf, own_eq hk]
  · cases hkb : R.kv.ownBlock with
    | none => simp [Value.ownBlock, hgb]
    | some k =>
      have h1 := hkvn k hkb
      simp [Value.ownBlock, hgb, h1.1, h1.2]
  · rw [(fp_perm R key).mem_iff]
    rcases hs with rfl | rfl
    · exact List.mem_append_right _ (List.mem_append_left _ (by simp [hgf]))
    · exact List.mem_append_right _ (List.mem_append_right _ (by simp [Rep.restOf, hvm]))
  · rcases addFp (R := R) (key := key) (kv' := R.kv) (sl' := .slice (some ⟨g, 0, none⟩) m m) (keys' := R.keys) (b := b) (vs' := vs) (n := k + 1) (fun _ h => .inl h) (fun k hk => .inl (by rw [hgf, own_eq hk])) (.inl hvm) k hk with h1 | h1
    · exact h1
    · omega

theorem rises_nodup {ks : List ByteArray} (hr : Rises ks) : ks.Nodup := by
  refine hr.imp (fun h e => ?_)
  rw [e, ltK_irrefl] at h
  cases h

theorem memB_erase {ks : List ByteArray} {x : ByteArray} (hr : Rises ks) (hm : memB ks x = true) (k : ByteArray) : memB (ks.eraseIdx (below ks x)) k = (decide (x ≠ k) && memB ks k) := by
  obtain ⟨hb, hbk⟩ := (below_mem (x := x) hr).2 ((memB_iff _ _).1 hm)
  have hnd := rises_nodup hr
  rw [Bool.eq_iff_iff, memB_iff, List.mem_eraseIdx_iff_getElem]
  simp only [Bool.and_eq_true, decide_eq_true_eq, memB_iff]
  constructor
  · rintro ⟨i, hi, hne, rfl⟩
    refine ⟨fun e => hne ?_, List.getElem_mem hi⟩
    exact (List.getElem_inj hnd).1 (e.symm.trans hbk.symm)
  · rintro ⟨hne, hk⟩
    obtain ⟨i, hi, rfl⟩ := List.getElem_of_mem hk
    refine ⟨i, hi, fun e => hne ?_, rfl⟩
    subst e
    exact hbk.symm

/-- What Drop leaves: the key has vs. -/
def DropPost (R : Rep) (key : ByteArray) (vs : List Ver) (w w' : World) : Prop :=
  ∃ R', StoreAt w' R' ∧ R' = { R with kv := R'.kv, keys := R'.keys, vm := R'.vm, hist := R'.hist } ∧ Tied R' ∧ (∀ k, versOf R'.hist k = if key = k then vs else versOf R.hist k) ∧
    Keeps (· ∈ R.fp) w w' ∧ (∀ k ∈ R'.fp, k ∈ R.fp) ∧ R'.keys.length ≤ R.keys.length

theorem drop_more {R : Rep} {key : ByteArray} {vs : List Ver} {sl : Value} {b : Nat} {w w1 : World} (h : StoreAt w R) (t : Tied R) (hvs : vs ≠ []) (hm : memB R.keys key = true) (hS : StoreAt w1 { R with vm := some b, hist := put R.hist key ⟨sl, vs⟩ }) (hk : Keeps (· ∈ R.fp) w w1)
    (hf : ∀ k ∈ Rep.fp { R with vm := some b, hist := put R.hist key ⟨sl, vs⟩ }, k ∈ R.fp) : DropPost R key vs w w1 := by
  refine ⟨_, hS, rfl, ⟨t.rises, fun k => ?_, fun p hp => ?_⟩, fun k => versOf_put _ _ _ _, hk, hf, Nat.le_refl _⟩
  · show memB R.keys k = (look (put R.hist key ⟨sl, vs⟩) k).isSome
    rw [look_put]
    split
    · rename_i e
      rw [← e, hm]
      rfl
    · exact t.keys k
  · rcases mem_put (hist_nodup h.past) hp with rfl | ⟨h1, _⟩
    · exact hvs
    · exact t.filled p h1

theorem drop_last {R : Rep} {key : ByteArray} {vs : List Ver} {sl : Value} {b : Nat} {w w1 w2 : World} (h : StoreAt w R) (t : Tied R) (hvs : vs = []) (hm : memB R.keys key = true) (hk : Keeps (· ∈ R.fp) w w1)
    (hf : ∀ k ∈ Rep.fp { R with vm := some b, hist := put R.hist key ⟨sl, vs⟩ }, k ∈ R.fp) (hg : ForgetPost { R with vm := some b, hist := put R.hist key ⟨sl, vs⟩ } key w1 w2) : DropPost R key vs w w2 := by
  obtain ⟨kv', hS, hsub, hk2⟩ := hg
  have hdel : del (put R.hist key ⟨sl, vs⟩) key = del R.hist key := del_put _ _ _
  have hnd := hist_nodup h.past
  refine ⟨_, hS, rfl, ⟨?_, fun k => ?_, fun p hp => ?_⟩, fun k => ?_, hk.tr hk2 (fun k hk => hf k hk), fun k hk => hf k (hsub.subset hk), ?_⟩
  · exact t.rises.sublist (List.eraseIdx_sublist _ _)
  · show memB (R.keys.eraseIdx (below R.keys key)) k = (look (del (put R.hist key ⟨sl, vs⟩) key) k).isSome
    rw [hdel, look_del _ hnd, memB_erase t.rises hm, t.keys]
    by_cases e : key = k
    · simp [e]
    · simp [e]
  · have hp' : p ∈ del (put R.hist key ⟨sl, vs⟩) key := hp
    rw [hdel] at hp'
    exact t.filled p ((del_sublist _ _).subset hp')
  · show versOf (del (put R.hist key ⟨sl, vs⟩) key) k = _
    rw [hdel]
    unfold versOf
    rw [look_del _ hnd]
    split
    · rw [hvs]; rfl
    · rfl
  · exact (List.eraseIdx_sublist _ _).length_le

set_option maxRecDepth 100000 in
set_option maxHeartbeats 500000 in
theorem drop_any (R : Rep) (key : ByteArray) (vs : List Ver) (v : Ver) (w : World) (h : StoreAt w R) (t : Tied R) (hv : versOf R.hist key = vs ++ [v]) (hl : R.keys.length < 1000000000000) (hvl : vs.length < 1000000000000) :
    Calls Try.prog 71 #[.pointer (some ⟨R.sb, 7, none⟩), .string key] w fun e w' => e = .returned (.tuple #[]) ∧ DropPost R key vs w w' := by
  obtain ⟨x, hx⟩ : ∃ x, look R.hist key = some x := by
    cases hx : look R.hist key with
    | some x => exact ⟨x, rfl⟩
    | none =>
      unfold versOf at hv
      rw [hx] at hv
      simp at hv
  have hxv : x.vers = vs ++ [v] := by unfold versOf at hv; rw [hx] at hv; exact hv
  obtain ⟨b, hvm⟩ : ∃ b, R.vm = some b := by
    cases hv : R.vm with
    | some b => exact ⟨b, rfl⟩
    | none =>
      have := h.past.histMap
      rw [hv] at this
      have e : R.hist = [] := List.map_eq_nil_iff.1 this
      rw [e] at hx
      cases hx
  have hM : MapAt Value.string w b (R.hist.map fun p => (p.1, p.2.sl)) := by have := h.past.histMap; rw [hvm] at this; exact this
  have c6 : w.cell? ⟨R.sb, 8, none⟩ = some (.map (some b)) := (h.cell 8).trans (by rw [← hvm]; rfl)
  have hlt := h.lt
  have hR := h.past.histEach _ (look_mem hx)
  have hxl : x.vers.length = vs.length + 1 := by rw [hxv]; simp
  rw [hxl] at hR
  have hR' : Row w 79 3 x.sl (vs.length + 1) (x.vers.flatMap Ver.cells) := hR
  obtain ⟨g, cap, hsl⟩ := hR'.succ
  have hlk : look (R.hist.map fun p => (p.1, p.2.sl)) key = some (.slice (some ⟨g, 0, none⟩) (vs.length + 1) cap) := by rw [look_map, hx, ← hsl]; rfl
  obtain ⟨m, hm⟩ : ∃ m, vs.length = m := ⟨_, rfl⟩
  rw [hm] at hlk hvl
  have HLK : Hid (look (R.hist.map fun p => (p.1, p.2.sl)) key = some (.slice (some ⟨g, 0, none⟩) (m + 1) cap)) := hlk
  have HST : Hid (StoreAt w R) := h
  have HT : Hid (Tied R) := t
  have HX : Hid (look R.hist key = some x) := hx
  have HVM : Hid (R.vm = some b) := hvm
  have HM : Hid (MapAt Value.string w b (R.hist.map fun p => (p.1, p.2.sl))) := hM
  have HR : Hid (Row w 79 3 x.sl (vs.length + 1) (x.vers.flatMap Ver.cells)) := hR
  have HL : Hid (R.keys.length < 1000000000000) := hl
  have HVS : Hid (x.vers = vs ++ [v]) := hxv
  have HMM : Hid (vs.length = m) := hm
  have HSL : Hid (x.sl = .slice (some ⟨g, 0, none⟩) (vs.length + 1) cap) := hsl
  have hcap : m + 1 ≤ cap := by
    rcases hR.2 with ⟨e, h0⟩ | ⟨g', cap', cur, e, hg, hnc, hcm, hcs, htk⟩
    · omega
    · rw [hsl] at e
      cases e
      omega
  have hRm : Row w 79 3 (.slice (some ⟨g, 0, none⟩) (m + 1) cap) (m + 1) (x.vers.flatMap Ver.cells) := by rw [← hm, ← hsl]; exact hR
  obtain ⟨wc, hclr, hkc, hRc⟩ := clear_last g m cap _ w hRm
  obtain ⟨hgs, hgb, hsb, hgl⟩ : g ≠ R.sb ∧ g ≠ b ∧ R.sb ≠ b ∧ g < w.heap.size := by
    have hn := ((fp_perm R key).nodup_iff).1 h.nodup
    rw [List.nodup_append, List.nodup_append] at hn
    have hsl' : slOf R.hist key = x.sl := by unfold slOf; rw [hx]; rfl
    have hd2 := hn.2.1.2.2
    have hr := hn.2.1.2.1
    rw [hsl', hsl] at hd2
    refine ⟨fun e => hd2 g (by simp [Value.ownBlock]) g (by simp [Rep.restOf, e]) rfl, fun e => hd2 g (by simp [Value.ownBlock]) g (by simp [Rep.restOf, hvm, e]) rfl, fun e => ?_, hRm.lt rfl⟩
    simp only [Rep.restOf, List.nodup_cons, List.mem_append, not_or] at hr
    exact hr.1.2.1 (by simp [hvm, e])
  have c6c : wc.cell? ⟨R.sb, 8, none⟩ = some (.map (some b)) := hkc.cell (p := ⟨R.sb, 8, none⟩) c6 (Ne.symm hgs)
  have hMc : MapAt Value.string wc.drew b (R.hist.map fun p => (p.1, p.2.sl)) := (hM.kept hkc (Ne.symm hgb)).kept (Keeps.drew (fun _ => False) wc) (fun h => h)
  obtain ⟨ob, hrun, hM1⟩ := hMc.update (P := Try.prog) (t := 62) strKeyOk Try.underlying62 Try.underlying9 key (.slice (some ⟨g, 0, none⟩) m m)
  have HM1 : Hid (MapAt Value.string (Go.ChangeMaps.setBlock wc.drew b ob) b (put (R.hist.map fun p => (p.1, p.2.sl)) key (.slice (some ⟨g, 0, none⟩) m m))) := hM1
  have HRC : Hid (Row wc 79 3 (.slice (some ⟨g, 0, none⟩) m m) m ((x.vers.flatMap Ver.cells).take (m * 3))) := hRc
  have HKC : Hid (Keeps (· = g) w wc) := hkc
  have HN : Hid (g ≠ R.sb ∧ g ≠ b ∧ R.sb ≠ b ∧ g < w.heap.size) := ⟨hgs, hgb, hsb, hgl⟩
  have hRS : R.sb < wc.heap.size := Nat.lt_of_lt_of_le hlt hkc.size
  clear hRm hkc hRc hMc hM1 hgs hgb hsb hgl
  clear h t hx hvm hM hR hR' hl hxv hm hsl hlk hv hxl
  go_enter Try.func71, Try.ntmps71
  go_wp2_with (at_lookup; go_must (refine wpList_lookup_at _ rfl _ _ 62 rfl 9 99 strKeyOk Try.underlying62 Try.underlying9 _ (Try.zeroVersions _) b rfl key rfl _ HM.out ?_; rw [HLK.out]; simp only [Option.getD_some]))
  go_region
  obtain ⟨hS1, hk1, hf1⟩ := HST.out.dropped HX.out HVS.out HMM.out HSL.out HVM.out HKC.out HRC.out HM1.out HN.out
  have hmem : memB R.keys key = true := by rw [HT.out.keys, HX.out]; rfl
  have HS1 : Hid (StoreAt (Go.ChangeMaps.setBlock wc.drew b ob) { R with vm := some b, hist := put R.hist key ⟨.slice (some ⟨g, 0, none⟩) m m, vs⟩ }) := hS1
  have HK1 : Hid (Keeps (· ∈ R.fp) w (Go.ChangeMaps.setBlock wc.drew b ob)) := hk1
  have HF1 : Hid (∀ k ∈ Rep.fp { R with vm := some b, hist := put R.hist key ⟨.slice (some ⟨g, 0, none⟩) m m, vs⟩ }, k ∈ R.fp) := hf1
  have HMEM : Hid (memB R.keys key = true) := hmem
  clear hS1 hk1 hf1 hmem hclr hrun c6c
  by_cases hm0 : m = 0
  · have hFG := forget_any { R with vm := some b, hist := put R.hist key ⟨.slice (some ⟨g, 0, none⟩) m m, vs⟩ } key _ HS1.out HT.out.rises HMEM.out b rfl HL.out
    go_wp2_with (go_at_call 80; go_must (refine hFG.mono ?_; rintro e w4 ⟨rfl, hf⟩))
    go_end0
    exact ⟨rfl, drop_last HST.out HT.out (List.eq_nil_of_length_eq_zero (HMM.out.trans hm0)) HMEM.out HK1.out HF1.out hf⟩
  · go_wp2
    go_end0
    exact ⟨rfl, drop_more HST.out HT.out (fun e => hm0 (HMM.out.symm.trans (by rw [e]; rfl))) HMEM.out HS1.out HK1.out HF1.out⟩

end Go.Proofs.Ytfcocbcihhdbkaa
