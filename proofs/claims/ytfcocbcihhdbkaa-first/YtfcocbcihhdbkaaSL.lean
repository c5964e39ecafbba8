/- forget: a key that has no version left. -/
import Derived.Test.YtfcocbcihhdbkaaSK
namespace Go.Proofs.Ytfcocbcihhdbkaa
open Go.RowKit

theorem own_ne {g s n c : Nat} (h : s ≠ g) : ¬ (Value.slice (some ⟨g, 0, none⟩) n c).ownBlock = some s := fun e => h (by simpa [Value.ownBlock, eq_comm] using e)

theorem own_eq {g s n c : Nat} (h : (Value.slice (some ⟨g, 0, none⟩) n c).ownBlock = some s) : g = s := by simpa [Value.ownBlock] using h

theorem StoreAt.forgot {w w' : World} {R : Rep} {S : Nat → Prop} (key : ByteArray) {kv' : Value} {keys' : List ByteArray} {b : Nat} (h : StoreAt w R) (hk : Keeps S w w')
    (hS : ∀ k, k < w.heap.size → S k → k = R.sb ∨ R.kv.ownBlock = some k ∨ R.vm = some k)
    (ht : w'.heap[R.sb]? = some (.cells (topCells { R with kv := kv' }) 66 (0, 0)))
    (hkr : Row w' 9 1 kv' keys'.length (keys'.map Value.string)) (hvm : R.vm = some b)
    (hm : MapAt Value.string w' b (del (R.hist.map fun p => (p.1, p.2.sl)) key)) (hkv : kv'.ownBlock = R.kv.ownBlock) :
    StoreAt w' { R with kv := kv', keys := keys', hist := del R.hist key } ∧ (Rep.fp { R with kv := kv', keys := keys', hist := del R.hist key }).Sublist R.fp := by
  have hlt := fp_lt h
  have hnd := h.nodup
  have hsub : (Rep.fp { R with kv := kv', keys := keys', hist := del R.hist key }).Sublist R.fp := by
    show (R.sb :: (R.fpWorks ++ (kv'.ownBlock.toList ++ R.vm.toList ++ (del R.hist key).flatMap (fun p => p.2.sl.ownBlock.toList)))).Sublist (R.sb :: (R.fpWorks ++ (R.kv.ownBlock.toList ++ R.vm.toList ++ R.hist.flatMap (fun p => p.2.sl.ownBlock.toList))))
    rw [hkv]
    exact List.Sublist.cons_cons _ (List.Sublist.append_left (List.Sublist.append_left (flatMap_sublist _ (del_sublist _ _)) _) _)
  have hnd1 := hnd
  simp only [Rep.fp, Rep.fpPast, List.nodup_cons, List.nodup_append, List.mem_append, not_or] at hnd1
  obtain ⟨⟨n1, ⟨n2, n3⟩, n4⟩, n5, ⟨⟨n6, n7, n8⟩, n9, n10⟩, n11⟩ := hnd1
  have hns : ∀ k ∈ R.fpWorks, ¬ S k := by
    intro k hk1 hs
    rcases hS k (hlt k (by simp [Rep.fp, hk1])) hs with e | e | e
    · exact n1 (e ▸ hk1)
    · exact n11 k hk1 k (.inl (.inl (by simp [e]))) rfl
    · exact n11 k hk1 k (.inl (.inr (by simp [e]))) rfl
  have hnh : ∀ p ∈ R.hist, ∀ g, p.2.sl.ownBlock = some g → ¬ S g := by
    intro p hp g hg hs
    have hgd : g ∈ R.hist.flatMap (fun p => p.2.sl.ownBlock.toList) := List.mem_flatMap.2 ⟨p, hp, by simp [hg]⟩
    rcases hS g (hlt g (by simp only [Rep.fp, Rep.fpPast, List.mem_cons, List.mem_append]; exact .inr (.inr (.inr hgd)))) hs with e | e | e
    · exact n4 (e ▸ hgd)
    · exact n10 g (.inl (by simp [e])) g hgd rfl
    · exact n10 g (.inr (by simp [e])) g hgd rfl
  have hw := h.works.kept hk hns
  refine ⟨⟨ht, ⟨hw.worksMap, hw.worksEach, hw.pinsMap, hw.copyMap⟩, ⟨hkr, ?_, ?_⟩, hsub.nodup hnd⟩, hsub⟩
  · show OptMap _ _ R.vm _
    rw [hvm]
    show MapAt _ _ _ _
    rw [← del_map]
    exact hm
  · intro p hp
    have hp1 := (del_sublist _ _).subset hp
    exact (h.past.histEach p hp1).kept hk (hnh p hp1)

/-- What forget leaves. -/
def ForgetPost (R : Rep) (key : ByteArray) (w w' : World) : Prop :=
  ∃ kv', StoreAt w' { R with kv := kv', keys := R.keys.eraseIdx (below R.keys key), hist := del R.hist key } ∧ (Rep.fp { R with kv := kv', keys := R.keys.eraseIdx (below R.keys key), hist := del R.hist key }).Sublist R.fp ∧ Keeps (· ∈ R.fp) w w'

set_option maxRecDepth 100000 in
set_option maxHeartbeats 300000 in
theorem forget_any (R : Rep) (key : ByteArray) (w : World) (h : StoreAt w R) (hr : Rises R.keys) (hm : memB R.keys key = true) (b : Nat) (hvm : R.vm = some b) (hl : R.keys.length < 1000000000000) :
    Calls Try.prog 80 #[.pointer (some ⟨R.sb, 7, none⟩), .string key] w fun e w' => e = .returned (.tuple #[]) ∧ ForgetPost R key w w' := by
  have hM : MapAt Value.string w b (R.hist.map fun p => (p.1, p.2.sl)) := by have := h.past.histMap; rw [hvm] at this; exact this
  have c6 : w.cell? ⟨R.sb, 8, none⟩ = some (.map (some b)) := (h.cell 8).trans (by rw [← hvm]; rfl)
  have hrow := h.past.keysRow
  obtain ⟨hbl, hbk⟩ := (below_mem (x := key) hr).2 ((memB_iff _ _).1 hm)
  obtain ⟨a, capv, hkv, hnl, ha⟩ := hrow.form
  obtain ⟨g, rfl⟩ := ha (by omega)
  have c5 : w.cell? ⟨R.sb, 7, none⟩ = some (.slice (some ⟨g, 0, none⟩) R.keys.length capv) := (h.cell 7).trans (by rw [← hkv]; rfl)
  have hlt := h.lt
  have hf5 : w.frozen? ⟨R.sb, 7, none⟩ = false := h.frozen 7
  have hnd1 := h.nodup
  simp only [Rep.fp, Rep.fpPast, List.nodup_cons, List.nodup_append, List.mem_append, not_or, hkv, hvm] at hnd1
  have hsg : R.sb ≠ g := fun e => hnd1.1.2.1.1 (by simp [Value.ownBlock, e])
  have hsb : R.sb ≠ b := fun e => hnd1.1.2.1.2 (by simp [e])
  have hgb : g ≠ b := fun e => hnd1.2.2.1.1.2.2 g (by simp [Value.ownBlock]) b (by simp) e
  rw [hkv] at hrow
  have HROW : Hid (Row w 9 1 (.slice (some ⟨g, 0, none⟩) R.keys.length capv) R.keys.length (R.keys.map Value.string)) := hrow
  have HROW1 : Hid (∀ w1, Keeps (· = b) w w1 → Row w1 9 1 (.slice (some ⟨g, 0, none⟩) R.keys.length capv) R.keys.length (R.keys.map Value.string)) := fun w1 hk => hrow.kept hk (fun k hk' e => by
    have h2 : k = b := e
    exact hgb ((own_eq hk').trans h2))
  have HFZ : Hid (∀ w1 w2 w3, Keeps (· = b) w w1 → Keeps (fun _ => False) w1 w2 → Keeps (fun k => (Value.slice (some ⟨g, 0, none⟩) R.keys.length capv).ownBlock = some k) w2 w3 → w3.frozen? ⟨R.sb, 7, none⟩ = false) := fun w1 w2 w3 h1 h2 h3 => by
    rw [h3.frozen (by have := h1.size; have := h2.size; show R.sb < _; omega) (own_ne hsg), h2.frozen (by have := h1.size; show R.sb < _; omega) (fun h => h), h1.frozen hlt hsb]
    exact hf5
  have HST : Hid (StoreAt w R) := h
  have HR : Hid (Rises R.keys) := hr
  have HM : Hid (MapAt Value.string w b (R.hist.map fun p => (p.1, p.2.sl))) := hM
  have HKV : Hid (R.kv = .slice (some ⟨g, 0, none⟩) R.keys.length capv) := hkv
  have HVM : Hid (R.vm = some b) := hvm
  have HL : Hid (R.keys.length < 1000000000000) := hl
  have HSG : Hid (R.sb ≠ g) := hsg
  have HSB : Hid (R.sb ≠ b) := hsb
  have HGB : Hid (g ≠ b) := hgb
  have HMEM : Hid (memB R.keys key = true) := hm
  obtain ⟨i, hi⟩ : ∃ i, below R.keys key = i := ⟨_, rfl⟩
  rw [hi] at hbl
  have HI : Hid (below R.keys key = i) := hi
  have hib : i < 1000000000000 := by omega
  clear h hr hM hkv hvm hl hnd1 hsg hsb hgb hrow hm hi hbk
  go_enter Try.func80, Try.ntmps80
  go_wp2_with (first
    | (at_delete; go_must (refine wpList_delete_at _ rfl _ _ 62 9 rfl 99 strKeyOk Try.underlying62 Try.underlying9 b rfl key rfl _ HM.out ?_; intro w1 hm1 hk1 hz1; have c51 := hk1.cell (p := ⟨R.sb, 7, none⟩) c5 HSB.out))
    | (go_at_call 57; go_must (refine (search_keys _ R.keys key w1 (HROW1.out w1 hk1) HR.out (by have := HL.out; omega)).mono ?_; rw [HI.out, HMEM.out]; rintro e w2 ⟨rfl, hk2⟩; have c52 := hk2.cell (p := ⟨R.sb, 7, none⟩) c51 (fun h => h)))
    | (go_at_call 89; go_must (refine (delete_key _ R.keys i w2 ((HROW1.out w1 hk1).kept hk2 (fun _ _ h => h)) hbl).mono ?_; rintro e w3 ⟨g', cap', hg', rfl, hrow3, hk3⟩; obtain rfl : g = g' := own_eq hg'; have c53 := hk3.cell (p := ⟨R.sb, 7, none⟩) c52 (own_ne HSG.out); have hf53 : w3.frozen? ⟨R.sb, 7, none⟩ = false := HFZ.out w1 w2 w3 hk1 hk2 hk3)))
  go_end0
  have hkk : Keeps (fun k => k = R.sb ∨ k = g ∨ k = b) w (w3.setCell ⟨R.sb, 7, none⟩ (.slice (some ⟨g, 0, none⟩) (R.keys.length - 1) cap')) := (((hk1.mono (fun _ _ h => .inr (.inr h))).tr hk2 (fun _ h => h.elim)).tr hk3 (fun _ h => .inr (.inl (own_eq h).symm))).tr (Keeps.setCell _ _ _) (fun _ h => .inl h)
  have hlen : (R.keys.eraseIdx i).length = R.keys.length - 1 := List.length_eraseIdx_of_lt hbl
  have h3 : w3.heap[R.sb]? = some (.cells (topCells R) 66 (0, 0)) := by
    rw [hk3.block R.sb (by have := hk1.size; have := hk2.size; omega) (own_ne HSG.out), hk2.block R.sb (by have := hk1.size; omega) (fun h => h), hk1.block R.sb hlt HSB.out]
    exact HST.out.top
  have hres := HST.out.forgot key (kv' := .slice (some ⟨g, 0, none⟩) (R.keys.length - 1) cap') (keys' := R.keys.eraseIdx i) (b := b) hkk (fun k _ hs => ?_) ?_ ?_ HVM.out ?_ (by rw [HKV.out]; rfl)
  · rw [← HI.out] at hres
    refine ⟨rfl, _, hres.1, hres.2, hkk.mono (fun k _ hs => ?_)⟩
    rcases hs with rfl | rfl | rfl
    · simp [Rep.fp]
    · simp [Rep.fp, Rep.fpPast, HKV.out, Value.ownBlock]
    · simp [Rep.fp, Rep.fpPast, HVM.out]
  · rcases hs with h | h | h
    · exact .inl h
    · exact .inr (.inl (by rw [HKV.out, h]; rfl))
    · exact .inr (.inr (by rw [HVM.out, h]))
  · rw [heap_setCell_same h3]
    rfl
  · rw [hlen]
    exact hrow3.kept (Keeps.setCell _ _ _) (fun k hk e => HSG.out (by
      have h1 : k = R.sb := e
      exact h1.symm.trans (own_eq hk).symm))
  · exact ((hm1.kept hk2 (fun h => h)).kept hk3 (fun h => HGB.out (own_eq h))).kept (Keeps.setCell _ _ _) (fun e => HSB.out (Eq.symm e))

end Go.Proofs.Ytfcocbcihhdbkaa
