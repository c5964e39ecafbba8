import Derived.Test.YtpagenipflmlfaaGreatDoorM06
import Derived.Deep.RegionHeld3

/- Add. -/

namespace Go.Proofs.YtpagenipflmlfaaGreatDoor

open Go.RowKit

/-- append onto a slice at the head of its block, as one step of a region that draws. -/
theorem step_append_row {P : Program} (w : World) {ops : Array Oper} {o : Oper} {a : Act} {K : Act → World → Prop} {Q : Exit → Act → World → Prop} {E : Prop} (hgd : o.guard = none) (s x : Operand) (t : TypeId)
    (ho : o.op = .call { callee := .builtin .append, args := #[s, x], argTypes := #[t, t] })
    (e : TypeId) (i : TypeInfo) (z : Value) (size bytes : Nat) (ht : P.underlying t = some (.slice e)) (hi : P.info? e = some i) (hz : i.zero = some z)
    (hsize : i.size = size) (hby : i.bytes = bytes) (hzs : z.cells.size = size)
    (v : Value) (n : Nat) (xs : List Value) (hs : a.eval s = v) (hown : Row w e size v n xs)
    (ad : Addr) (m c : Nat) (news : List Value) (hx : a.eval x = .slice (some ad) m c) (hl : news.length = m * size) (hnews : ∀ j u, news[j]? = some u → w.cell? (ad.add j) = some u) (h1 : ∀ u ∈ news, u.oneCell' = true)
    (h63 : n + m ≤ maxLen) (hbytes : (n + m) * bytes ≤ 140737488355328)
    (h : ∀ v' w', Row w' e size v' (n + m) (xs ++ news) → w.grownBy w' v.ownBlock → (v' = .slice none 0 0 ↔ v = .slice none 0 0 ∧ m = 0) → (v'.ownBlock = v.ownBlock ∨ v'.ownBlock = some w.heap.size) → K (a.put o.dst v') w') :
    if Region.wanted o (yielded ops a.tmps) = true then Oper.wp P o a w K Q else E := by
  have hw : Region.wanted o (yielded ops a.tmps) = true := by simp [Region.wanted, hgd]
  rw [if_pos hw]
  obtain ⟨v', w', hr, h2, h3, h4, h5⟩ := run_append_row (P := P) w t o.type e i z size bytes ht hi hz hsize hby hzs v n xs hown ad m c news hl hnews h1 h63 hbytes
  unfold Oper.wp execOp
  simp only [ho, resolve, invoke, builtin, Sem.run_bind, Sem.run_pure, Result.andThen_ok, List.map_toArray, List.map_cons, List.map_nil, hs, hx, hr]
  exact h v' w' h2 h3 h4 h5

theorem Tryz.infoVersion : (Tryz.prog.info? 107).map (fun i => (i.zero, i.size, i.bytes)) = some (some (.agg #[.int .i64 0, .string ⟨#[]⟩, .bool false]), 3, 32) := by kernel_rfl

theorem eqVm_some (b : Nat) (w : World) : (binOp BinOp.eql 61 (.map (some b)) (.map none)).run Tryz.prog w = .ok (.bool false) w := by kernel_rfl

theorem eqVm_none (w : World) : (binOp BinOp.eql 61 (.map none) (.map none)).run Tryz.prog w = .ok (.bool true) w := by kernel_rfl

/-- What Add leaves. -/
def AddPost (R : Rep) (key : ByteArray) (v : Ver) (w w' : World) : Prop :=
  ∃ kv' b sl', StoreAt w' { R with kv := kv', keys := (if memB R.keys key then R.keys else insAt R.keys (below R.keys key) key), vm := some b, hist := put R.hist key ⟨sl', versOf R.hist key ++ [v]⟩ } ∧ Keeps (· ∈ R.fp) w w' ∧
    (∀ g, kv'.ownBlock = some g → R.kv.ownBlock = some g ∨ w.heap.size ≤ g) ∧ (∀ g, sl'.ownBlock = some g → (slOf R.hist key).ownBlock = some g ∨ w.heap.size ≤ g) ∧ (R.vm = some b ∨ R.vm = none ∧ w.heap.size ≤ b)

theorem add_news (w : World) (o : Obj) (v : Ver) : ∀ j u, v.cells[j]? = some u → (((w.alloc o).alloc (.cells #[.int .i64 v.state, .string v.value, .bool v.gone] 107)).drew).cell? ((⟨w.heap.size + 1, 0, none⟩ : Addr).add j) = some u := by
  intro j u hj
  rw [Addr.add_lit, Nat.zero_add]
  have hh : (((w.alloc o).alloc (.cells #[.int .i64 v.state, .string v.value, .bool v.gone] 107)).drew).heap[w.heap.size + 1]? = some (.cells #[.int .i64 v.state, .string v.value, .bool v.gone] 107 (0, 0)) := by
    have := heap_new (w.alloc o) (.cells #[.int .i64 v.state, .string v.value, .bool v.gone] 107)
    simpa [World.drew] using this
  rw [cell_of_heap hh]
  simpa [Ver.cells] using hj

theorem keep4b {W W' : World} {b c s : Nat} {u v x y : Value} (hk : Keeps (· = b) W W') (hs : s ≠ b) (hc : c ≠ b) (h1 : W.cell? ⟨s, 8, none⟩ = some u) (h2 : W.cell? ⟨c, 0, none⟩ = some v) (h3 : W.cell? ⟨c, 1, none⟩ = some x) (h4 : W.cell? ⟨c, 2, none⟩ = some y) :
    W'.cell? ⟨s, 8, none⟩ = some u ∧ W'.cell? ⟨c, 0, none⟩ = some v ∧ W'.cell? ⟨c, 1, none⟩ = some x ∧ W'.cell? ⟨c, 2, none⟩ = some y :=
  ⟨hk.cell (p := ⟨s, 8, none⟩) h1 hs, hk.cell (p := ⟨c, 0, none⟩) h2 hc, hk.cell (p := ⟨c, 1, none⟩) h3 hc, hk.cell (p := ⟨c, 2, none⟩) h4 hc⟩

theorem add_grown {R : Rep} {w w1 : World} {v : Ver} {o2 : Obj} {sl : Value} {b : Nat} {l : List (ByteArray × Value)} {u : Value} (h : StoreAt w R) (hbs : ∀ g, sl.ownBlock = some g → g ≠ R.sb ∧ g ≠ b ∧ g < w.heap.size) (hM : MapAt Value.string w b l) (c6 : w.cell? ⟨R.sb, 8, none⟩ = some u)
    (hg : (((w.alloc (.cells #[.int .i64 v.state, .string v.value, .bool v.gone] 107)).alloc o2).drew).grownBy w1 sl.ownBlock) :
    Keeps (fun k => sl.ownBlock = some k) w w1 ∧ MapAt Value.string w1 b l ∧ w1.cell? ⟨R.sb, 8, none⟩ = some u ∧ w1.cell? ⟨w.heap.size, 0, none⟩ = some (.int .i64 v.state) ∧ w1.cell? ⟨w.heap.size, 1, none⟩ = some (.string v.value) ∧ w1.cell? ⟨w.heap.size, 2, none⟩ = some (.bool v.gone) := by
  have hk0 := Keeps.grown hg
  have hk : Keeps (fun k => sl.ownBlock = some k) w w1 := ((((Keeps.refl _ w).al _).al _).dr).tr hk0 (fun _ h => h.symm)
  have hlt := h.lt
  have hb : w1.heap[w.heap.size]? = some (.cells #[.int .i64 v.state, .string v.value, .bool v.gone] 107 (0, 0)) := by
    rw [hk0.block w.heap.size (by simp; omega) (fun e => by have := (hbs _ e.symm).2.2; omega)]
    have := heap_new w (.cells #[.int .i64 v.state, .string v.value, .bool v.gone] 107)
    exact (Below.heap_alloc _ _ _ (by simp)).trans this
  exact ⟨hk, hM.kept hk (fun e => (hbs b e).2.1 rfl), hk.cell (p := ⟨R.sb, 8, none⟩) c6 (fun e => (hbs _ e).1 rfl), cell_of_heap hb 0, cell_of_heap hb 1, cell_of_heap hb 2⟩

set_option maxRecDepth 100000 in
set_option maxHeartbeats 1000000 in
/-- a key that has versions -/
theorem add_known (R : Rep) (key : ByteArray) (v : Ver) (x : HsR) (w : World) (h : StoreAt w R) (hx : look R.hist key = some x) (hin : memB R.keys key = true) (hl : x.vers.length < 1000000000000) :
    Calls Tryz.prog 111 #[.pointer (some ⟨R.sb, 7, none⟩), .string key, .agg #[.int .i64 v.state, .string v.value, .bool v.gone]] w fun e w' => e = .returned (.tuple #[]) ∧ AddPost R key v w w' := by
  obtain ⟨b, hvm⟩ : ∃ b, R.vm = some b := by
    cases hv : R.vm with
    | some b => exact ⟨b, rfl⟩
    | none =>
      have := h.past.histMap
      rw [hv] at this
      have e : R.hist = [] := List.map_eq_nil_iff.1 this
      rw [e] at hx
      cases hx
  have hM : MapAt Value.string w b (R.hist.map fun p => (p.1, p.2.sl)) := by have := h.past.histMap; rw [hvm] at this; exact this
  have c6 : w.cell? ⟨R.sb, 8, none⟩ = some (.map (some b)) := (h.cell 8).trans (by rw [← hvm]; rfl)
  have hlt := h.lt
  have hlt1 : R.sb < w.heap.size + 1 := by omega
  have hR := h.past.histEach _ (look_mem hx)
  have hlk : look (R.hist.map fun p => (p.1, p.2.sl)) key = some x.sl := by rw [look_map, hx]; rfl
  have hem := eqVm_some
  have hnot : ∀ (x : Bool) (w : World), (Op.unary .not (.bool x)).run Tryz.prog w = .ok (.bool (!x)) w := fun _ _ => rfl
  have HLK : Hid (look (R.hist.map fun p => (p.1, p.2.sl)) key = some x.sl) := hlk
  have HST : Hid (StoreAt w R) := h
  have HX : Hid (look R.hist key = some x) := hx
  have HIN : Hid (memB R.keys key = true) := hin
  have HVM : Hid (R.vm = some b) := hvm
  have HM : Hid (MapAt Value.string w b (R.hist.map fun p => (p.1, p.2.sl))) := hM
  have HR : Hid (Row w 107 3 x.sl x.vers.length (x.vers.flatMap Ver.cells)) := hR
  have HL : Hid (x.vers.length < 1000000000000) := hl
  obtain ⟨i0, hi, hz0, hz1, hz2⟩ := info_parts Tryz.infoVersion
  clear hlk h hx hin hvm hM hR hl
  go_enter Tryz.func111, Tryz.ntmps111
  go_wp2_with (at_lookup; go_must (refine wpList_lookup_ok_at _ rfl _ _ 61 rfl 9 114 strKeyOk Tryz.underlying61 Tryz.underlying9 _ (Tryz.zeroVersions _) b rfl key rfl _ (HM.out.kept (Keeps.alloc (fun _ => False) _ _) (fun h => h)) ?_; rw [HLK.out]; simp only [Option.getD_some, Option.isSome_some]))
  have HBS : Hid (∀ g, x.sl.ownBlock = some g → g ≠ R.sb ∧ g ≠ b ∧ g < w.heap.size) := fun g hg => by
    have hn := ((fp_perm R key).nodup_iff).1 HST.out.nodup
    rw [List.nodup_append, List.nodup_append] at hn
    have hsl : slOf R.hist key = x.sl := by unfold slOf; rw [HX.out]; rfl
    have hd2 := hn.2.1.2.2
    rw [hsl] at hd2
    refine ⟨fun e => hd2 g (by simp [hg]) g (by simp [Rep.restOf, e]) rfl, fun e => hd2 g (by simp [hg]) g (by simp [Rep.restOf, HVM.out, e]) rfl, HR.out.lt hg⟩
  have HSB : Hid (R.sb ≠ b) := by
    have hn := HST.out.nodup
    simp only [Rep.fp, Rep.fpPast, List.nodup_cons, List.mem_append, not_or] at hn
    exact fun e => hn.1.2.1.2 (by simp [HVM.out, e])
  have hbl : b < w.heap.size := HM.out.lt
  go_region_held3 (fun W => W.cell? ⟨R.sb, 8, none⟩ = some (.map (some b)) ∧ W.cell? ⟨w.heap.size, 0, none⟩ = some (.int .i64 v.state) ∧ W.cell? ⟨w.heap.size, 1, none⟩ = some (.string v.value) ∧ W.cell? ⟨w.heap.size, 2, none⟩ = some (.bool v.gone)) (go_keep)
    ((refine step_append_row _ (by rfl) _ _ 114 (by rfl) 107 i0 _ 3 32 Tryz.underlying114 hi hz0 hz1 hz2 (by rfl) x.sl x.vers.length _ (by rfl) (HR.out.kept (((Keeps.refl (fun _ => False) w).al _).al _).dr (fun _ _ h => h)) ⟨w.heap.size + 1, 0, none⟩ 1 1 v.cells (by rfl) (by rfl) (add_news w _ v) (by simp [Ver.cells, Value.oneCell']) (by have := HL.out; unfold maxLen; omega) (by have := HL.out; omega) ?_; intro v' w1 hown' hgrow _ hat; obtain ⟨g', cap', rfl⟩ := hown'.succ; obtain ⟨hkw, hmw, r0, r1, r2, r3⟩ := add_grown HST.out HBS.out HM.out c6 hgrow; obtain ⟨ob, hrun, hM1⟩ := hmw.update (P := Tryz.prog) (t := 61) strKeyOk Tryz.underlying61 Tryz.underlying9 key (.slice (some ⟨g', 0, none⟩) (x.vers.length + 1) cap'); obtain ⟨t0, t1, t2, t3⟩ := keep4b (Keeps.setBlock w1 b ob) HSB.out (by omega) r0 r1 r2 r3))
  go_end0
  have hvs : versOf R.hist key = x.vers := by unfold versOf; rw [HX.out]; rfl
  have hsl : slOf R.hist key = x.sl := by unfold slOf; rw [HX.out]; rfl
  have hkk : Keeps (fun k => x.sl.ownBlock = some k ∨ k = b) w (Go.ChangeMaps.setBlock w1 b ob) := (hkw.mono (fun _ _ h => .inl h)).tr (Keeps.setBlock w1 b ob) (fun _ h => .inr h)
  have hgb : g' ≠ b := by
    rcases hat with h | h
    · exact (HBS.out g' (by rw [← h]; rfl)).2.1
    · have h' : g' = w.heap.size + 1 + 1 := by simpa [Value.ownBlock] using h
      omega
  have hkvn : ∀ g, R.kv.ownBlock = some g → g ≠ b ∧ x.sl.ownBlock ≠ some g ∧ g < w.heap.size := fun g hg => by
    have hn := ((fp_perm R key).nodup_iff).1 HST.out.nodup
    rw [List.nodup_append] at hn
    have hd1 := hn.2.2
    rw [hsl] at hd1
    refine ⟨fun e => hd1 g (by simp [hg]) g (List.mem_append_right _ (by simp [Rep.restOf, HVM.out, e])) rfl, fun e => hd1 g (by simp [hg]) g (List.mem_append_left _ (by simp [e])) rfl, HST.out.past.keysRow.lt hg⟩
  have c2 : ∀ g, (Value.slice (some ⟨g', 0, none⟩) (x.vers.length + 1) cap').ownBlock = some g → (slOf R.hist key).ownBlock = some g ∨ w.heap.size ≤ g := fun g hg => by
    rw [hsl]
    rcases hat with h | h
    · exact .inl (by rw [← h]; exact hg)
    · have h' : g' = w.heap.size + 1 + 1 := by simpa [Value.ownBlock] using h
      have hg' : g' = g := by simpa [Value.ownBlock] using hg
      right; omega
  refine ⟨rfl, R.kv, b, .slice (some ⟨g', 0, none⟩) (x.vers.length + 1) cap', ?_, ?_, fun g hg => .inl hg, c2, .inl HVM.out⟩
  · rw [if_pos HIN.out, hvs]
    refine HST.out.added key hkk (fun k _ hs => ?_) ?_ ?_ hM1 ?_ (fun g hg => .inl hg) c2 (.inl HVM.out) ?_
    · rcases hs with hs | hs
      · exact .inr (.inr (.inr (by rw [hsl]; exact hs)))
      · exact .inr (.inr (.inl (by rw [HVM.out, hs])))
    · have e : topCells { R with kv := R.kv, vm := some b } = topCells R := by simp [topCells, HVM.out]
      rw [e]
      exact (hkk.block R.sb HST.out.lt (by rintro (h | h); exact (HBS.out _ h).1 rfl; exact HSB.out h)).trans HST.out.top
    · exact HST.out.past.keysRow.kept hkk (fun g hg => by rintro (h | h); exact (hkvn g hg).2.1 h; exact (hkvn g hg).1 h)
    · have := hown'.kept (Keeps.setBlock w1 b ob) (fun g hg => by
        have hg' : g' = g := by simpa [Value.ownBlock] using hg
        exact hg' ▸ hgb)
      simpa [Ver.cells] using this
    · cases hkb : R.kv.ownBlock with
      | none => simp [Value.ownBlock, hgb]
      | some g =>
        have h1 := hkvn g hkb
        have h2 : g ≠ g' := by
          rcases hat with h | h
          · exact fun e => h1.2.1 (by rw [← h, e]; rfl)
          · have h' : g' = w.heap.size + 1 + 1 := by simpa [Value.ownBlock] using h
            omega
        simp [Value.ownBlock, hgb, h1.1, h2]
  · refine hkk.mono (fun k hk h => ?_)
    rw [(fp_perm R key).mem_iff, hsl]
    rcases h with h | rfl
    · exact List.mem_append_right _ (List.mem_append_left _ (by simp [h]))
    · exact List.mem_append_right _ (List.mem_append_right _ (by simp [Rep.restOf, HVM.out]))

end Go.Proofs.YtpagenipflmlfaaGreatDoor

/- Add of a key that has no version. -/

namespace Go.Proofs.YtpagenipflmlfaaGreatDoor

open Go.RowKit

/-- The list of keys laid anew. -/
theorem StoreAt.keysSet {w w' : World} {R : Rep} {S : Nat → Prop} {kv' : Value} {keys' : List ByteArray} (h : StoreAt w R) (hk : Keeps S w w') (hS : ∀ k, k < w.heap.size → S k → k = R.sb ∨ R.kv.ownBlock = some k)
    (ht : w'.heap[R.sb]? = some (.cells (topCells { R with kv := kv' }) 65 (0, 0))) (hkr : Row w' 9 1 kv' keys'.length (keys'.map Value.string)) (c1 : ∀ g, kv'.ownBlock = some g → R.kv.ownBlock = some g ∨ w.heap.size ≤ g) :
    StoreAt w' { R with kv := kv', keys := keys' } := by
  have hlt := fp_lt h
  have hnd := h.nodup
  have hn2 : ∀ k ∈ R.fpWorks, ¬ S k := by
    intro k hk1 hs
    have hkf : k ∈ R.fp := by simp [Rep.fp, hk1]
    rcases hS k (hlt k hkf) hs with e | e
    · simp only [Rep.fp, List.nodup_cons, List.mem_append, not_or] at hnd
      exact hnd.1.1 (e ▸ hk1)
    · simp only [Rep.fp, Rep.fpPast, List.nodup_cons, List.nodup_append] at hnd
      exact hnd.2.2.2 k hk1 k (by simp [e]) rfl
  have hn3 : ∀ k ∈ R.vm.toList ++ R.hist.flatMap (fun p => p.2.sl.ownBlock.toList), ¬ S k := by
    intro k hk1 hs
    have hkf : k ∈ R.fp := by
      simp only [Rep.fp, Rep.fpPast, List.mem_cons, List.mem_append] at hk1 ⊢
      rcases hk1 with h | h
      · exact .inr (.inr (.inl (.inr h)))
      · exact .inr (.inr (.inr h))
    rcases hS k (hlt k hkf) hs with e | e
    · subst e
      simp only [Rep.fp, Rep.fpPast, List.nodup_cons, List.mem_append, not_or] at hnd hk1
      rcases hk1 with h | h
      · exact hnd.1.2.1.2 h
      · exact hnd.1.2.2 h
    · have hp := hnd
      simp only [Rep.fp, Rep.fpPast, List.nodup_cons, List.nodup_append, List.append_assoc] at hp
      have hd := hp.2.2.1.2.2
      exact hd k (by simp [e]) k (by simpa [List.mem_append] using hk1) rfl
  have hw := h.works.kept hk hn2
  refine ⟨ht, ⟨hw.worksMap, hw.worksEach, hw.pinsMap, hw.copyMap⟩, ⟨hkr, h.past.histMap.kept hk (fun b hb => hn3 b (by simp [hb])), fun p hp => (h.past.histEach p hp).kept hk (fun g hg => hn3 g (List.mem_append_right _ (List.mem_flatMap.2 ⟨p, hp, by simp [hg]⟩)))⟩, ?_⟩
  have hp : ∀ kv : Value, (Rep.fp { R with kv := kv, keys := keys' }).Perm (kv.ownBlock.toList ++ (R.sb :: (R.fpWorks ++ (R.vm.toList ++ R.hist.flatMap (fun p => p.2.sl.ownBlock.toList))))) := by
    intro kv
    show (R.sb :: (R.fpWorks ++ (kv.ownBlock.toList ++ R.vm.toList ++ R.hist.flatMap (fun p => p.2.sl.ownBlock.toList)))).Perm _
    rw [List.append_assoc]
    exact ((List.perm_append_comm_assoc _ _ _).cons _).trans List.perm_middle.symm
  rw [(hp kv').nodup_iff]
  have h0 : (R.kv.ownBlock.toList ++ (R.sb :: (R.fpWorks ++ (R.vm.toList ++ R.hist.flatMap (fun p => p.2.sl.ownBlock.toList))))).Nodup := ((hp R.kv).nodup_iff).1 hnd
  rw [List.nodup_append] at h0 ⊢
  refine ⟨by cases kv'.ownBlock <;> simp, h0.2.1, ?_⟩
  intro a ha c hc e
  subst e
  have ha' : kv'.ownBlock = some a := by simpa using ha
  rcases c1 a ha' with h1 | h1
  · exact h0.2.2 a (by simp [h1]) a hc rfl
  · have : a ∈ R.fp := (hp R.kv).mem_iff.2 (List.mem_append_right _ hc)
    have := hlt a this
    omega

/-- The new version's three cells, in a block that was just laid. -/
theorem add_news0 (W : World) (v : Ver) : ∀ j u, v.cells[j]? = some u → ((W.alloc (.cells #[.int .i64 v.state, .string v.value, .bool v.gone] 107)).drew).cell? ((⟨W.heap.size, 0, none⟩ : Addr).add j) = some u := by
  intro j u hj
  rw [Addr.add_lit, Nat.zero_add]
  have hh : ((W.alloc (.cells #[.int .i64 v.state, .string v.value, .bool v.gone] 107)).drew).heap[W.heap.size]? = some (.cells #[.int .i64 v.state, .string v.value, .bool v.gone] 107 (0, 0)) := heap_new W _
  rw [cell_of_heap hh]
  simpa [Ver.cells] using hj

theorem keep4c {S : Nat → Prop} {W W' : World} {c s : Nat} {u v x y : Value} (hk : Keeps S W W') (hs : ¬ S s) (hc : ¬ S c) (h1 : W.cell? ⟨s, 8, none⟩ = some u) (h2 : W.cell? ⟨c, 0, none⟩ = some v) (h3 : W.cell? ⟨c, 1, none⟩ = some x) (h4 : W.cell? ⟨c, 2, none⟩ = some y) :
    W'.cell? ⟨s, 8, none⟩ = some u ∧ W'.cell? ⟨c, 0, none⟩ = some v ∧ W'.cell? ⟨c, 1, none⟩ = some x ∧ W'.cell? ⟨c, 2, none⟩ = some y :=
  ⟨hk.cell (p := ⟨s, 8, none⟩) h1 hs, hk.cell (p := ⟨c, 0, none⟩) h2 hc, hk.cell (p := ⟨c, 1, none⟩) h3 hc, hk.cell (p := ⟨c, 2, none⟩) h4 hc⟩

theorem Row.one {w : World} {e : TypeId} {size : Nat} {v : Value} {xs : List Value} (h : Row w e size v (0 + 1) ([] ++ xs)) : ∃ g cap, v = .slice (some ⟨g, 0, none⟩) 1 cap ∧ Row w e size (.slice (some ⟨g, 0, none⟩) 1 cap) 1 xs := by
  obtain ⟨g, cap, rfl⟩ := h.succ
  exact ⟨g, cap, rfl, by simpa using h⟩

set_option maxRecDepth 100000 in
set_option maxHeartbeats 1000000 in
theorem add_new (R : Rep) (key : ByteArray) (v : Ver) (b : Nat) (w : World) (h : StoreAt w R) (hvm : R.vm = some b) (hx : look R.hist key = none) (hin : memB R.keys key = false) (hrs : Rises R.keys) (hl : R.keys.length < 1000000000000) :
    Calls Tryz.prog 111 #[.pointer (some ⟨R.sb, 7, none⟩), .string key, .agg #[.int .i64 v.state, .string v.value, .bool v.gone]] w fun e w' => e = .returned (.tuple #[]) ∧ AddPost R key v w w' := by
  have hM : MapAt Value.string w b (R.hist.map fun p => (p.1, p.2.sl)) := by have := h.past.histMap; rw [hvm] at this; exact this
  have c5 : w.cell? ⟨R.sb, 7, none⟩ = some R.kv := h.cell 7
  have c6 : w.cell? ⟨R.sb, 8, none⟩ = some (.map (some b)) := (h.cell 8).trans (by rw [← hvm]; rfl)
  have hlt := h.lt
  have hlt1 : R.sb < w.heap.size + 1 := by omega
  have hem := eqVm_some
  have hnot : ∀ (x : Bool) (w : World), (Op.unary .not (.bool x)).run Tryz.prog w = .ok (.bool (!x)) w := fun _ _ => rfl
  have HLK : Hid (look (R.hist.map fun p => (p.1, p.2.sl)) key = none) := by unfold Hid; rw [look_map, hx]; rfl
  have hbsn := search_keys R.kv R.keys key (w.alloc (.cells #[.int .i64 v.state, .string v.value, .bool v.gone] 107)) (h.past.keysRow.kept (Keeps.alloc (fun _ => False) _ _) (fun _ _ h => h)) hrs (by omega)
  rw [hin] at hbsn
  have HST : Hid (StoreAt w R) := h
  have HX : Hid (look R.hist key = none) := hx
  have HIN : Hid (memB R.keys key = false) := hin
  have HVM : Hid (R.vm = some b) := hvm
  have HM : Hid (MapAt Value.string w b (R.hist.map fun p => (p.1, p.2.sl))) := hM
  have HL : Hid (R.keys.length < 1000000000000) := hl
  have HINS : Hid (∀ w1, Keeps (fun _ => False) (w.alloc (.cells #[.int .i64 v.state, .string v.value, .bool v.gone] 107)) w1 → Calls Tryz.prog 143 #[R.kv, .int .i64 (below R.keys key), .slice (some ⟨w1.heap.size, 0, none⟩) 1 1] (w1.alloc (.cells #[.string key] 9)) fun e w' => ∃ g cap, e = .returned (.slice (some ⟨g, 0, none⟩) (R.keys.length + 1) cap) ∧ Row w' 9 1 (.slice (some ⟨g, 0, none⟩) (R.keys.length + 1) cap) (R.keys.length + 1) ((insAt R.keys (below R.keys key) key).map Value.string) ∧ Keeps (fun k => R.kv.ownBlock = some k) (w1.alloc (.cells #[.string key] 9)) w' ∧ (R.kv.ownBlock = some g ∨ (w1.alloc (.cells #[.string key] 9)).heap.size ≤ g)) := fun w1 hk1 =>
    insert_key R.kv R.keys (below R.keys key) key w1.heap.size _ (((h.past.keysRow.kept (Keeps.alloc (fun _ => False) _ _) (fun _ _ h => h)).kept hk1 (fun _ _ h => h)).kept (Keeps.alloc (fun _ => False) _ _) (fun _ _ h => h)) (below_le _ _) hl (heap_new w1 _) (fun e => by have := h.past.keysRow.lt e; have := hk1.size; simp at this; omega)
  have HKB : Hid (∀ g, R.kv.ownBlock = some g → g ≠ R.sb ∧ g ≠ b ∧ g < w.heap.size) := fun g hg => by
    have hn := ((fp_perm R key).nodup_iff).1 h.nodup
    rw [List.nodup_append] at hn
    have hd := hn.2.2
    exact ⟨fun e => hd g (by simp [hg]) g (List.mem_append_right _ (by simp [Rep.restOf, e])) rfl, fun e => hd g (by simp [hg]) g (List.mem_append_right _ (by simp [Rep.restOf, hvm, e])) rfl, h.past.keysRow.lt hg⟩
  have HSB : Hid (R.sb ≠ b) := by
    have hn := h.nodup
    simp only [Rep.fp, Rep.fpPast, List.nodup_cons, List.mem_append, not_or] at hn
    exact fun e => hn.1.2.1.2 (by simp [hvm, e])
  have hbl : b < w.heap.size := hM.lt
  obtain ⟨i0, hi, hz0, hz1, hz2⟩ := info_parts Tryz.infoVersion
  clear h hx hin hvm hM hl hrs
  go_enter Tryz.func111, Tryz.ntmps111
  go_wp2_with (first
    | (at_lookup; go_must (refine wpList_lookup_ok_at _ rfl _ _ 61 rfl 9 114 strKeyOk Tryz.underlying61 Tryz.underlying9 _ (Tryz.zeroVersions _) b rfl key rfl _ (HM.out.kept (Keeps.alloc (fun _ => False) _ _) (fun h => h)) ?_; rw [HLK.out]; simp only [Option.getD_none, Option.isSome_none]))
    | (go_at_call 92; go_must (refine hbsn.mono ?_; rintro e w1 ⟨rfl, hk1⟩; have hKw1 : Keeps (fun _ => False) w w1 := (Keeps.alloc (fun _ => False) _ _).tr hk1 (fun _ h => h); have d5 : w1.cell? ⟨R.sb, 7, none⟩ = some R.kv := hKw1.cell (p := ⟨R.sb, 7, none⟩) c5 (fun h => h); have dlt : R.sb < w1.heap.size := by (have := hKw1.size; omega)))
    | (go_at_call 143; go_must (refine (HINS.out w1 hk1).mono ?_; rintro e w2 ⟨g1, cap1, rfl, hr2, hk2, hat2⟩; have hKw2 : Keeps (fun k => R.kv.ownBlock = some k) w w2 := ((hKw1.mono (fun _ _ h => h.elim)).al _).tr hk2 (fun _ h => h); have f5 : w2.cell? ⟨R.sb, 7, none⟩ = some R.kv := hKw2.cell (p := ⟨R.sb, 7, none⟩) c5 (fun e => (HKB.out _ e).1 rfl); have f5f : w2.frozen? ⟨R.sb, 7, none⟩ = false := by (rw [hKw2.frozen (p := ⟨R.sb, 7, none⟩) hlt (fun e => (HKB.out _ e).1 rfl)]; exact HST.out.frozen 7))))
  have hg1 : g1 ≠ R.sb ∧ g1 ≠ b ∧ (R.kv.ownBlock = some g1 ∨ w.heap.size < g1) := by
    rcases hat2 with e | e
    · exact ⟨(HKB.out g1 e).1, (HKB.out g1 e).2.1, .inl e⟩
    · have := hKw1.size
      have := hk1.size
      simp at e this
      exact ⟨by omega, by omega, .inr (by omega)⟩
  have hT2 : w2.heap[R.sb]? = some (.cells (topCells R) 65 (0, 0)) := (hKw2.block R.sb hlt (fun e => (HKB.out _ e).1 rfl)).trans HST.out.top
  have hB2 : w2.heap[w.heap.size]? = some (.cells #[.int .i64 v.state, .string v.value, .bool v.gone] 107 (0, 0)) := by
    have h1 : w1.heap[w.heap.size]? = some (.cells #[.int .i64 v.state, .string v.value, .bool v.gone] 107 (0, 0)) := box_kept hk1 (fun h => h)
    have hz := hk1.size
    simp at hz
    rw [hk2.block w.heap.size (by simp; omega) (fun e => by have := (HKB.out _ e).2.2; omega), Below.heap_alloc _ _ _ (by omega)]
    exact h1
  have K3 : Keeps (fun k => R.kv.ownBlock = some k ∨ k = R.sb) w (w2.setCell ⟨R.sb, 7, none⟩ (.slice (some ⟨g1, 0, none⟩) (R.keys.length + 1) cap1)) := (hKw2.mono (fun _ _ h => .inl h)).st (.inr (.inr rfl)) _
  have c1 : ∀ g, (Value.slice (some ⟨g1, 0, none⟩) (R.keys.length + 1) cap1).ownBlock = some g → R.kv.ownBlock = some g ∨ w.heap.size ≤ g := fun g hg => by
    have hg' : g1 = g := by simpa [Value.ownBlock] using hg
    subst hg'
    rcases hg1.2.2 with e | e
    · exact .inl e
    · right; omega
  have S3 := HST.out.keysSet (keys' := insAt R.keys (below R.keys key) key) K3 (fun k _ hs => hs.elim (fun e => .inr e) (fun e => .inl e)) ((heap_setCell_same (i := 7) hT2 _).trans (by simp [topCells])) (by
    have hr3 := hr2.kept (Keeps.setCell w2 ⟨R.sb, 7, none⟩ (.slice (some ⟨g1, 0, none⟩) (R.keys.length + 1) cap1)) (fun g hg => by
      have hg' : g1 = g := by simpa [Value.ownBlock] using hg
      exact fun e => hg1.1 (hg'.trans e))
    rw [insAt_length _ _ _ (below_le _ _)]
    exact hr3) c1
  have B3 : (w2.setCell ⟨R.sb, 7, none⟩ (.slice (some ⟨g1, 0, none⟩) (R.keys.length + 1) cap1)).heap[w.heap.size]? = some (.cells #[.int .i64 v.state, .string v.value, .bool v.gone] 107 (0, 0)) := (Below.heap_setCell _ _ _ _ (by simp only; omega)).trans hB2
  have z3 : w.heap.size + 2 ≤ (w2.setCell ⟨R.sb, 7, none⟩ (.slice (some ⟨g1, 0, none⟩) (R.keys.length + 1) cap1)).heap.size := by
    have h1 := hk1.size
    have h2 := hk2.size
    simp at h1 h2
    simp
    omega
  have G3 : ∀ g, (Value.slice (some ⟨g1, 0, none⟩) (R.keys.length + 1) cap1).ownBlock = some g → g < (w2.setCell ⟨R.sb, 7, none⟩ (.slice (some ⟨g1, 0, none⟩) (R.keys.length + 1) cap1)).heap.size := fun g hg => S3.past.keysRow.lt hg
  clear hT2 hB2 hk1 hKw1 hKw2 hk2 hr2 d5 dlt f5 f5f hbsn
  generalize w2.setCell ⟨R.sb, 7, none⟩ (.slice (some ⟨g1, 0, none⟩) (R.keys.length + 1) cap1) = W3 at K3 S3 B3 z3 G3
  have p0 : W3.cell? ⟨w.heap.size, 0, none⟩ = some (.int .i64 v.state) := cell_of_heap B3 0
  have p1 : W3.cell? ⟨w.heap.size, 1, none⟩ = some (.string v.value) := cell_of_heap B3 1
  have p2 : W3.cell? ⟨w.heap.size, 2, none⟩ = some (.bool v.gone) := cell_of_heap B3 2
  have p6 : W3.cell? ⟨R.sb, 8, none⟩ = some (.map (some b)) := (S3.cell 8).trans (by rw [← HVM.out]; rfl)
  have plt : R.sb < W3.heap.size := S3.lt
  have HS3 : Hid (StoreAt W3 { R with kv := .slice (some ⟨g1, 0, none⟩) (R.keys.length + 1) cap1, keys := insAt R.keys (below R.keys key) key }) := S3
  have HK3 : Hid (Keeps (fun k => R.kv.ownBlock = some k ∨ k = R.sb) w W3) := K3
  have HM3 : Hid (MapAt Value.string W3 b (R.hist.map fun p => (p.1, p.2.sl))) := by have := S3.past.histMap; simp only [HVM.out] at this; exact this
  clear S3 K3 B3 c5 c6
  go_region_held3 (fun W => W.cell? ⟨R.sb, 8, none⟩ = some (.map (some b)) ∧ W.cell? ⟨w.heap.size, 0, none⟩ = some (.int .i64 v.state) ∧ W.cell? ⟨w.heap.size, 1, none⟩ = some (.string v.value) ∧ W.cell? ⟨w.heap.size, 2, none⟩ = some (.bool v.gone)) (go_keep)
    ((refine step_append_row _ (by rfl) _ _ 114 (by rfl) 107 i0 _ 3 32 Tryz.underlying114 hi hz0 hz1 hz2 (by rfl) (.slice none 0 0) 0 [] (by rfl) (Row.nil _ _ _) ⟨W3.heap.size, 0, none⟩ 1 1 v.cells (by rfl) (by rfl) (add_news0 W3 v) (by simp [Ver.cells, Value.oneCell']) (by unfold maxLen; omega) (by omega) ?_; intro v' w5 hown' hgrow _ hat; obtain ⟨g', cap', rfl, hrow'⟩ := hown'.one; have hk5 : Keeps (fun _ => False) W3 w5 := (((Keeps.refl (fun _ => False) W3).al _).dr).tr (Keeps.grown hgrow) (fun _ h => by simp [Value.ownBlock] at h); obtain ⟨r0, r1, r2, r3⟩ := keep4c hk5 (fun h => h) (fun h => h) p6 p0 p1 p2; obtain ⟨ob, hrun, hM1⟩ := (HM3.out.kept hk5 (fun h => h)).update (P := Tryz.prog) (t := 61) strKeyOk Tryz.underlying61 Tryz.underlying9 key (.slice (some ⟨g', 0, none⟩) 1 cap'); obtain ⟨t0, t1, t2, t3⟩ := keep4b (Keeps.setBlock w5 b ob) HSB.out (by omega) r0 r1 r2 r3))
  go_end0
  have hg' : g' = W3.heap.size + 1 := by
    rcases hat with h | h
    · simp [Value.ownBlock] at h
    · simpa [Value.ownBlock] using h
  have hvs : versOf R.hist key = [] := by unfold versOf; rw [HX.out]; rfl
  have hsl : slOf R.hist key = .slice none 0 0 := by unfold slOf; rw [HX.out]; rfl
  have hkk : Keeps (fun k => k = b) W3 (Go.ChangeMaps.setBlock w5 b ob) := (hk5.mono (fun _ _ h => h.elim)).tr (Keeps.setBlock w5 b ob) (fun _ h => h)
  have hb3 : b < W3.heap.size := HM3.out.lt
  refine ⟨rfl, .slice (some ⟨g1, 0, none⟩) (R.keys.length + 1) cap1, b, .slice (some ⟨g', 0, none⟩) 1 cap', ?_, ?_, c1, fun g hg => ?_, .inl HVM.out⟩
  · rw [if_neg (by rw [HIN.out]; simp), hvs, List.nil_append]
    refine HS3.out.added key hkk (fun k _ hs => .inr (.inr (.inl (by rw [hs]; exact HVM.out)))) ?_ ?_ hM1 ?_ (fun g hg => .inl hg) (fun g hg => ?_) (.inl HVM.out) ?_
    · have e : topCells { R with kv := Value.slice (some ⟨g1, 0, none⟩) (R.keys.length + 1) cap1, keys := insAt R.keys (below R.keys key) key, vm := some b } = topCells { R with kv := Value.slice (some ⟨g1, 0, none⟩) (R.keys.length + 1) cap1, keys := insAt R.keys (below R.keys key) key } := by simp [topCells, HVM.out]
      show _ = some (Obj.cells (topCells { R with kv := Value.slice (some ⟨g1, 0, none⟩) (R.keys.length + 1) cap1, keys := insAt R.keys (below R.keys key) key, vm := some b }) _ _)
      rw [e]
      exact (hkk.block R.sb plt HSB.out).trans HS3.out.top
    · refine HS3.out.past.keysRow.kept hkk (fun g hg e => ?_)
      have hg2 : g1 = g := by simpa [Value.ownBlock] using hg
      exact hg1.2.1 (hg2.trans e)
    · have := hrow'.kept (Keeps.setBlock w5 b ob) (fun g hg e => by
        have hg2 : g' = g := by simpa [Value.ownBlock] using hg
        have e' : g = b := e
        omega)
      simpa using this
    · have hg2 : g' = g := by simpa [Value.ownBlock] using hg
      right; omega
    · have h1 : g1 ≠ g' := by have := G3 g1 rfl; omega
      have h2 : g' ≠ b := by omega
      simp [Value.ownBlock, h1, h2, hg1.2.1]
  · refine HK3.out.mono (fun k hk h => ?_) |>.trans hkk (fun k hk h => ?_)
    · rcases h with h | rfl
      · simp only [Rep.fp, Rep.fpPast, List.mem_cons, List.mem_append]
        exact .inr (.inr (.inl (.inl (by simp [h]))))
      · simp [Rep.fp]
    · have h' : k = b := h
      subst h'
      simp only [Rep.fp, Rep.fpPast, List.mem_cons, List.mem_append]
      exact .inr (.inr (.inl (.inr (by simp [HVM.out]))))
  · have hg2 : g' = g := by simpa [Value.ownBlock] using hg
    right; omega

end Go.Proofs.YtpagenipflmlfaaGreatDoor

/- Add of the first key. -/

namespace Go.Proofs.YtpagenipflmlfaaGreatDoor

open Go.RowKit

/-- The map of versions is made. -/
theorem StoreAt.vmSet {w : World} {R : Rep} (h : StoreAt w R) (hvm : R.vm = none) (hh : R.hist = []) (o : Obj) : StoreAt (((w.setCell ⟨R.sb, 8, none⟩ (.map (some (w.heap.size + 1)))).alloc o).alloc (.map #[] 0)) { R with vm := some (w.heap.size + 1) } := by
  have hlt := fp_lt h
  have hnd := h.nodup
  have hk : Keeps (· = R.sb) w (((w.setCell ⟨R.sb, 8, none⟩ (.map (some (w.heap.size + 1)))).alloc o).alloc (.map #[] 0)) := ((Keeps.setCell w ⟨R.sb, 8, none⟩ _).al _).al _
  have hne : ∀ k ∈ R.fpWorks ++ R.fpPast, ¬ k = R.sb := by
    intro k hk1 e
    subst e
    simp only [Rep.fp, List.nodup_cons] at hnd
    exact hnd.1 hk1
  have hw := h.works.kept hk (fun k hk1 => hne k (List.mem_append_left _ hk1))
  refine ⟨?_, ⟨hw.worksMap, hw.worksEach, hw.pinsMap, hw.copyMap⟩, ⟨h.past.keysRow.kept hk (fun g hg => hne g (List.mem_append_right _ (by simp [Rep.fpPast, hg]))), ?_, ?_⟩, ?_⟩
  · show (World.alloc _ _).heap[R.sb]? = _
    rw [Below.heap_alloc _ _ _ (by simp; have := h.lt; omega), Below.heap_alloc _ _ _ (by simp; have := h.lt; omega), heap_setCell_same h.top]
    simp [topCells]
  · show MapAt _ _ _ _
    rw [hh]
    have := MapAt.made Value.string ((w.setCell ⟨R.sb, 8, none⟩ (.map (some (w.heap.size + 1)))).alloc o)
    simpa using this
  · intro p hp
    have hp' : p ∈ R.hist := hp
    rw [hh] at hp'
    cases hp'
  · have e : Rep.fp { R with vm := some (w.heap.size + 1) } = R.sb :: (R.fpWorks ++ (R.kv.ownBlock.toList ++ [w.heap.size + 1] ++ R.hist.flatMap (fun p => p.2.sl.ownBlock.toList))) := rfl
    have e0 : R.fp = R.sb :: (R.fpWorks ++ (R.kv.ownBlock.toList ++ R.hist.flatMap (fun p => p.2.sl.ownBlock.toList))) := by simp [Rep.fp, Rep.fpPast, hvm]
    have hp : (Rep.fp { R with vm := some (w.heap.size + 1) }).Perm ((w.heap.size + 1) :: R.fp) := by
      rw [e, e0]
      refine List.Perm.trans ?_ (List.Perm.swap _ _ _)
      refine List.Perm.cons _ ?_
      rw [List.append_assoc, List.singleton_append]
      refine List.Perm.trans (List.Perm.append_left _ List.perm_middle) ?_
      exact List.perm_middle
    rw [hp.nodup_iff]
    exact List.nodup_cons.2 ⟨fun h' => by have := hlt _ h'; omega, hnd⟩

set_option maxRecDepth 100000 in
set_option maxHeartbeats 1000000 in
theorem add_first (R : Rep) (key : ByteArray) (v : Ver) (w : World) (h : StoreAt w R) (hvm : R.vm = none) (hin : memB R.keys key = false) (hrs : Rises R.keys) (hl : R.keys.length < 1000000000000) :
    Calls Tryz.prog 111 #[.pointer (some ⟨R.sb, 7, none⟩), .string key, .agg #[.int .i64 v.state, .string v.value, .bool v.gone]] w fun e w' => e = .returned (.tuple #[]) ∧ AddPost R key v w w' := by
  have hh0 : R.hist = [] := by have := h.past.histMap; rw [hvm] at this; exact List.map_eq_nil_iff.1 this
  have c5 : w.cell? ⟨R.sb, 7, none⟩ = some R.kv := h.cell 7
  have c6 : w.cell? ⟨R.sb, 8, none⟩ = some (.map none) := (h.cell 8).trans (by rw [← hvm]; rfl)
  have c6f : w.frozen? ⟨R.sb, 8, none⟩ = false := h.frozen 8
  have hlt := h.lt
  have hlt1 : R.sb < w.heap.size + 1 := by omega
  have hlt2 : R.sb < w.heap.size + 1 + 1 := by omega
  have hmm := @run_makeMap Tryz.prog
  have S0 : StoreAt (((w.setCell ⟨R.sb, 8, none⟩ (.map (some (w.heap.size + 1)))).alloc (.cells #[.int .i64 v.state, .string v.value, .bool v.gone] 107)).alloc (.map #[] 0)) { R with vm := some (w.heap.size + 1) } := h.vmSet hvm hh0 (.cells #[.int .i64 v.state, .string v.value, .bool v.gone] 107)
  have HK0 : Hid (Keeps (· = R.sb) w (((w.setCell ⟨R.sb, 8, none⟩ (.map (some (w.heap.size + 1)))).alloc (.cells #[.int .i64 v.state, .string v.value, .bool v.gone] 107)).alloc (.map #[] 0))) := ((Keeps.setCell w ⟨R.sb, 8, none⟩ _).al _).al _
  have hM : MapAt Value.string (((w.setCell ⟨R.sb, 8, none⟩ (.map (some (w.heap.size + 1)))).alloc (.cells #[.int .i64 v.state, .string v.value, .bool v.gone] 107)).alloc (.map #[] 0)) (w.heap.size + 1) (R.hist.map fun p => (p.1, p.2.sl)) := S0.past.histMap
  have d5z : (((w.setCell ⟨R.sb, 8, none⟩ (.map (some (w.heap.size + 1)))).alloc (.cells #[.int .i64 v.state, .string v.value, .bool v.gone] 107)).alloc (.map #[] 0)).cell? ⟨R.sb, 7, none⟩ = some R.kv := S0.cell 7
  have hem := eqVm_none
  have hnot : ∀ (x : Bool) (w : World), (Op.unary .not (.bool x)).run Tryz.prog w = .ok (.bool (!x)) w := fun _ _ => rfl
  have HLK : Hid (look (R.hist.map fun p => (p.1, p.2.sl)) key = none) := by unfold Hid; rw [hh0]; rfl
  have hbsn := search_keys R.kv R.keys key (((w.setCell ⟨R.sb, 8, none⟩ (.map (some (w.heap.size + 1)))).alloc (.cells #[.int .i64 v.state, .string v.value, .bool v.gone] 107)).alloc (.map #[] 0)) S0.past.keysRow hrs (by omega)
  rw [hin] at hbsn
  have HST : Hid (StoreAt w R) := h
  have HX : Hid (look R.hist key = none) := by unfold Hid; rw [hh0]; rfl
  have HIN : Hid (memB R.keys key = false) := hin
  have HVM : Hid (R.vm = none) := hvm
  have HM : Hid (MapAt Value.string (((w.setCell ⟨R.sb, 8, none⟩ (.map (some (w.heap.size + 1)))).alloc (.cells #[.int .i64 v.state, .string v.value, .bool v.gone] 107)).alloc (.map #[] 0)) (w.heap.size + 1) (R.hist.map fun p => (p.1, p.2.sl))) := hM
  have HS0 : Hid (StoreAt (((w.setCell ⟨R.sb, 8, none⟩ (.map (some (w.heap.size + 1)))).alloc (.cells #[.int .i64 v.state, .string v.value, .bool v.gone] 107)).alloc (.map #[] 0)) { R with vm := some (w.heap.size + 1) }) := S0
  have HL : Hid (R.keys.length < 1000000000000) := hl
  have HINS : Hid (∀ w1, Keeps (fun _ => False) (((w.setCell ⟨R.sb, 8, none⟩ (.map (some (w.heap.size + 1)))).alloc (.cells #[.int .i64 v.state, .string v.value, .bool v.gone] 107)).alloc (.map #[] 0)) w1 → Calls Tryz.prog 143 #[R.kv, .int .i64 (below R.keys key), .slice (some ⟨w1.heap.size, 0, none⟩) 1 1] (w1.alloc (.cells #[.string key] 9)) fun e w' => ∃ g cap, e = .returned (.slice (some ⟨g, 0, none⟩) (R.keys.length + 1) cap) ∧ Row w' 9 1 (.slice (some ⟨g, 0, none⟩) (R.keys.length + 1) cap) (R.keys.length + 1) ((insAt R.keys (below R.keys key) key).map Value.string) ∧ Keeps (fun k => R.kv.ownBlock = some k) (w1.alloc (.cells #[.string key] 9)) w' ∧ (R.kv.ownBlock = some g ∨ (w1.alloc (.cells #[.string key] 9)).heap.size ≤ g)) := fun w1 hk1 =>
    insert_key R.kv R.keys (below R.keys key) key w1.heap.size _ ((S0.past.keysRow.kept hk1 (fun _ _ h => h)).kept (Keeps.alloc (fun _ => False) _ _) (fun _ _ h => h)) (below_le _ _) hl (heap_new w1 _) (fun e => by have := h.past.keysRow.lt e; have := hk1.size; simp at this; omega)
  have HKB : Hid (∀ g, R.kv.ownBlock = some g → g ≠ R.sb ∧ g < w.heap.size) := fun g hg => by
    have hn := ((fp_perm R key).nodup_iff).1 h.nodup
    rw [List.nodup_append] at hn
    have hd := hn.2.2
    exact ⟨fun e => hd g (by simp [hg]) g (List.mem_append_right _ (by simp [Rep.restOf, e])) rfl, h.past.keysRow.lt hg⟩
  obtain ⟨i0, hi, hz0', hz1, hz2⟩ := info_parts Tryz.infoVersion
  clear h hin hvm hM hl hrs hh0 S0
  go_enter Tryz.func111, Tryz.ntmps111
  go_wp2_with (first
    | (at_lookup; go_must (refine wpList_lookup_ok_at _ rfl _ _ 61 rfl 9 114 strKeyOk Tryz.underlying61 Tryz.underlying9 _ (Tryz.zeroVersions _) (w.heap.size + 1) rfl key rfl _ HM.out ?_; rw [HLK.out]; simp only [Option.getD_none, Option.isSome_none]))
    | (go_at_call 92; go_must (refine hbsn.mono ?_; rintro e w1 ⟨rfl, hk1⟩; have hKw1 : Keeps (· = R.sb) w w1 := HK0.out.tr hk1 (fun _ h => h.elim); have d5 : w1.cell? ⟨R.sb, 7, none⟩ = some R.kv := hk1.cell (p := ⟨R.sb, 7, none⟩) d5z (fun h => h); have dlt : R.sb < w1.heap.size := by (have := hKw1.size; omega)))
    | (go_at_call 143; go_must (refine (HINS.out w1 hk1).mono ?_; rintro e w2 ⟨g1, cap1, rfl, hr2, hk2, hat2⟩; have hKw2 : Keeps (fun k => R.kv.ownBlock = some k) (((w.setCell ⟨R.sb, 8, none⟩ (.map (some (w.heap.size + 1)))).alloc (.cells #[.int .i64 v.state, .string v.value, .bool v.gone] 107)).alloc (.map #[] 0)) w2 := ((hk1.mono (fun _ _ h => h.elim)).al _).tr hk2 (fun _ h => h); have f5 : w2.cell? ⟨R.sb, 7, none⟩ = some R.kv := hKw2.cell (p := ⟨R.sb, 7, none⟩) d5z (fun e => (HKB.out _ e).1 rfl); have f5f : w2.frozen? ⟨R.sb, 7, none⟩ = false := by (rw [hKw2.frozen (p := ⟨R.sb, 7, none⟩) (by simp; omega) (fun e => (HKB.out _ e).1 rfl)]; exact HS0.out.frozen 7))))
  have hz0 : (((w.setCell ⟨R.sb, 8, none⟩ (.map (some (w.heap.size + 1)))).alloc (.cells #[.int .i64 v.state, .string v.value, .bool v.gone] 107)).alloc (.map #[] 0)).heap.size = w.heap.size + 2 := by simp
  have hg1 : g1 ≠ R.sb ∧ g1 ≠ w.heap.size + 1 ∧ (R.kv.ownBlock = some g1 ∨ w.heap.size + 2 < g1) := by
    rcases hat2 with e | e
    · have := (HKB.out g1 e).2
      exact ⟨(HKB.out g1 e).1, by omega, .inl e⟩
    · have h1 := hk1.size
      rw [hz0] at h1
      simp at e
      exact ⟨by omega, by omega, .inr (by omega)⟩
  have hT2 : w2.heap[R.sb]? = some (.cells (topCells { R with vm := some (w.heap.size + 1) }) 65 (0, 0)) := (hKw2.block R.sb (by rw [hz0]; omega) (fun e => (HKB.out _ e).1 rfl)).trans HS0.out.top
  have hB2 : w2.heap[w.heap.size]? = some (.cells #[.int .i64 v.state, .string v.value, .bool v.gone] 107 (0, 0)) := by
    rw [hKw2.block w.heap.size (by rw [hz0]; omega) (fun e => by have := (HKB.out _ e).2; omega), Below.heap_alloc _ _ _ (by simp)]
    have := heap_new (w.setCell ⟨R.sb, 8, none⟩ (.map (some (w.heap.size + 1)))) (.cells #[.int .i64 v.state, .string v.value, .bool v.gone] 107)
    simpa using this
  have K3 : Keeps (fun k => R.kv.ownBlock = some k ∨ k = R.sb) (((w.setCell ⟨R.sb, 8, none⟩ (.map (some (w.heap.size + 1)))).alloc (.cells #[.int .i64 v.state, .string v.value, .bool v.gone] 107)).alloc (.map #[] 0)) (w2.setCell ⟨R.sb, 7, none⟩ (.slice (some ⟨g1, 0, none⟩) (R.keys.length + 1) cap1)) := (hKw2.mono (fun _ _ h => .inl h)).st (.inr (.inr rfl)) _
  have c1 : ∀ g, (Value.slice (some ⟨g1, 0, none⟩) (R.keys.length + 1) cap1).ownBlock = some g → R.kv.ownBlock = some g ∨ w.heap.size ≤ g := fun g hg => by
    have hg' : g1 = g := by simpa [Value.ownBlock] using hg
    subst hg'
    rcases hg1.2.2 with e | e
    · exact .inl e
    · right; omega
  have S3 := HS0.out.keysSet (kv' := .slice (some ⟨g1, 0, none⟩) (R.keys.length + 1) cap1) (keys' := insAt R.keys (below R.keys key) key) K3 (fun k _ hs => hs.elim (fun e => .inr e) (fun e => .inl e)) ((heap_setCell_same (i := 7) hT2 _).trans (by simp [topCells])) (by
    have hr3 := hr2.kept (Keeps.setCell w2 ⟨R.sb, 7, none⟩ (.slice (some ⟨g1, 0, none⟩) (R.keys.length + 1) cap1)) (fun g hg => by
      have hg' : g1 = g := by simpa [Value.ownBlock] using hg
      exact fun e => hg1.1 (hg'.trans e))
    rw [insAt_length _ _ _ (below_le _ _)]
    exact hr3) (fun g hg => by
      have hg' : g1 = g := by simpa [Value.ownBlock] using hg
      subst hg'
      rcases hg1.2.2 with e | e
      · exact .inl e
      · right; rw [hz0]; omega)
  have B3 : (w2.setCell ⟨R.sb, 7, none⟩ (.slice (some ⟨g1, 0, none⟩) (R.keys.length + 1) cap1)).heap[w.heap.size]? = some (.cells #[.int .i64 v.state, .string v.value, .bool v.gone] 107 (0, 0)) := (Below.heap_setCell _ _ _ _ (by simp only; omega)).trans hB2
  have z3 : w.heap.size + 3 ≤ (w2.setCell ⟨R.sb, 7, none⟩ (.slice (some ⟨g1, 0, none⟩) (R.keys.length + 1) cap1)).heap.size := by
    have h1 := hk1.size
    have h2 := hk2.size
    rw [hz0] at h1
    simp at h2
    simp
    omega
  have G3 : ∀ g, (Value.slice (some ⟨g1, 0, none⟩) (R.keys.length + 1) cap1).ownBlock = some g → g < (w2.setCell ⟨R.sb, 7, none⟩ (.slice (some ⟨g1, 0, none⟩) (R.keys.length + 1) cap1)).heap.size := fun g hg => S3.past.keysRow.lt hg
  clear hT2 hB2 hk1 hKw1 hKw2 hk2 hr2 d5 dlt f5 f5f hbsn d5z
  generalize w2.setCell ⟨R.sb, 7, none⟩ (.slice (some ⟨g1, 0, none⟩) (R.keys.length + 1) cap1) = W3 at K3 S3 B3 z3 G3
  have p0 : W3.cell? ⟨w.heap.size, 0, none⟩ = some (.int .i64 v.state) := cell_of_heap B3 0
  have p1 : W3.cell? ⟨w.heap.size, 1, none⟩ = some (.string v.value) := cell_of_heap B3 1
  have p2 : W3.cell? ⟨w.heap.size, 2, none⟩ = some (.bool v.gone) := cell_of_heap B3 2
  have p6 : W3.cell? ⟨R.sb, 8, none⟩ = some (.map (some (w.heap.size + 1))) := S3.cell 8
  have plt : R.sb < W3.heap.size := S3.lt
  have HS3 : Hid (StoreAt W3 { R with kv := (.slice (some ⟨g1, 0, none⟩) (R.keys.length + 1) cap1), keys := insAt R.keys (below R.keys key) key, vm := some (w.heap.size + 1) }) := S3
  have HK3 : Hid (Keeps (fun k => R.kv.ownBlock = some k ∨ k = R.sb) (((w.setCell ⟨R.sb, 8, none⟩ (.map (some (w.heap.size + 1)))).alloc (.cells #[.int .i64 v.state, .string v.value, .bool v.gone] 107)).alloc (.map #[] 0)) W3) := K3
  have HM3 : Hid (MapAt Value.string W3 (w.heap.size + 1) (R.hist.map fun p => (p.1, p.2.sl))) := S3.past.histMap
  have HSB : Hid (R.sb ≠ w.heap.size + 1) := by unfold Hid; omega
  clear S3 K3 B3 c5 c6 c6f
  go_region_held3 (fun W => W.cell? ⟨R.sb, 8, none⟩ = some (.map (some (w.heap.size + 1))) ∧ W.cell? ⟨w.heap.size, 0, none⟩ = some (.int .i64 v.state) ∧ W.cell? ⟨w.heap.size, 1, none⟩ = some (.string v.value) ∧ W.cell? ⟨w.heap.size, 2, none⟩ = some (.bool v.gone)) (go_keep)
    ((refine step_append_row _ (by rfl) _ _ 114 (by rfl) 107 i0 _ 3 32 Tryz.underlying114 hi hz0' hz1 hz2 (by rfl) (.slice none 0 0) 0 [] (by rfl) (Row.nil _ _ _) ⟨W3.heap.size, 0, none⟩ 1 1 v.cells (by rfl) (by rfl) (add_news0 W3 v) (by simp [Ver.cells, Value.oneCell']) (by unfold maxLen; omega) (by omega) ?_; intro v' w5 hown' hgrow _ hat; obtain ⟨g', cap', rfl, hrow'⟩ := hown'.one; have hk5 : Keeps (fun _ => False) W3 w5 := (((Keeps.refl (fun _ => False) W3).al _).dr).tr (Keeps.grown hgrow) (fun _ h => by simp [Value.ownBlock] at h); obtain ⟨r0, r1, r2, r3⟩ := keep4c hk5 (fun h => h) (fun h => h) p6 p0 p1 p2; obtain ⟨ob, hrun, hM1⟩ := (HM3.out.kept hk5 (fun h => h)).update (P := Tryz.prog) (t := 61) strKeyOk Tryz.underlying61 Tryz.underlying9 key (.slice (some ⟨g', 0, none⟩) 1 cap'); obtain ⟨t0, t1, t2, t3⟩ := keep4b (Keeps.setBlock w5 (w.heap.size + 1) ob) HSB.out (by omega) r0 r1 r2 r3))
  go_end0
  have hg' : g' = W3.heap.size + 1 := by
    rcases hat with h | h
    · simp [Value.ownBlock] at h
    · simpa [Value.ownBlock] using h
  have hvs : versOf R.hist key = [] := by unfold versOf; rw [HX.out]; rfl
  have hkk : Keeps (fun k => k = w.heap.size + 1) W3 (Go.ChangeMaps.setBlock w5 (w.heap.size + 1) ob) := (hk5.mono (fun _ _ h => h.elim)).tr (Keeps.setBlock w5 (w.heap.size + 1) ob) (fun _ h => h)
  refine ⟨rfl, (.slice (some ⟨g1, 0, none⟩) (R.keys.length + 1) cap1), w.heap.size + 1, .slice (some ⟨g', 0, none⟩) 1 cap', ?_, ?_, c1, fun g hg => ?_, .inr ⟨HVM.out, by omega⟩⟩
  · rw [if_neg (by rw [HIN.out]; simp), hvs, List.nil_append]
    refine HS3.out.added key hkk (fun k _ hs => .inr (.inr (.inl (by rw [hs])))) ?_ ?_ hM1 ?_ (fun g hg => .inl hg) (fun g hg => ?_) (.inl rfl) ?_
    · exact (hkk.block R.sb plt HSB.out).trans HS3.out.top
    · refine HS3.out.past.keysRow.kept hkk (fun g hg e => ?_)
      have hg2 : g1 = g := by simpa [Value.ownBlock] using hg
      exact hg1.2.1 (hg2.trans e)
    · have := hrow'.kept (Keeps.setBlock w5 (w.heap.size + 1) ob) (fun g hg e => by
        have hg2 : g' = g := by simpa [Value.ownBlock] using hg
        have e' : g = w.heap.size + 1 := e
        omega)
      simpa using this
    · have hg2 : g' = g := by simpa [Value.ownBlock] using hg
      right; omega
    · have h1 : g1 ≠ g' := by have := G3 g1 rfl; omega
      have h2 : g' ≠ w.heap.size + 1 := by omega
      simp [Value.ownBlock, h1, h2, hg1.2.1]
  · have h1 : Keeps (· ∈ R.fp) w (((w.setCell ⟨R.sb, 8, none⟩ (.map (some (w.heap.size + 1)))).alloc (.cells #[.int .i64 v.state, .string v.value, .bool v.gone] 107)).alloc (.map #[] 0)) := HK0.out.mono (fun k _ h => by have h' : k = R.sb := h; simp [Rep.fp, h'])
    have h2 : Keeps (· ∈ R.fp) w W3 := h1.trans HK3.out (fun k hk h => by
      rcases h with h | rfl
      · simp only [Rep.fp, Rep.fpPast, List.mem_cons, List.mem_append]
        exact .inr (.inr (.inl (.inl (by simp [h]))))
      · simp [Rep.fp])
    exact h2.trans hkk (fun k hk h => by have h' : k = w.heap.size + 1 := h; omega)
  · have hg2 : g' = g := by simpa [Value.ownBlock] using hg
    right; omega

end Go.Proofs.YtpagenipflmlfaaGreatDoor
