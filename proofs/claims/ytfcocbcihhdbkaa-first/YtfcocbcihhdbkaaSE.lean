/- Add. -/
import Derived.Test.YtfcocbcihhdbkaaSD
import Derived.Deep.RegionHeld3
namespace Go.Proofs.Ytfcocbcihhdbkaa
open Go.RowKit

/-- append onto a slice at the head of its block, as one step of a region that draws. -/
theorem step_append_row {P : Program} (w : World) {ops : Array Oper} {o : Oper} {a : Act} {K : Act → World → Prop} {Q : Exit → Act → World → Prop} {E : Prop} (hgd : o.guard = none) (s x : Operand) (t : TypeId)
    (ho : o.op = .call { callee := .builtin .append, args := #[s, x], argTypes := #[t, t] })
    (e : TypeId) (i : TypeInfo) (z : Value) (size bytes : Nat) (ht : P.underlying t = some (.slice e)) (hi : P.info? e = some i) (hz : i.zero = some z)
    (hsize : i.size = size) (hby : i.bytes = bytes) (hzs : z.cells.size = size)
    (v : Value) (n : Nat) (xs : List Value) (hs : a.eval s = v) (hown : Row w e size v n xs)
    (ad : Addr) (m c : Nat) (news : List Value) (hx : a.eval x = .slice (some ad) m c) (hl : news.length = m * size) (hnews : ∀ j u, news[j]? = some u → w.cell? (ad.add j) = some u) (h1 : ∀ u ∈ news, u.oneCell' = true)
    (h63 : n + m ≤ maxLen) (hbytes : (n + m) * bytes ≤ 140737488355328)
    (h : ∀ v' w', Row w' e size v' (n + m) (xs ++ news) → w.grownBy w' v.ownBlock → (v' = .slice none 0 0 ↔ v = .slice none 0 0 ∧ m = 0) → (v'.ownBlock = v.ownBlock ∨ v'.ownBlock = some w.heap.size) → K (a.put o.dst v') w') :
    if Region.wanted o (yielded ops a.tmps) = true then Oper.wp P o a w K Q else E := by
  have hw : Region.wanted o (yielded ops a.tmps) = true := by simp [Region.wanted, hgd]
  rw [if_pos hw]
  obtain ⟨v', w', hr, h2, h3, h4, h5⟩ := run_append_row (P := P) w t o.type e i z size bytes ht hi hz hsize hby hzs v n xs hown ad m c news hl hnews h1 h63 hbytes
  unfold Oper.wp execOp
  simp only [ho, resolve, invoke, builtin, Sem.run_bind, Sem.run_pure, Result.andThen_ok, List.map_toArray, List.map_cons, List.map_nil, hs, hx, hr]
  exact h v' w' h2 h3 h4 h5

theorem Try.infoVersion : (Try.prog.info? 79).map (fun i => (i.zero, i.size, i.bytes)) = some (some (.agg #[.int .i64 0, .string ⟨#[]⟩, .bool false]), 3, 32) := by kernel_rfl
theorem eqVm_some (b : Nat) (w : World) : (binOp BinOp.eql 62 (.map (some b)) (.map none)).run Try.prog w = .ok (.bool false) w := by kernel_rfl
theorem eqVm_none (w : World) : (binOp BinOp.eql 62 (.map none) (.map none)).run Try.prog w = .ok (.bool true) w := by kernel_rfl

/-- What Add leaves. -/
def AddPost (R : Rep) (key : ByteArray) (v : Ver) (w w' : World) : Prop :=
  ∃ kv' b sl', StoreAt w' { R with kv := kv', keys := (if memB R.keys key then R.keys else insAt R.keys (below R.keys key) key), vm := some b, hist := put R.hist key ⟨sl', versOf R.hist key ++ [v]⟩ } ∧ Keeps (· ∈ R.fp) w w' ∧
    (∀ g, kv'.ownBlock = some g → R.kv.ownBlock = some g ∨ w.heap.size ≤ g) ∧ (∀ g, sl'.ownBlock = some g → (slOf R.hist key).ownBlock = some g ∨ w.heap.size ≤ g) ∧ (R.vm = some b ∨ R.vm = none ∧ w.heap.size ≤ b)

theorem add_news (w : World) (o : Obj) (v : Ver) : ∀ j u, v.cells[j]? = some u → (((w.alloc o).alloc (.cells #[.int .i64 v.state, .string v.value, .bool v.gone] 79)).drew).cell? ((⟨w.heap.size + 1, 0, none⟩ : Addr).add j) = some u := by
  intro j u hj
  rw [Addr.add_lit, Nat.zero_add]
  have hh : (((w.alloc o).alloc (.cells #[.int .i64 v.state, .string v.value, .bool v.gone] 79)).drew).heap[w.heap.size + 1]? = some (.cells #[.int .i64 v.state, .string v.value, .bool v.gone] 79 (0, 0)) := by
    have := heap_new (w.alloc o) (.cells #[.int .i64 v.state, .string v.value, .bool v.gone] 79)
    simpa [World.drew] using this
  rw [cell_of_heap hh]
  simpa [Ver.cells] using hj

theorem keep4b {W W' : World} {b c s : Nat} {u v x y : Value} (hk : Keeps (· = b) W W') (hs : s ≠ b) (hc : c ≠ b) (h1 : W.cell? ⟨s, 8, none⟩ = some u) (h2 : W.cell? ⟨c, 0, none⟩ = some v) (h3 : W.cell? ⟨c, 1, none⟩ = some x) (h4 : W.cell? ⟨c, 2, none⟩ = some y) :
    W'.cell? ⟨s, 8, none⟩ = some u ∧ W'.cell? ⟨c, 0, none⟩ = some v ∧ W'.cell? ⟨c, 1, none⟩ = some x ∧ W'.cell? ⟨c, 2, none⟩ = some y :=
  ⟨hk.cell (p := ⟨s, 8, none⟩) h1 hs, hk.cell (p := ⟨c, 0, none⟩) h2 hc, hk.cell (p := ⟨c, 1, none⟩) h3 hc, hk.cell (p := ⟨c, 2, none⟩) h4 hc⟩

theorem add_grown {R : Rep} {w w1 : World} {v : Ver} {o2 : Obj} {sl : Value} {b : Nat} {l : List (ByteArray × Value)} {u : Value} (h : StoreAt w R) (hbs : ∀ g, sl.ownBlock = some g → g ≠ R.sb ∧ g ≠ b ∧ g < w.heap.size) (hM : MapAt Value.string w b l) (c6 : w.cell? ⟨R.sb, 8, none⟩ = some u)
    (hg : (((w.alloc (.cells #[.int .i64 v.state, .string v.value, .bool v.gone] 79)).alloc o2).drew).grownBy w1 sl.ownBlock) :
    Keeps (fun k => sl.ownBlock = some k) w w1 ∧ MapAt Value.string w1 b l ∧ w1.cell? ⟨R.sb, 8, none⟩ = some u ∧ w1.cell? ⟨w.heap.size, 0, none⟩ = some (.int .i64 v.state) ∧ w1.cell? ⟨w.heap.size, 1, none⟩ = some (.string v.value) ∧ w1.cell? ⟨w.heap.size, 2, none⟩ = some (.bool v.gone) := by
  have hk0 := Keeps.grown hg
  have hk : Keeps (fun k => sl.ownBlock = some k) w w1 := ((((Keeps.refl _ w).al _).al _).dr).tr hk0 (fun _ h => h.symm)
  have hlt := h.lt
  have hb : w1.heap[w.heap.size]? = some (.cells #[.int .i64 v.state, .string v.value, .bool v.gone] 79 (0, 0)) := by
    rw [hk0.block w.heap.size (by simp; omega) (fun e => by have := (hbs _ e.symm).2.2; omega)]
    have := heap_new w (.cells #[.int .i64 v.state, .string v.value, .bool v.gone] 79)
    exact (Below.heap_alloc _ _ _ (by simp)).trans this
  exact ⟨hk, hM.kept hk (fun e => (hbs b e).2.1 rfl), hk.cell (p := ⟨R.sb, 8, none⟩) c6 (fun e => (hbs _ e).1 rfl), cell_of_heap hb 0, cell_of_heap hb 1, cell_of_heap hb 2⟩

set_option maxRecDepth 100000 in
set_option maxHeartbeats 1000000 in
/-- a key that has versions -/
theorem add_known (R : Rep) (key : ByteArray) (v : Ver) (x : HsR) (w : World) (h : StoreAt w R) (hx : look R.hist key = some x) (hin : memB R.keys key = true) (hl : x.vers.length < 1000000000000) :
    Calls Try.prog 69 #[.pointer (some ⟨R.sb, 7, none⟩), .string key, .agg #[.int .i64 v.state, .string v.value, .bool v.gone]] w fun e w' => e = .returned (.tuple #[]) ∧ AddPost R key v w w' := by
  obtain ⟨b, hvm⟩ : ∃ b, R.vm = some b := by
    cases hv : R.vm with
    | some b => exact ⟨b, rfl⟩
    | none =>
      have := h.past.histMap
      rw [hv] at this
      have e : R.hist = [] := List.map_eq_nil_iff.1 this
      rw [e] at hx
      cases hx
  have hM : MapAt Value.string w b (R.hist.map fun p => (p.1, p.2.sl)) := by have := h.past.histMap; rw [hvm] at this; exact this
  have c6 : w.cell? ⟨R.sb, 8, none⟩ = some (.map (some b)) := (h.cell 8).trans (by rw [← hvm]; rfl)
  have hlt := h.lt
  have hlt1 : R.sb < w.heap.size + 1 := by omega
  have hR := h.past.histEach _ (look_mem hx)
  have hlk : look (R.hist.map fun p => (p.1, p.2.sl)) key = some x.sl := by rw [look_map, hx]; rfl
  have hem := eqVm_some
  have hnot : ∀ (x : Bool) (w : World), (Op.unary .not (.bool x)).run Try.prog w = .ok (.bool (!x)) w := fun _ _ => rfl
  have HLK : Hid (look (R.hist.map fun p => (p.1, p.2.sl)) key = some x.sl) := hlk
  have HST : Hid (StoreAt w R) := h
  have HX : Hid (look R.hist key = some x) := hx
  have HIN : Hid (memB R.keys key = true) := hin
  have HVM : Hid (R.vm = some b) := hvm
  have HM : Hid (MapAt Value.string w b (R.hist.map fun p => (p.1, p.2.sl))) := hM
  have HR : Hid (Row w 79 3 x.sl x.vers.length (x.vers.flatMap Ver.cells)) := hR
  have HL : Hid (x.vers.length < 1000000000000) := hl
  obtain ⟨i0, hi, hz0, hz1, hz2⟩ := info_parts Try.infoVersion
  clear hlk h hx hin hvm hM hR hl
  go_enter Try.func69, Try.ntmps69
  go_wp2_with (at_lookup; go_must (refine wpList_lookup_ok_at _ rfl _ _ 62 rfl 9 99 strKeyOk Try.underlying62 Try.underlying9 _ (Try.zeroVersions _) b rfl key rfl _ (HM.out.kept (Keeps.alloc (fun _ => False) _ _) (fun h => h)) ?_; rw [HLK.out]; simp only [Option.getD_some, Option.isSome_some]))
  have HBS : Hid (∀ g, x.sl.ownBlock = some g → g ≠ R.sb ∧ g ≠ b ∧ g < w.heap.size) := fun g hg => by
    have hn := ((fp_perm R key).nodup_iff).1 HST.out.nodup
    rw [List.nodup_append, List.nodup_append] at hn
    have hsl : slOf R.hist key = x.sl := by unfold slOf; rw [HX.out]; rfl
    have hd2 := hn.2.1.2.2
    rw [hsl] at hd2
    refine ⟨fun e => hd2 g (by simp [hg]) g (by simp [Rep.restOf, e]) rfl, fun e => hd2 g (by simp [hg]) g (by simp [Rep.restOf, HVM.out, e]) rfl, HR.out.lt hg⟩
  have HSB : Hid (R.sb ≠ b) := by
    have hn := HST.out.nodup
    simp only [Rep.fp, Rep.fpPast, List.nodup_cons, List.mem_append, not_or] at hn
    exact fun e => hn.1.2.1.2 (by simp [HVM.out, e])
  have hbl : b < w.heap.size := HM.out.lt
  go_region_held3 (fun W => W.cell? ⟨R.sb, 8, none⟩ = some (.map (some b)) ∧ W.cell? ⟨w.heap.size, 0, none⟩ = some (.int .i64 v.state) ∧ W.cell? ⟨w.heap.size, 1, none⟩ = some (.string v.value) ∧ W.cell? ⟨w.heap.size, 2, none⟩ = some (.bool v.gone)) (go_keep)
    ((refine step_append_row _ (by rfl) _ _ 99 (by rfl) 79 i0 _ 3 32 Try.underlying99 hi hz0 hz1 hz2 (by rfl) x.sl x.vers.length _ (by rfl) (HR.out.kept (((Keeps.refl (fun _ => False) w).al _).al _).dr (fun _ _ h => h)) ⟨w.heap.size + 1, 0, none⟩ 1 1 v.cells (by rfl) (by rfl) (add_news w _ v) (by simp [Ver.cells, Value.oneCell']) (by have := HL.out; unfold maxLen; omega) (by have := HL.out; omega) ?_; intro v' w1 hown' hgrow _ hat; obtain ⟨g', cap', rfl⟩ := hown'.succ; obtain ⟨hkw, hmw, r0, r1, r2, r3⟩ := add_grown HST.out HBS.out HM.out c6 hgrow; obtain ⟨ob, hrun, hM1⟩ := hmw.update (P := Try.prog) (t := 62) strKeyOk Try.underlying62 Try.underlying9 key (.slice (some ⟨g', 0, none⟩) (x.vers.length + 1) cap'); obtain ⟨t0, t1, t2, t3⟩ := keep4b (Keeps.setBlock w1 b ob) HSB.out (by omega) r0 r1 r2 r3))
  go_end0
  have hvs : versOf R.hist key = x.vers := by unfold versOf; rw [HX.out]; rfl
  have hsl : slOf R.hist key = x.sl := by unfold slOf; rw [HX.out]; rfl
  have hkk : Keeps (fun k => x.sl.ownBlock = some k ∨ k = b) w (Go.ChangeMaps.setBlock w1 b ob) := (hkw.mono (fun _ _ h => .inl h)).tr (Keeps.setBlock w1 b ob) (fun _ h => .inr h)
  have hgb : g' ≠ b := by
    rcases hat with h | h
    · exact (HBS.out g' (by rw [← h]; rfl)).2.1
    · have h' : g' = w.heap.size + 1 + 1 := by simpa [Value.ownBlock] using h
      omega
  have hkvn : ∀ g, R.kv.ownBlock = some g → g ≠ b ∧ x.sl.ownBlock ≠ some g ∧ g < w.heap.size := fun g hg => by
    have hn := ((fp_perm R key).nodup_iff).1 HST.out.nodup
    rw [List.nodup_append] at hn
    have hd1 := hn.2.2
    rw [hsl] at hd1
    refine ⟨fun e => hd1 g (by simp [hg]) g (List.mem_append_right _ (by simp [Rep.restOf, HVM.out, e])) rfl, fun e => hd1 g (by simp [hg]) g (List.mem_append_left _ (by simp [e])) rfl, HST.out.past.keysRow.lt hg⟩
  have c2 : ∀ g, (Value.slice (some ⟨g', 0, none⟩) (x.vers.length + 1) cap').ownBlock = some g → (slOf R.hist key).ownBlock = some g ∨ w.heap.size ≤ g := fun g hg => by
    rw [hsl]
    rcases hat with h | h
    · exact .inl (by rw [← h]; exact hg)
    · have h' : g' = w.heap.size + 1 + 1 := by simpa [Value.ownBlock] using h
      have hg' : g' = g := by simpa [Value.ownBlock] using hg
      right; omega
  refine ⟨rfl, R.kv, b, .slice (some ⟨g', 0, none⟩) (x.vers.length + 1) cap', ?_, ?_, fun g hg => .inl hg, c2, .inl HVM.out⟩
  · rw [if_pos HIN.out, hvs]
    refine HST.out.added key hkk (fun k _ hs => ?_) ?_ ?_ hM1 ?_ (fun g hg => .inl hg) c2 (.inl HVM.out) ?_
    · rcases hs with hs | hs
      · exact .inr (.inr (.inr (by rw [hsl]; exact hs)))
      · exact .inr (.inr (.inl (by rw [HVM.out, hs])))
    · have e : topCells { R with kv := R.kv, vm := some b } = topCells R := by simp [topCells, HVM.out]
      rw [e]
      exact (hkk.block R.sb HST.out.lt (by rintro (h | h); exact (HBS.out _ h).1 rfl; exact HSB.out h)).trans HST.out.top
    · exact HST.out.past.keysRow.kept hkk (fun g hg => by rintro (h | h); exact (hkvn g hg).2.1 h; exact (hkvn g hg).1 h)
    · have := hown'.kept (Keeps.setBlock w1 b ob) (fun g hg => by
        have hg' : g' = g := by simpa [Value.ownBlock] using hg
        exact hg' ▸ hgb)
      simpa [Ver.cells] using this
    · cases hkb : R.kv.ownBlock with
      | none => simp [Value.ownBlock, hgb]
      | some g =>
        have h1 := hkvn g hkb
        have h2 : g ≠ g' := by
          rcases hat with h | h
          · exact fun e => h1.2.1 (by rw [← h, e]; rfl)
          · have h' : g' = w.heap.size + 1 + 1 := by simpa [Value.ownBlock] using h
            omega
        simp [Value.ownBlock, hgb, h1.1, h2]
  · refine hkk.mono (fun k hk h => ?_)
    rw [(fp_perm R key).mem_iff, hsl]
    rcases h with h | rfl
    · exact List.mem_append_right _ (List.mem_append_left _ (by simp [h]))
    · exact List.mem_append_right _ (List.mem_append_right _ (by simp [Rep.restOf, HVM.out]))

end Go.Proofs.Ytfcocbcihhdbkaa
