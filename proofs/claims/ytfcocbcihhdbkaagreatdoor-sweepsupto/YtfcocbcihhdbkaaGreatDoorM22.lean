import Derived.Test.YtfcocbcihhdbkaaGreatDoorM21

/- The document's store: Abort, puts. -/
namespace Go.Proofs.YtfcocbcihhdbkaaGreatDoor
open Go.RowKit Go.Shelf

theorem abortR_none (R : RRep) (id : Int) (w : World) (h : RefAt w R) (hl : R.works.length < 100000000000) (hf : findL R.works id = none) :
    Calls Tryz.prog 129 #[.pointer (some ⟨R.b, 0, none⟩), .int .i64 id] w fun e w' => e = .returned (.int .i64 1) ∧ w' = w := by
  have hc := findR_any R id w h (by omega)
  rw [hf] at hc
  have HC := hid hc
  clear hc h hf
  go_enter Tryz.func129, Tryz.ntmps129
  go_wp2_with (go_at_call 184; go_must (refine (HC.out).mono ?_; rintro e w1 ⟨rfl, rfl⟩; simp only [idxZ]))
  go_ret
  exact ⟨rfl, rfl⟩

theorem abortR_some (R : RRep) (id : Int) (k : Nat) (w : World) (h : RefAt w R) (hl : R.works.length < 100000000000) (hf : findL R.works id = some k) :
    Calls Tryz.prog 129 #[.pointer (some ⟨R.b, 0, none⟩), .int .i64 id] w fun e w' => e = .returned (.int .i64 0) ∧ ∃ v, RAfter R { R with vw := v, works := R.works.eraseIdx k } w w' := by
  have hc := findR_any R id w h (by omega)
  rw [hf] at hc
  have HC := hid hc
  obtain ⟨x, hx, -⟩ := findL_some hf
  have hk := (List.getElem?_eq_some_iff.1 hx).1
  have HO := hid (over_any R k w h hl hk)
  have hnn : ¬ ((k : Int) < 0) := by omega
  clear hc h hf
  go_enter Tryz.func129, Tryz.ntmps129
  go_wp2_with (first | (go_at_call 184; go_must (refine (HC.out).mono ?_; rintro e w1 ⟨rfl, rfl⟩; simp only [idxZ])) | (go_at_call 187; go_must (refine (HO.out).mono ?_; rintro e w2 ⟨rfl, hv⟩)))
  go_ret
  exact ⟨rfl, hv⟩

/-! ### puts -/
theorem Tryz.infoRVer : (Tryz.prog.info? 152).map (fun i => (i.zero, i.size, i.bytes)) = some (some (.agg #[.int .i64 0, .string ⟨#[]⟩, .string ⟨#[]⟩, .bool false, .bool false]), 5, 56) := by kernel_rfl

theorem RefAt.putAll {w W : World} {R : RRep} {v : Value} {l : List RVer} (h : RefAt w R) (hk : Keeps (fun k => k = R.b ∨ R.va.ownBlock = some k) w W)
    (ht : W.heap[R.b]? = some (.cells (RRep.top { R with va := v, all := l }) 79 (0, 0)))
    (hr : Row W 152 5 v l.length (l.flatMap RVer.cells)) (hown : ∀ g, v.ownBlock = some g → R.va.ownBlock = some g ∨ w.heap.size ≤ g) :
    RCh 152 R { R with va := v, all := l } w W := by
  have hkc : Keeps (fun k => k = R.b ∨ (k ∈ R.fp ∧ TypeIs w k 152)) w W := hk.mono (fun k _ hc => by
    rcases hc with rfl | hc
    · exact .inl rfl
    · exact .inr ⟨R.mem_va hc, h.all.typeIs hc⟩)
  obtain ⟨r1, r2, r3, r4, r5, r6⟩ := h.rows 152 (hkc.mono (fun k _ hc => hc.imp id And.right))
  refine ⟨⟨ht, hr, r2 (by decide), r3 (by decide), r4 (by decide), r5 (by decide), r6 (by decide)⟩, rfl, hkc, fun k hk' => ?_⟩
  simp only [RRep.fp, List.mem_cons, List.mem_append, List.mem_flatMap, Option.mem_toList] at hk' ⊢
  rcases hk' with h1 | ((((h1 | h1) | h1) | h1) | h1) | h1
  · exact .inl (.inl h1)
  · rcases hown k h1 with h2 | h2
    · exact .inl (.inr (.inl (.inl (.inl (.inl (.inl h2))))))
    · exact .inr h2
  · exact .inl (.inr (.inl (.inl (.inl (.inl (.inr h1))))))
  · exact .inl (.inr (.inl (.inl (.inl (.inr h1)))))
  · exact .inl (.inr (.inl (.inl (.inr h1))))
  · exact .inl (.inr (.inl (.inr h1)))
  · exact .inl (.inr (.inr h1))

/-- records become a state's -/
def putsL (l : List RecB) (s : Int) : List RVer := l.map fun r => ⟨s, r, false⟩
def RRep.plus (R : RRep) (v : Value) (l : List RVer) : RRep := { R with va := v, all := R.all ++ l }

/-- one more: the world behind the append and the store -/
theorem RefAt.push_all {w w2 : World} {R : RRep} {oa : Option Addr} {ca g cap : Nat} {x : RVer} {W : World} (h : RefAt w R) (hv : R.va = .slice oa R.all.length ca) (hW : Keeps (fun _ => False) w W)
    (hr : Row w2 152 5 (.slice (some ⟨g, 0, none⟩) (R.all.length + 1) cap) (R.all.length + 1) (R.all.flatMap RVer.cells ++ x.cells)) (hg : W.grownBy w2 (Value.slice oa R.all.length ca).ownBlock)
    (ho : (Value.slice (some ⟨g, 0, none⟩) (R.all.length + 1) cap).ownBlock = (Value.slice oa R.all.length ca).ownBlock ∨ (Value.slice (some ⟨g, 0, none⟩) (R.all.length + 1) cap).ownBlock = some W.heap.size) :
    w2.heap[R.b]? = some (.cells R.top 79 (0, 0)) ∧ RCh 152 R (R.plus (.slice (some ⟨g, 0, none⟩) (R.all.length + 1) cap) [x]) w (w2.setCell ⟨R.b, 0, none⟩ (.slice (some ⟨g, 0, none⟩) (R.all.length + 1) cap)) := by
  have hst : TypeIs w R.b 79 := ⟨_, h.top⟩
  have hb2 : w2.heap[R.b]? = some (.cells R.top 79 (0, 0)) := by
    rw [(Keeps.grown hg).block R.b (Nat.lt_of_lt_of_le h.blt hW.size) (fun e => hst.ne (e' := 152) (by decide) (h.all.typeIs (by rw [hv]; exact e.symm))), hW.block _ h.blt (fun h => h)]
    exact h.top
  refine ⟨hb2, RefAt.putAll h ?_ ?_ ?_ ?_⟩
  · exact (((hW.mono (T := fun k => k = R.b ∨ R.va.ownBlock = some k) (fun _ _ h => h.elim)).tr (Keeps.grown hg) (fun k h => .inr (by rw [hv]; exact h.symm))).tr (Keeps.setCell _ _ _) (fun k h => .inl h))
  · rw [heap_setCell_same hb2]
    rfl
  · have hr' := hr.kept (Keeps.setCell w2 ⟨R.b, 0, none⟩ (.slice (some ⟨g, 0, none⟩) (R.all.length + 1) cap)) (fun k hk e => (hr.typeIs hk).ne (e' := 79) (by decide) ⟨_, (show k = R.b from e) ▸ hb2⟩)
    simpa using hr'
  · intro k hk
    rcases ho with e | e
    · left; rw [hv, ← e]; exact hk
    · right
      rw [hk] at e
      have e' : k = W.heap.size := by simpa using e
      have := hW.size
      omega

set_option maxRecDepth 100000 in
set_option maxHeartbeats 4000000 in
theorem puts_any (R : RRep) (v : Value) (l : List RecB) (s : Int) (w : World) (h : RefAt w R) (hv : RecsAt w v l) (hl : R.all.length + l.length < 1000000000000) :
    Calls Tryz.prog 189 #[.pointer (some ⟨R.b, 0, none⟩), v, .int .i64 s] w fun e w' => e = .returned (.tuple #[]) ∧ ∃ v', RCh 152 R (R.plus v' (putsL l s)) w w' := by
  obtain ⟨oa, ca, rfl, hm, sa⟩ := Row.form hv
  obtain ⟨i0, hi, hz0, hz1, hz2⟩ := info_parts Tryz.infoRVer
  have HR := hid hv
  have SA := hid sa
  have HL := hid hl
  have HH := hid h
  have hlb : (l.length : Int) < 1000000000000 := by omega
  unfold maxLen at hm
  clear hv sa h hl
  go_enter Tryz.func189, Tryz.ntmps189
  go_wp2_with fail
  go_loopw [6] (fun i wr => ∃ (j : Nat) (v' : Value), j ≤ l.length ∧ i = .int .i64 j ∧ RCh 152 R (R.plus v' (putsL (l.take j) s)) w wr) (fun i _ => l.length - (intOf i).toNat)
  case atStart => exact ⟨0, R.va, Nat.zero_le _, rfl, by have := HH.out.ch (e := 152) (Keeps.refl _ w); simpa [RRep.plus, putsL] using this⟩
  case round =>
    obtain ⟨j, v', hj, rfl, hC⟩ := hrel
    have HC := hid hC
    clear hC
    by_cases hlt : j < l.length
    · obtain ⟨g, rfl⟩ := SA.out (by omega)
      obtain ⟨x, hx⟩ : ∃ x, l[j]? = some x := ⟨l[j], List.getElem?_eq_getElem hlt⟩
      have hrk : RecsAt wr (.slice (some ⟨g, 0, none⟩) l.length ca) l := HR.out.kept HC.out.2.2.1 (fun k hk hc => by
        have ht := Row.typeIs HR.out hk
        rcases hc with rfl | hc
        · exact ht.ne (e' := 79) (by decide) ⟨_, HH.out.top⟩
        · exact ht.ne (by decide) hc.2)
      obtain ⟨e0, e1, e2⟩ := rec_at hrk (Keeps.refl _ _) hx
      have HTE : Hid (putsL (l.take (j + 1)) s = putsL (l.take j) s ++ [⟨s, x, false⟩]) := by show _ = _; rw [take_next hx]; simp [putsL]
      obtain ⟨R1, hR1⟩ : ∃ R1, R1 = R.plus v' (putsL (l.take j) s) := ⟨_, rfl⟩
      have HP : Hid (∀ v2, R1.plus v2 [⟨s, x, false⟩] = R.plus v2 (putsL (l.take (j + 1)) s)) := by
        intro v2; rw [HTE.out, hR1]; simp [RRep.plus]
      have HL1 : Hid (R1.all.length < 1000000000000) := by
        show _ < _
        have := HL.out
        have h2 := List.length_take_le j l
        rw [hR1]
        simp only [RRep.plus, putsL, List.length_append, List.length_map]
        omega
      rw [← hR1] at HC
      have hb1 : R1.b = R.b := by rw [hR1]; rfl
      clear hR1 HTE
      have hst := HC.out.1
      obtain ⟨ob, cb, hvb, hmb, -⟩ := hst.all.form
      have c0 : wr.cell? ⟨R.b, 0, none⟩ = some (.slice ob R1.all.length cb) := by rw [← hb1]; exact (hst.cell 0).trans (by rw [← hvb]; rfl)
      have hblt : R.b < wr.heap.size := by rw [← hb1]; exact hst.blt
      have hgl : g < wr.heap.size := World.block_lt_of_cell? _ _ e0
      have HRow := hid (hvb ▸ hst.all)
      have HVB := hid hvb
      have HS1 := hid hst
      have HHX := hid hx
      clear hst hvb hrk hx
      obtain ⟨xk, xv, xg⟩ := x
      simp only at e0 e1 e2
      have p0 := (Keeps.alloc (fun _ => False) wr (.cells #[.int .i64 s, .string xk, .string xv, .bool xg, .bool false] 152)).cell (p := ⟨R.b, 0, none⟩) c0 (fun h => h)
      go_wp2_with fail
      go_region_law ((refine step_append_row _ (by rfl) _ _ 75 (by rfl) 152 i0 _ 5 56 Tryz.underlying75 hi hz0 hz1 hz2 (by rfl) (.slice ob R1.all.length cb) R1.all.length _ (by rfl) (HRow.out.kept ((Keeps.refl (fun _ => False) wr).al _).dr (fun _ _ h => h)) ⟨wr.heap.size, 0, none⟩ 1 1 [.int .i64 s, .string xk, .string xv, .bool xg, .bool false] (by rfl) (by rfl) (news_arr wr #[.int .i64 s, .string xk, .string xv, .bool xg, .bool false] _) (by simp [Value.oneCell']) (by have := HL1.out; unfold maxLen; omega) (by have := HL1.out; omega) ?_; intro v2 w2 hown' hgrow _ hat; obtain ⟨g', cap', rfl⟩ := hown'.succ; have HN := hid (HS1.out.push_all (x := ⟨s, ⟨xk, xv, xg⟩, false⟩) HVB.out ((Keeps.refl (fun _ => False) wr).al _).dr hown' hgrow hat); have r3 : w2.frozen? ⟨R.b, 0, none⟩ = false := (by rw [← hb1]; exact frozen_of_heap HN.out.1 0); have q3 : w2.cell? ⟨R.b, 0, none⟩ = some (.slice ob R1.all.length cb) := (by rw [← hb1]; exact (cell_of_heap HN.out.1 0).trans (by rw [← HVB.out]; rfl)); clear hown' hgrow hat))
      all_goals
        go_wp2
        refine ⟨⟨j + 1, .slice (some ⟨g', 0, none⟩) (R1.all.length + 1) cap', by omega, by go_num, ?_⟩, by simp only [intOf]; omega⟩
        rw [← HP.out, ← hb1]
        exact HC.out.trans HN.out.2
    · have HE : Hid (putsL (l.take j) s = putsL l s) := by show _ = _; rw [List.take_of_length_le (by omega)]
      go_wp2
      go_end0
      exact ⟨rfl, v', by rw [← HE.out]; exact HC.out⟩

end Go.Proofs.YtfcocbcihhdbkaaGreatDoor

/- The document's store: there, Pin, Unpin. -/
namespace Go.Proofs.YtfcocbcihhdbkaaGreatDoor
open Go.RowKit Go.Shelf

def RRep.there (R : RRep) (s : Int) : Bool := decide (R.floor ≤ s) && decide (s ≤ R.now)

theorem there_any (R : RRep) (s : Int) (w : World) (h : RefAt w R) :
    Calls Tryz.prog 190 #[.pointer (some ⟨R.b, 0, none⟩), .int .i64 s] w fun e w' => e = .returned (.bool (R.there s)) ∧ w' = w := by
  have c1 : w.cell? ⟨R.b, 1, none⟩ = some (.int .i64 R.now) := h.cell 1
  have c2 : w.cell? ⟨R.b, 2, none⟩ = some (.int .i64 R.floor) := h.cell 2
  have HT : Hid (R.there s = (decide (R.floor ≤ s) && decide (s ≤ R.now))) := hid rfl
  clear h
  generalize R.there s = tb at *
  go_enter Tryz.func190, Tryz.ntmps190
  by_cases h1 : R.floor ≤ s
  · by_cases h2 : s ≤ R.now
    · go_wp2
      go_ret
      exact ⟨ret_bool (by rw [HT.out]; simp [h1, h2]), rfl⟩
    · go_wp2
      go_ret
      exact ⟨ret_bool (by rw [HT.out]; simp [h1, h2]), rfl⟩
  · go_wp2
    go_ret
    exact ⟨ret_bool (by rw [HT.out, decide_eq_false (show ¬ R.floor ≤ s by omega)]; rfl), rfl⟩

theorem RefAt.putPins {w W : World} {R : RRep} {v : Value} {l : List Int} (h : RefAt w R) (hk : Keeps (fun k => k = R.b ∨ R.vp.ownBlock = some k) w W)
    (ht : W.heap[R.b]? = some (.cells (RRep.top { R with vp := v, pins := l }) 79 (0, 0)))
    (hr : Row W 3 1 v l.length (l.flatMap pinCells)) (hown : ∀ g, v.ownBlock = some g → R.vp.ownBlock = some g ∨ w.heap.size ≤ g) :
    RCh 3 R { R with vp := v, pins := l } w W := by
  have hkc : Keeps (fun k => k = R.b ∨ (k ∈ R.fp ∧ TypeIs w k 3)) w W := hk.mono (fun k _ hc => by
    rcases hc with rfl | hc
    · exact .inl rfl
    · exact .inr ⟨R.mem_vp hc, h.pins.typeIs hc⟩)
  obtain ⟨r1, r2, r3, r4, r5, r6⟩ := h.rows 3 (hkc.mono (fun k _ hc => hc.imp id And.right))
  refine ⟨⟨ht, r1 (by decide), r2 (by decide), r3 (by decide), hr, r5 (by decide), r6 (by decide)⟩, rfl, hkc, fun k hk' => ?_⟩
  simp only [RRep.fp, List.mem_cons, List.mem_append, List.mem_flatMap, Option.mem_toList] at hk' ⊢
  rcases hk' with h1 | ((((h1 | h1) | h1) | h1) | h1) | h1
  · exact .inl (.inl h1)
  · exact .inl (.inr (.inl (.inl (.inl (.inl (.inl h1))))))
  · exact .inl (.inr (.inl (.inl (.inl (.inl (.inr h1))))))
  · rcases hown k h1 with h2 | h2
    · exact .inl (.inr (.inl (.inl (.inl (.inr h2)))))
    · exact .inr h2
  · exact .inl (.inr (.inl (.inl (.inr h1))))
  · exact .inl (.inr (.inl (.inr h1)))
  · exact .inl (.inr (.inr h1))

theorem Tryz.infoInt : (Tryz.prog.info? 3).map (fun i => (i.zero, i.size, i.bytes)) = some (some (.int .i64 0), 1, 8) := by kernel_rfl

def RRep.pinned (R : RRep) (v : Value) (l : List Int) : RRep := { R with vp := v, pins := l }

theorem pinR_bad (R : RRep) (s : Int) (w : World) (h : RefAt w R) (ht : R.there s = false) :
    Calls Tryz.prog 130 #[.pointer (some ⟨R.b, 0, none⟩), .int .i64 s] w fun e w' => e = .returned (.int .i64 5) ∧ w' = w := by
  have hc := there_any R s w h
  rw [ht] at hc
  have HC := hid hc
  clear hc h ht
  go_enter Tryz.func130, Tryz.ntmps130
  go_wp2_with (go_at_call 190; go_must (refine (HC.out).mono ?_; rintro e w1 ⟨rfl, rfl⟩))
  go_ret
  exact ⟨rfl, rfl⟩

set_option maxRecDepth 100000 in
set_option maxHeartbeats 1000000 in
theorem pinR_ok (R : RRep) (s : Int) (w : World) (h : RefAt w R) (ht : R.there s = true) (hl : R.pins.length < 100000000000) :
    Calls Tryz.prog 130 #[.pointer (some ⟨R.b, 0, none⟩), .int .i64 s] w fun e w' => e = .returned (.int .i64 0) ∧ ∃ v, RCh 3 R (R.pinned v (R.pins ++ [s])) w w' := by
  have hc := there_any R s w h
  rw [ht] at hc
  have HC := hid hc
  obtain ⟨oa, ca, hva, hm, -⟩ := h.pins.form
  have c5 : w.cell? ⟨R.b, 5, none⟩ = some (.slice oa R.pins.length ca) := (h.cell 5).trans (by rw [← hva]; rfl)
  have hrow := h.pins
  rw [hva] at hrow
  have HR := hid hrow
  have HH := hid h
  have HV := hid hva
  have HL := hid hl
  have hblt := h.blt
  obtain ⟨i0, hi, hz0, hz1, hz2⟩ := info_parts Tryz.infoInt
  have HGB : Hid (∀ W w2 : World, Keeps (fun _ => False) w W → W.grownBy w2 (Value.slice oa R.pins.length ca).ownBlock → w2.heap[R.b]? = some (.cells R.top 79 (0, 0))) := fun W w2 hk hg => by
    rw [(Keeps.grown hg).block R.b (Nat.lt_of_lt_of_le hblt hk.size) (fun e => (hrow.typeIs e.symm).ne (e' := 79) (by decide) ⟨_, h.top⟩), hk.block _ hblt (fun h => h)]
    exact h.top
  unfold maxLen at hm
  clear hc h ht hva hrow
  go_enter Tryz.func130, Tryz.ntmps130
  go_wp2_with (first | (go_at_call 190; go_must (refine (HC.out).mono ?_; rintro e w1 ⟨rfl, rfl⟩)) | (at_builtin; go_must (refine wpList_append_row _ rfl _ _ 45 rfl 3 i0 _ 1 8 Tryz.underlying45 hi hz0 hz1 hz2 rfl (.slice oa R.pins.length ca) R.pins.length _ rfl (HR.out.kept (Keeps.alloc (fun _ => False) _ _) (fun _ _ h => h)) ⟨w1.heap.size, 0, none⟩ 1 1 [.int .i64 s] rfl rfl (news_arr w1 #[.int .i64 s] _) (by simp [Value.oneCell']) (by have := HL.out; unfold maxLen; omega) (by have := HL.out; omega) ?_; intro v' w2 hown' hgrow _ hat; obtain ⟨g', cap', rfl⟩ := hown'.succ; have HB2 := hid (HGB.out _ _ (Keeps.alloc _ _ _) hgrow); have HK2 := hid ((Keeps.alloc (fun k => some k = Value.ownBlock (.slice oa R.pins.length ca)) w1 _).tr (Keeps.grown hgrow) (fun _ h => h)); have HO := hid hown'; have HA := hid hat; have r5 : w2.frozen? ⟨R.b, 5, none⟩ = false := frozen_of_heap HB2.out 5; have q5 : w2.cell? ⟨R.b, 5, none⟩ = some (.slice oa R.pins.length ca) := (cell_of_heap HB2.out 5).trans (by rw [← HV.out]; rfl); clear hown' hgrow hat)))
  go_ret
  refine ⟨rfl, .slice (some ⟨g', 0, none⟩) (R.pins.length + 1) cap', RefAt.putPins HH.out ?_ ?_ ?_ ?_⟩
  · exact ((HK2.out.mono (T := fun k => k = R.b ∨ R.vp.ownBlock = some k) (fun k _ h => .inr (by rw [HV.out]; exact h.symm))).tr (Keeps.setCell _ _ _) (fun k h => .inl h))
  · rw [heap_setCell_same HB2.out]
    rfl
  · have hr := HO.out.kept (Keeps.setCell w2 ⟨R.b, 5, none⟩ (.slice (some ⟨g', 0, none⟩) (R.pins.length + 1) cap')) (fun g hg e => (HO.out.typeIs hg).ne (e' := 79) (by decide) ⟨_, (show g = R.b from e) ▸ HB2.out⟩)
    simpa [pinCells] using hr
  · intro g hg
    rcases HA.out with e | e
    · left; rw [HV.out, ← e]; exact hg
    · right
      rw [hg] at e
      have e' : g = w1.heap.size + 1 := by simpa using e
      omega

/-! ### Unpin -/
theorem pin_at {w W : World} {g cap k : Nat} {l : List Int} {x : Int} (h : Row w 3 1 (.slice (some ⟨g, 0, none⟩) l.length cap) l.length (l.flatMap pinCells)) (hW : Keeps (fun _ => False) w W) (hx : l[k]? = some x) :
    W.cell? ⟨g, k, none⟩ = some (.int .i64 x) := by
  obtain ⟨hk, rfl⟩ := List.getElem?_eq_some_iff.1 hx
  have := Row.elem pin_len (h.kept hW (fun _ _ h => h)) k hk 0 (by omega)
  simpa [pinCells] using this

def unpinAns (l : List Int) (s : Int) : Int := if s ∈ l then 0 else 1

theorem erase_next {l : List Int} {s x : Int} {j : Nat} (hx : l[j]? = some x) : (l.take (j + 1)).erase s = if x = s ∧ ¬ (s ∈ l.take j) then (l.take j).erase s else (l.take j).erase s ++ [x] := by
  rw [take_next hx, List.erase_append]
  by_cases h : s ∈ l.take j
  · simp [h]
  · rw [if_neg h, List.erase_of_not_mem h]
    by_cases e : x = s
    · subst e
      simp [h]
    · rw [if_neg (fun h => e h.1)]
      simp [e]

set_option maxRecDepth 100000 in
set_option maxHeartbeats 1000000 in
theorem unpinR_any (R : RRep) (s : Int) (w : World) (h : RefAt w R) (hl : R.pins.length < 100000000000) :
    Calls Tryz.prog 131 #[.pointer (some ⟨R.b, 0, none⟩), .int .i64 s] w fun e w' => e = .returned (.int .i64 (unpinAns R.pins s)) ∧ ∃ v, RCh 3 R (R.pinned v (R.pins.erase s)) w w' := by
  obtain ⟨oa, ca, hva, hm, sa⟩ := h.pins.form
  have c5 : w.cell? ⟨R.b, 5, none⟩ = some (.slice oa R.pins.length ca) := (h.cell 5).trans (by rw [← hva]; rfl)
  have hrow := h.pins
  rw [hva] at hrow
  have HR := hid hrow
  have SA := hid sa
  have HH := hid h
  have HL := hid hl
  have hblt := h.blt
  obtain ⟨i0, hi, hz0, hz1, hz2⟩ := info_parts Tryz.infoInt
  have HFZ : Hid (∀ W, Keeps (fun _ => False) w W → W.frozen? ⟨R.b, 5, none⟩ = false ∧ W.heap[R.b]? = some (.cells R.top 79 (0, 0))) := fun W hW => ⟨(h.kept hW (fun _ _ h => h)).frozen 5, (h.kept hW (fun _ _ h => h)).top⟩
  unfold maxLen at hm
  obtain ⟨l, hle⟩ : ∃ l, l = R.pins := ⟨_, rfl⟩
  have HLE := hid hle
  rw [← hle] at c5 HR SA HL hm hl ⊢
  clear h hva hrow sa hle
  go_enter Tryz.func131, Tryz.ntmps131
  go_wp2_with fail
  go_loopw [5, 6, 7] (fun v f i wr => ∃ j : Nat, j ≤ l.length ∧ i = .int .i64 j ∧ f = .bool (decide (s ∈ l.take j)) ∧ Made 3 1 pinCells w wr v ((l.take j).erase s)) (fun _ _ i _ => l.length - (intOf i).toNat)
  case atStart => exact ⟨0, Nat.zero_le _, rfl, by simp, Made.nil (Keeps.refl _ _)⟩
  case round =>
    obtain ⟨j, hj, rfl, rfl, hM⟩ := hrel
    obtain ⟨ob, cb, rfl, -, -⟩ := hM.row.form
    have d5 := hM.keep.cell (p := ⟨R.b, 5, none⟩) c5 (fun h => h)
    have HM := hid hM
    clear hM
    have hol : ((l.take j).erase s).length ≤ j := Nat.le_trans (List.length_erase_le) (List.length_take_le _ _)
    by_cases hlt : j < l.length
    · obtain ⟨g, rfl⟩ := SA.out (by omega)
      obtain ⟨x, hx⟩ : ∃ x, l[j]? = some x := ⟨l[j], List.getElem?_eq_getElem hlt⟩
      have e0 := pin_at HR.out HM.out.keep hx
      have HE := hid (erase_next (s := s) hx)
      have HME : Hid (decide (s ∈ l.take (j + 1)) = (decide (s ∈ l.take j) || decide (x = s))) := by
        show _ = _
        rw [take_next hx]
        simp [eq_comm]
      obtain ⟨fb, hfb⟩ : ∃ b, b = decide (s ∈ l.take j) := ⟨_, rfl⟩
      have HFB := hid hfb
      rw [← hfb] at HME ⊢
      by_cases hc : x = s ∧ fb = false
      · have HS : Hid ((l.take (j + 1)).erase s = (l.take j).erase s) := by
          show _ = _
          rw [HE.out, if_pos ⟨hc.1, fun h => by have := HFB.out; rw [hc.2] at this; simp [h] at this⟩]
        have HF : Hid (decide (s ∈ l.take (j + 1)) = true) := by show _ = _; rw [HME.out]; simp [hc.1]
        obtain ⟨rfl, rfl⟩ := hc
        clear hx hfb HE HME HFB
        go_wp2
        exact ⟨⟨j + 1, by omega, by go_num, by rw [HF.out], by rw [HS.out]; exact HM.out⟩, by simp only [intOf]; omega⟩
      · have HS : Hid ((l.take (j + 1)).erase s = (l.take j).erase s ++ [x]) := by
          show _ = _
          rw [HE.out, if_neg (fun h => hc ⟨h.1, by rw [HFB.out]; simp [h.2]⟩)]
        have HF : Hid (decide (s ∈ l.take (j + 1)) = fb) := by
          show _ = _
          rw [HME.out]
          by_cases e : x = s
          · cases fb with
            | true => rfl
            | false => exact absurd ⟨e, rfl⟩ hc
          · simp [e]
        have HCC := hid hc
        clear hx hfb HE HME HFB hc
        generalize (l.take j).erase s = out at *
        by_cases e : x = s
        · have hft : fb = true := by
            cases fb with
            | true => rfl
            | false => exact absurd ⟨e, rfl⟩ HCC.out
          subst hft
          subst e
          go_wp2_with (first | (at_builtin; go_must (refine wpList_append_row _ rfl _ _ 45 rfl 3 i0 _ 1 8 Tryz.underlying45 hi hz0 hz1 hz2 rfl (.slice ob out.length cb) out.length _ rfl (HM.out.row.kept (Keeps.alloc (fun _ => False) wr _) (fun _ _ h => h)) ⟨wr.heap.size, 0, none⟩ 1 1 [.int .i64 x] rfl rfl (news_arr wr #[.int .i64 x] _) (by simp [Value.oneCell']) (by have := HL.out; unfold maxLen; omega) (by have := HL.out; omega) ?_; intro v' w1 hown' hgrow _ hat; obtain ⟨g1, c1, rfl⟩ := hown'.succ; have HN := hid (HM.out.push (a := x) (Keeps.alloc (fun _ => False) wr _) hown' hgrow hat); clear hown' hgrow hat)) | fail)
          exact ⟨⟨j + 1, by omega, by go_num, by rw [HF.out], by rw [HS.out]; exact HN.out.slice (by simp)⟩, by simp only [intOf]; omega⟩
        · have hne : (x == s) = false := beq_eq_false_iff_ne.2 e
          clear e
          go_wp2_with (first | (at_builtin; go_must (refine wpList_append_row _ rfl _ _ 45 rfl 3 i0 _ 1 8 Tryz.underlying45 hi hz0 hz1 hz2 rfl (.slice ob out.length cb) out.length _ rfl (HM.out.row.kept (Keeps.alloc (fun _ => False) wr _) (fun _ _ h => h)) ⟨wr.heap.size, 0, none⟩ 1 1 [.int .i64 x] rfl rfl (news_arr wr #[.int .i64 x] _) (by simp [Value.oneCell']) (by have := HL.out; unfold maxLen; omega) (by have := HL.out; omega) ?_; intro v' w1 hown' hgrow _ hat; obtain ⟨g1, c1, rfl⟩ := hown'.succ; have HN := hid (HM.out.push (a := x) (Keeps.alloc (fun _ => False) wr _) hown' hgrow hat); clear hown' hgrow hat)) | fail)
          exact ⟨⟨j + 1, by omega, by go_num, by rw [HF.out], by rw [HS.out]; exact HN.out.slice (by simp)⟩, by simp only [intOf]; omega⟩
    · have HT : Hid (l.take j = l) := by show _ = _; exact List.take_of_length_le (by omega)
      obtain ⟨f5, hb5⟩ := HFZ.out _ HM.out.keep
      have HB5 := hid hb5
      have HPOST : Hid (RCh 3 R (R.pinned (.slice ob ((l.take j).erase s).length cb) (l.erase s)) w (wr.setCell ⟨R.b, 5, none⟩ (.slice ob ((l.take j).erase s).length cb))) := by
        have hM := HM.out
        rw [HT.out] at hM
        rw [HT.out]
        refine RefAt.putPins HH.out ?_ ?_ ?_ (fun g hg => .inr (hM.own g hg))
        · exact (hM.keep.mono (T := fun k => k = R.b ∨ R.vp.ownBlock = some k) (fun _ _ h => h.elim)).tr (Keeps.setCell _ _ _) (fun k h => .inl h)
        · rw [heap_setCell_same HB5.out]
          rfl
        · exact hM.row.kept (Keeps.setCell _ _ _) (fun g hg e => by have := hM.own g hg; have e' : g = R.b := e; omega)
      have HF : Hid (decide (s ∈ l.take j) = decide (s ∈ l)) := by show _ = _; rw [HT.out]
      clear hb5
      by_cases hin : s ∈ l
      · have hd : decide (s ∈ l.take j) = true := by rw [HF.out]; exact decide_eq_true hin
        have HA : Hid (unpinAns l s = 0) := hid (if_pos hin)
        rw [hd]
        clear hd hin
        generalize ((l.take j).erase s).length = n at *
        go_wp2
        go_ret
        exact ⟨ret_int HA.out.symm, _, HPOST.out⟩
      · have hd : decide (s ∈ l.take j) = false := by rw [HF.out]; exact decide_eq_false hin
        have HA : Hid (unpinAns l s = 1) := hid (if_neg hin)
        rw [hd]
        clear hd hin
        generalize ((l.take j).erase s).length = n at *
        go_wp2
        go_ret
        exact ⟨ret_int HA.out.symm, _, HPOST.out⟩

end Go.Proofs.YtfcocbcihhdbkaaGreatDoor

/- The document's store: Held, Look. -/
namespace Go.Proofs.YtfcocbcihhdbkaaGreatDoor
open Go.RowKit Go.Shelf

def lowL (n : Int) (l : List Int) : Int := l.foldl (fun a x => if x < a then x else a) n
theorem lowL_snoc (n : Int) (l : List Int) (x : Int) : lowL n (l ++ [x]) = if x < lowL n l then x else lowL n l := by
  unfold lowL
  rw [List.foldl_append]
  rfl
theorem lowL_nil (n : Int) : lowL n [] = n := rfl

def RRep.held (R : RRep) : Int := lowL (lowL (lowL R.now (R.works.map RWk.began)) R.pins) (R.copies.map RCp.least)

theorem low_next {α : Type} {f : α → Int} {n : Int} {l : List α} {x : α} {k : Nat} (hx : l[k]? = some x) : lowL n ((l.take (k + 1)).map f) = if f x < lowL n ((l.take k).map f) then f x else lowL n ((l.take k).map f) := by
  obtain ⟨hk, rfl⟩ := List.getElem?_eq_some_iff.1 hx
  rw [List.take_succ_eq_append_getElem hk, List.map_append]
  exact lowL_snoc _ _ _

theorem low_full {α : Type} {f : α → Int} {n : Int} {l : List α} {k : Nat} (hk : ¬ k < l.length) : lowL n ((l.take k).map f) = lowL n (l.map f) := by rw [List.take_of_length_le (by omega)]

theorem cp_at {w : World} {g cap k : Nat} {l : List RCp} {x : RCp} (h : Row w 270 3 (.slice (some ⟨g, 0, none⟩) l.length cap) l.length (l.flatMap RCp.cells)) (hx : l[k]? = some x) :
    w.cell? ⟨g, k * 3, none⟩ = some (.int .i64 x.id) ∧ w.cell? ⟨g, k * 3 + 1, none⟩ = some (.int .i64 x.least) ∧ w.cell? ⟨g, k * 3 + 2, none⟩ = some x.sl := by
  obtain ⟨hk, rfl⟩ := List.getElem?_eq_some_iff.1 hx
  exact ⟨Row.elem RCp.len h k hk 0 (by omega), Row.elem RCp.len h k hk 1 (by omega), Row.elem RCp.len h k hk 2 (by omega)⟩

set_option maxRecDepth 100000 in
set_option maxHeartbeats 2000000 in
theorem held_any (R : RRep) (w : World) (h : RefAt w R) (hw : R.works.length < 100000000000) (hp : R.pins.length < 100000000000) (hc : R.copies.length < 100000000000) :
    Calls Tryz.prog 191 #[.pointer (some ⟨R.b, 0, none⟩)] w fun e w' => e = .returned (.int .i64 R.held) ∧ w' = w := by
  obtain ⟨o1, a1, hv1, hm1, s1⟩ := h.works.form
  obtain ⟨o2, a2, hv2, hm2, s2⟩ := h.pins.form
  obtain ⟨o3, a3, hv3, hm3, s3⟩ := h.copies.form
  have c3 : w.cell? ⟨R.b, 3, none⟩ = some (.slice o1 R.works.length a1) := (h.cell 3).trans (by rw [← hv1]; rfl)
  have c5 : w.cell? ⟨R.b, 5, none⟩ = some (.slice o2 R.pins.length a2) := (h.cell 5).trans (by rw [← hv2]; rfl)
  have c6 : w.cell? ⟨R.b, 6, none⟩ = some (.slice o3 R.copies.length a3) := (h.cell 6).trans (by rw [← hv3]; rfl)
  have c1 : w.cell? ⟨R.b, 1, none⟩ = some (.int .i64 R.now) := h.cell 1
  have H1 := hid (hv1 ▸ h.works)
  have H2 := hid (hv2 ▸ h.pins)
  have H3 := hid (hv3 ▸ h.copies)
  have S1 := hid s1
  have S2 := hid s2
  have S3 := hid s3
  unfold maxLen at hm1 hm2 hm3
  have HHE : Hid (R.held = lowL (lowL (lowL R.now (R.works.map RWk.began)) R.pins) (R.copies.map RCp.least)) := hid rfl
  generalize R.held = ans at *
  generalize R.now = now at *
  generalize R.works = lw at *
  generalize R.pins = lp at *
  generalize R.copies = lc at *
  clear h s1 s2 s3 hv1 hv2 hv3
  go_enter Tryz.func191, Tryz.ntmps191
  go_wp2_with fail
  go_loop [3, 4] (fun n i => ∃ k : Nat, k ≤ lw.length ∧ i = .int .i64 k ∧ n = .int .i64 (lowL now ((lw.take k).map RWk.began))) (fun _ i => lw.length - (intOf i).toNat)
  case atStart => exact ⟨0, Nat.zero_le _, rfl, rfl⟩
  case round =>
    obtain ⟨k, hk, rfl, rfl⟩ := hrel
    by_cases hlt : k < lw.length
    · obtain ⟨g, rfl⟩ := S1.out (by omega)
      obtain ⟨x, hx⟩ : ∃ x, lw[k]? = some x := ⟨lw[k], List.getElem?_eq_getElem hlt⟩
      obtain ⟨d0, d1, d2⟩ := wk_at H1.out (Keeps.refl _ w) hx
      have HN := hid (low_next (f := RWk.began) (n := now) hx)
      generalize lowL now ((lw.take k).map RWk.began) = cur at *
      clear hx d0 d2
      by_cases e : x.began < cur
      · have HS : Hid (lowL now ((lw.take (k + 1)).map RWk.began) = x.began) := by show _ = _; rw [HN.out, if_pos e]
        clear HN
        go_wp2
        exact ⟨⟨k + 1, by omega, by go_num, by rw [HS.out]⟩, by simp only [intOf]; omega⟩
      · have HS : Hid (lowL now ((lw.take (k + 1)).map RWk.began) = cur) := by show _ = _; rw [HN.out, if_neg e]
        clear HN
        go_wp2
        exact ⟨⟨k + 1, by omega, by go_num, by rw [HS.out]⟩, by simp only [intOf]; omega⟩
    · have HF := hid (low_full (f := RWk.began) (n := now) hlt)
      have HE2 : Hid (∃ n1, n1 = lowL now (lw.map RWk.began) ∧ lowL now ((lw.take k).map RWk.began) = n1) := hid ⟨_, rfl, HF.out⟩
      obtain ⟨n1, hn1, hn2⟩ := HE2.out
      rw [hn2]
      rw [← hn1] at HHE
      clear HF HE2 hn1 hn2
      go_wp2_with fail
      go_loop [3, 5] (fun n i => ∃ k : Nat, k ≤ lp.length ∧ i = .int .i64 k ∧ n = .int .i64 (lowL n1 ((lp.take k).map fun z => z))) (fun _ i => lp.length - (intOf i).toNat)
      case atStart => exact ⟨0, Nat.zero_le _, rfl, rfl⟩
      case round =>
        obtain ⟨k2, hk2, rfl, rfl⟩ := hrel
        by_cases hlt2 : k2 < lp.length
        · obtain ⟨g, rfl⟩ := S2.out (by omega)
          obtain ⟨x, hx⟩ : ∃ x, lp[k2]? = some x := ⟨lp[k2], List.getElem?_eq_getElem hlt2⟩
          have d1 := pin_at H2.out (Keeps.refl _ w) hx
          have HN := hid (low_next (f := fun z : Int => z) (n := n1) hx)
          generalize lowL n1 ((lp.take k2).map fun z => z) = cur at *
          clear hx
          by_cases e : x < cur
          · have HS : Hid (lowL n1 ((lp.take (k2 + 1)).map fun z => z) = x) := by show _ = _; rw [HN.out, if_pos e]
            clear HN
            go_wp2
            exact ⟨⟨k2 + 1, by omega, by go_num, by rw [HS.out]⟩, by simp only [intOf]; omega⟩
          · have HS : Hid (lowL n1 ((lp.take (k2 + 1)).map fun z => z) = cur) := by show _ = _; rw [HN.out, if_neg e]
            clear HN
            go_wp2
            exact ⟨⟨k2 + 1, by omega, by go_num, by rw [HS.out]⟩, by simp only [intOf]; omega⟩
        · have HF := hid (low_full (f := fun z : Int => z) (n := n1) hlt2)
          have HE2 : Hid (∃ n2, n2 = lowL n1 lp ∧ lowL n1 ((lp.take k2).map fun z => z) = n2) := hid ⟨_, rfl, HF.out.trans (by rw [List.map_id'])⟩
          obtain ⟨n2, hn1, hn2⟩ := HE2.out
          rw [hn2]
          rw [← hn1] at HHE
          clear HF HE2 hn1 hn2
          go_wp2_with fail
          go_loop [3, 6] (fun n i => ∃ k : Nat, k ≤ lc.length ∧ i = .int .i64 k ∧ n = .int .i64 (lowL n2 ((lc.take k).map RCp.least))) (fun _ i => lc.length - (intOf i).toNat)
          case atStart => exact ⟨0, Nat.zero_le _, rfl, rfl⟩
          case round =>
            obtain ⟨k3, hk3, rfl, rfl⟩ := hrel
            by_cases hlt3 : k3 < lc.length
            · obtain ⟨g, rfl⟩ := S3.out (by omega)
              obtain ⟨x, hx⟩ : ∃ x, lc[k3]? = some x := ⟨lc[k3], List.getElem?_eq_getElem hlt3⟩
              obtain ⟨d0, d1, d2⟩ := cp_at H3.out hx
              have HN := hid (low_next (f := RCp.least) (n := n2) hx)
              generalize lowL n2 ((lc.take k3).map RCp.least) = cur at *
              clear hx d0 d2
              by_cases e : x.least < cur
              · have HS : Hid (lowL n2 ((lc.take (k3 + 1)).map RCp.least) = x.least) := by show _ = _; rw [HN.out, if_pos e]
                clear HN
                go_wp2
                exact ⟨⟨k3 + 1, by omega, by go_num, by rw [HS.out]⟩, by simp only [intOf]; omega⟩
              · have HS : Hid (lowL n2 ((lc.take (k3 + 1)).map RCp.least) = cur) := by show _ = _; rw [HN.out, if_neg e]
                clear HN
                go_wp2
                exact ⟨⟨k3 + 1, by omega, by go_num, by rw [HS.out]⟩, by simp only [intOf]; omega⟩
            · have HF := hid (low_full (f := RCp.least) (n := n2) hlt3)
              generalize lowL n2 ((lc.take k3).map RCp.least) = cur at *
              go_wp2
              go_ret
              exact ⟨ret_int (by rw [HHE.out, HF.out]), rfl⟩

end Go.Proofs.YtfcocbcihhdbkaaGreatDoor

/- The document's store: Look. -/
namespace Go.Proofs.YtfcocbcihhdbkaaGreatDoor
open Go.RowKit Go.Shelf

def countL (l : List RVer) : Nat := l.countP (fun v => !v.thrown)
theorem count_next {l : List RVer} {x : RVer} {k : Nat} (hx : l[k]? = some x) : countL (l.take (k + 1)) = countL (l.take k) + (if x.thrown = true then 0 else 1) := by
  rw [take_next hx]
  unfold countL
  rw [List.countP_append]
  cases h : x.thrown <;> simp [h]

theorem countL_le (l : List RVer) : countL l ≤ l.length := List.countP_le_length

theorem lookR_results (W : World) (b : Nat) (x0 x1 x2 x3 x4 x5 : Value) (tmps : Array Value) (h2 : tmps.getD 2 undef = .pointer (some ⟨b, 0, none⟩)) (h : W.heap[b]? = some (.cells #[x0, x1, x2, x3, x4, x5] 51 (0, 0))) :
    (results Tryz.f31 tmps).run Tryz.prog W = .ok (.agg #[x0, x1, x2, x3, x4, x5]) W := by
  have e0 := cell_of_heap h 0
  have e1 := cell_of_heap h 1
  have e2 := cell_of_heap h 2
  have e3 := cell_of_heap h 3
  have e4 := cell_of_heap h 4
  have e5 := cell_of_heap h 5
  simp at e0 e1 e2 e3 e4 e5
  simp only [Array.getD_eq_getD_getElem?] at h2
  simp [results, Tryz.results31, go_sem, h2, e0, e1, e2, e3, e4, e5]

set_option maxRecDepth 100000 in
set_option maxHeartbeats 2000000 in
theorem lookR_any (R : RRep) (w : World) (h : RefAt w R) (ha : R.all.length < 100000000000) :
    Calls Tryz.prog 31 #[.pointer (some ⟨R.b, 0, none⟩)] w fun e w' => e = .returned (.agg #[.int .i64 R.now, .int .i64 R.floor, .int .i64 R.works.length, .int .i64 R.pins.length, .int .i64 (countL R.all), .int .i64 R.copies.length]) ∧ Keeps (fun _ => False) w w' := by
  obtain ⟨o0, a0, hv0, hm0, s0⟩ := h.all.form
  obtain ⟨o1, a1, hv1, hm1, s1⟩ := h.works.form
  obtain ⟨o2, a2, hv2, hm2, s2⟩ := h.pins.form
  obtain ⟨o3, a3, hv3, hm3, s3⟩ := h.copies.form
  have c0 : w.cell? ⟨R.b, 0, none⟩ = some (.slice o0 R.all.length a0) := (h.cell 0).trans (by rw [← hv0]; rfl)
  have c3 : w.cell? ⟨R.b, 3, none⟩ = some (.slice o1 R.works.length a1) := (h.cell 3).trans (by rw [← hv1]; rfl)
  have c5 : w.cell? ⟨R.b, 5, none⟩ = some (.slice o2 R.pins.length a2) := (h.cell 5).trans (by rw [← hv2]; rfl)
  have c6 : w.cell? ⟨R.b, 6, none⟩ = some (.slice o3 R.copies.length a3) := (h.cell 6).trans (by rw [← hv3]; rfl)
  have c1 : w.cell? ⟨R.b, 1, none⟩ = some (.int .i64 R.now) := h.cell 1
  have c2 : w.cell? ⟨R.b, 2, none⟩ = some (.int .i64 R.floor) := h.cell 2
  have HR := hid (hv0 ▸ h.all)
  have SA := hid s0
  have hblt := h.blt
  have ne1 : ¬ (R.b = w.heap.size) := by omega
  have ne2 : ¬ (w.heap.size = R.b) := by omega
  unfold maxLen at hm0 hm1 hm2 hm3
  generalize R.all = al at *
  generalize R.works.length = nw at *
  generalize R.pins.length = np at *
  generalize R.copies.length = nc at *
  generalize R.now = now at *
  generalize R.floor = floor at *
  clear h s0 s1 s2 s3 hv0 hv1 hv2 hv3
  go_enter Tryz.func31, Tryz.ntmps31
  go_wp2_with fail
  go_loop [3, 4] (fun n i => ∃ k : Nat, k ≤ al.length ∧ i = .int .i64 k ∧ n = .int .i64 (countL (al.take k))) (fun _ i => al.length - (intOf i).toNat)
  case atStart => exact ⟨0, Nat.zero_le _, rfl, rfl⟩
  case round =>
    obtain ⟨k, hk, rfl, rfl⟩ := hrel
    have hcl : countL (al.take k) ≤ k := Nat.le_trans (countL_le _) (List.length_take_le _ _)
    by_cases hlt : k < al.length
    · obtain ⟨g, rfl⟩ := SA.out (by omega)
      obtain ⟨x, hx⟩ : ∃ x, al[k]? = some x := ⟨al[k], List.getElem?_eq_getElem hlt⟩
      obtain ⟨d0, d1, d2, d3, d4⟩ := ver_at HR.out (Keeps.refl _ w) hx
      have hgl : g < w.heap.size := World.block_lt_of_cell? _ _ d0
      have HN := hid (count_next hx)
      generalize countL (al.take k) = cur at *
      clear hx d0 d1 d2 d3
      obtain ⟨t, ht⟩ : ∃ t, t = x.thrown := ⟨_, rfl⟩
      rw [← ht] at d4 HN
      clear ht
      cases t with
      | true =>
        have HS : Hid (countL (al.take (k + 1)) = cur) := by show _ = _; rw [HN.out]; simp
        clear HN
        go_wp2
        exact ⟨⟨k + 1, by omega, by go_num, by rw [HS.out]⟩, by simp only [intOf]; omega⟩
      | false =>
        have HS : Hid (countL (al.take (k + 1)) = cur + 1) := by show _ = _; rw [HN.out]; simp
        clear HN
        go_wp2
        exact ⟨⟨k + 1, by omega, by go_num, by rw [HS.out]; go_num⟩, by simp only [intOf]; omega⟩
    · have HF : Hid (countL (al.take k) = countL al) := by show _ = _; rw [List.take_of_length_le (by omega)]
      generalize countL (al.take k) = cur at *
      go_wp2_with fail
      go_region_held3 (fun W => W.cell? ⟨R.b, 1, none⟩ = some (.int .i64 now) ∧ W.cell? ⟨R.b, 2, none⟩ = some (.int .i64 floor) ∧ W.cell? ⟨R.b, 3, none⟩ = some (.slice o1 nw a1) ∧ W.cell? ⟨R.b, 5, none⟩ = some (.slice o2 np a2) ∧ W.cell? ⟨R.b, 6, none⟩ = some (.slice o3 nc a3)) (go_keep) (fail)
      go_wp2
      refine bodyPost_ret (lookR_results _ w.heap.size _ _ _ _ _ _ _ rfl (heap_new w _)) rfl ⟨?_, ((Keeps.refl (fun _ => False) w).al _).dr⟩
      rw [HF.out]

end Go.Proofs.YtfcocbcihhdbkaaGreatDoor

/- The document's store: Write. -/
namespace Go.Proofs.YtfcocbcihhdbkaaGreatDoor
open Go.RowKit Go.Shelf

theorem Row.setAt {w : World} {e : TypeId} {size g n cap : Nat} {xs : List Value} (h : Row w e size (.slice (some ⟨g, 0, none⟩) n cap) n xs) (i : Nat) (u : Value) : Row (w.setCell ⟨g, i, none⟩ u) e size (.slice (some ⟨g, 0, none⟩) n cap) n (xs.set i u) := by
  refine ⟨by simpa using h.1, ?_⟩
  rcases h.2 with ⟨h2, _⟩ | ⟨g', cap', cur, hv, hh, h3, h4, h5, h6⟩
  · simp at h2
  · simp at hv
    obtain ⟨rfl, rfl⟩ := hv
    refine .inr ⟨g, cap, cur.setIfInBounds i u, rfl, heap_setCell_same hh u, h3, h4, by simpa using h5, ?_⟩
    rw [← h6]
    simp [List.take_set]

theorem flat_set {α : Type} {f : α → List Value} {size : Nat} (hf : ∀ a, (f a).length = size) (u : Value) (y : α) : ∀ (l : List α) (k r : Nat) (x : α), l[k]? = some x → r < size → f y = (f x).set r u → (l.flatMap f).set (k * size + r) u = (l.set k y).flatMap f
  | [], k, r, x, hk, _, _ => by simp at hk
  | a :: l, 0, r, x, hk, hr, hy => by
    simp at hk
    subst hk
    have : r < (f a).length := by rw [hf]; exact hr
    simp [hy, List.set_append_left _ _ this]
  | a :: l, k + 1, r, x, hk, hr, hy => by
    have ih := flat_set hf u y l k r x (by simpa using hk) hr hy
    have e : (k + 1) * size + r = (f a).length + (k * size + r) := by rw [hf, Nat.add_mul, Nat.one_mul]; omega
    rw [List.flatMap_cons, e, List.set_append_right _ _ (by omega), Nat.add_sub_cancel_left, ih]
    simp

/-- a work's writes become others -/
def RWk.wrote (x : RWk) (v : Value) (l : List RecB) : RWk := ⟨x.id, x.began, v, l⟩
def RRep.wrote (R : RRep) (k : Nat) (x : RWk) (v : Value) (l : List RecB) : RRep := { R with works := R.works.set k (x.wrote v l) }

theorem RefAt.setWrites {w W : World} {R : RRep} {g cap k : Nat} {x : RWk} {v : Value} {l : List RecB} (h : RefAt w R) (hk : Keeps (fun _ => False) w W) (hv : R.vw = .slice (some ⟨g, 0, none⟩) R.works.length cap) (hx : R.works[k]? = some x)
    (hr : RecsAt W v l) (hown : ∀ q, v.ownBlock = some q → w.heap.size ≤ q) : RCh 219 R (R.wrote k x v l) w (W.setCell ⟨g, k * 3 + 2, none⟩ v) := by
  have hg : R.vw.ownBlock = some g := by rw [hv]; rfl
  have hgt : TypeIs w g 219 := h.works.typeIs hg
  have hgb : R.b ≠ g := fun e => hgt.ne (e' := 79) (by decide) (e ▸ ⟨_, h.top⟩)
  have hb := (hk.block _ h.blt (fun h => h)).trans h.top
  have hset := (h.works.kept hk (fun _ _ h => h))
  rw [hv] at hset
  have hs2 := hset.setAt (k * 3 + 2) v
  rw [flat_set RWk.len v (x.wrote v l) R.works k 2 x hx (by omega) rfl] at hs2
  refine RefAt.putWorks (n := R.begun) (v := R.vw) h ?_ ?_ ?_ (fun q hq => .inl hq) (fun y hy => ?_)
  · exact (hk.mono (T := fun k => k = R.b ∨ R.vw.ownBlock = some k) (fun _ _ h => h.elim)).tr (Keeps.setCell _ _ _) (fun k e => .inr (by rw [hg]; exact congrArg some (show g = k from e.symm)))
  · have : (W.setCell ⟨g, k * 3 + 2, none⟩ v).heap[R.b]? = W.heap[R.b]? := (Keeps.setCell W ⟨g, k * 3 + 2, none⟩ v).block R.b (Array.getElem?_eq_some_iff.1 hb).1 (fun e => hgb e)
    rw [this]
    exact hb
  · rw [hv]
    simpa using hs2
  · rcases List.mem_or_eq_of_mem_set hy with h1 | h1
    · exact .inl h1
    · subst h1
      refine .inr ⟨Row.kept hr (Keeps.setCell _ _ _) (fun q hq e => ?_), hown⟩
      have e' : q = g := e
      have h1 := hown q hq
      have h2 := hgt.lt
      omega

theorem writeR_none (R : RRep) (id : Int) (r : RecB) (w : World) (h : RefAt w R) (hl : R.works.length < 100000000000) (hf : findL R.works id = none) :
    Calls Tryz.prog 127 #[.pointer (some ⟨R.b, 0, none⟩), .int .i64 id, r.val] w fun e w' => e = .returned (.int .i64 1) ∧ Keeps (fun _ => False) w w' := by
  obtain ⟨rk, rv, rg⟩ := r
  simp only [RecB.val]
  have hc := findR_any R id (w.alloc (.cells #[.string rk, .string rv, .bool rg] 34)) (h.kept (Keeps.alloc (fun _ => False) _ _) (fun _ _ h => h)) (by omega)
  rw [hf] at hc
  have HC := hid hc
  clear hc h hf
  go_enter Tryz.func127, Tryz.ntmps127
  go_wp2_with (go_at_call 184; go_must (refine (HC.out).mono ?_; rintro e w1 ⟨rfl, rfl⟩; simp only [idxZ]))
  go_ret
  exact ⟨rfl, Keeps.alloc _ _ _⟩

theorem writeR_text (R : RRep) (id : Int) (r : RecB) (k : Nat) (w : World) (h : RefAt w R) (hl : R.works.length < 100000000000) (hf : findL R.works id = some k) (hk : r.key.size ≤ maxLen) (hv : r.value.size ≤ maxLen) (hb : (keyB r.key && valB r.value) = false) :
    Calls Tryz.prog 127 #[.pointer (some ⟨R.b, 0, none⟩), .int .i64 id, r.val] w fun e w' => e = .returned (.int .i64 2) ∧ Keeps (fun _ => False) w w' := by
  obtain ⟨rk, rv, rg⟩ := r
  simp only [RecB.val]
  simp only at hk hv hb
  have hc := findR_any R id (w.alloc (.cells #[.string rk, .string rv, .bool rg] 34)) (h.kept (Keeps.alloc (fun _ => False) _ _) (fun _ _ h => h)) (by omega)
  rw [hf] at hc
  have HC := hid hc
  have HIK : Hid (∀ W, Calls Tryz.prog 149 #[.string rk] W fun e w' => e = .returned (.bool (keyB rk)) ∧ w' = W) := fun W => isKeyR_any rk W hk
  have HIV : Hid (∀ W, Calls Tryz.prog 150 #[.string rv] W fun e w' => e = .returned (.bool (valB rv)) ∧ w' = W) := fun W => isValueR_any rv W hv
  have hnn : ¬ ((k : Int) < 0) := by omega
  clear hc h hf hk hv
  generalize keyB rk = bk at *
  generalize valB rv = bv at *
  go_enter Tryz.func127, Tryz.ntmps127
  cases bk <;> cases bv
  case true.true => simp at hb
  all_goals
    go_wp2_with (first | (go_at_call 184; go_must (refine (HC.out).mono ?_; rintro e w1 ⟨rfl, rfl⟩; simp only [idxZ])) | (go_at_call 149; go_must (refine (HIK.out _).mono ?_; rintro e w1 ⟨rfl, rfl⟩)) | (go_at_call 150; go_must (refine (HIV.out _).mono ?_; rintro e w1 ⟨rfl, rfl⟩)))
    go_ret
    exact ⟨rfl, Keeps.alloc _ _ _⟩

end Go.Proofs.YtfcocbcihhdbkaaGreatDoor
