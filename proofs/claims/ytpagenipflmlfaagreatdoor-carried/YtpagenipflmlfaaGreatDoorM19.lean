import Derived.Test.YtpagenipflmlfaaGreatDoorM18

/- Decode. -/

namespace Go.Proofs.YtpagenipflmlfaaGreatDoor

open Go.RowKit Go.Shelf

/-- what Decode says -/
def DecPost (x : RdO) (w : World) (e : Ending) (w' : World) : Prop := (match x with
  | none => e = .returned (.tuple #[strZ, .int .i64 0, .int .i64 7])
  | some (.inl p) => e = .returned (.tuple #[strZ, .int .i64 (p : Nat), .int .i64 6])
  | some (.inr s) => ∃ oa cap, e = .returned (.tuple #[.agg #[.bool s.full, .int .i64 (s.a : Nat), .int .i64 (s.b : Nat), .slice oa s.recs.length cap], .int .i64 0, .int .i64 0]) ∧ Row w' 147 3 (.slice oa s.recs.length cap) s.recs.length (recCs (s.recs.map recB)) ∧ ∀ g, (Value.slice oa s.recs.length cap).ownBlock = some g → w.heap.size ≤ g) ∧ Keeps (fun _ => False) w w'

theorem results_cell_two {fn : Func} {p u y : Tmp} {ty : TypeId} (h : fn.results = #[.cell p ty, .tmp u, .tmp y]) (tmps : Array Value) (P : Program) (w : World) :
    (results fn tmps).run P w = ((asAddr (tmps.getD p undef)).run P w).andThen fun a w₁ => ((loadVar ty a).run P w₁).andThen fun v w₂ => .ok (.tuple #[v, tmps.getD u undef, tmps.getD y undef]) w₂ := by
  simp only [results, h]
  simp [Sem.run_bind, Result.andThen]

set_option maxRecDepth 100000 in
set_option maxHeartbeats 4000000 in
theorem decode_any (text : ByteArray) (w : World) (hts : text.size ≤ 10000000000) (hg : Glob w) :
    Calls Tryz.prog 35 #[.string text] w (DecPost (readO text.data.toList) w) := by
  have k0 := Keeps.alloc (fun _ => False) w (.cells #[.bool false, .int .i64 0, .int .i64 0, .slice none 0 0] 84)
  have hg0 := hg.kept k0
  have HR := hid (read_any text (w.alloc (.cells #[.bool false, .int .i64 0, .int .i64 0, .slice none 0 0] 84)) hts hg0.zero hg0.errs hg0.turns)
  have HG := hid hg0
  have HD : Hid (ResZ (w.alloc (.cells #[.bool false, .int .i64 0, .int .i64 0, .slice none 0 0] 84)) w.heap.size) := heap_new w _
  have HK := hid k0
  generalize readO text.data.toList = res at *
  obtain ⟨W, hW⟩ : ∃ W, W = w.alloc (.cells #[.bool false, .int .i64 0, .int .i64 0, .slice none 0 0] 84) := ⟨_, rfl⟩
  rw [← hW] at HR HG HD HK
  have HW := hid hW
  have HZ : Hid (w.heap.size < W.heap.size) := (Array.getElem?_eq_some_iff.1 HD.out).1
  clear hts hg hg0 k0 hW
  go_enter Tryz.func35, Tryz.ntmps35
  go_wp2_with fail
  rw [← HW.out]
  refine HR.out.mono ?_
  clear HR
  rcases res with _ | p | s
  · rintro e w2 ⟨⟨v, rfl, b, t, u, rfl, hb, hc, hs⟩, k2⟩
    obtain ⟨⟨a, h1, -, -⟩, -, -⟩ := HG.out
    rw [h1] at hs
    simp only [Option.some.injEq, Value.iface.injEq] at hs
    obtain ⟨rfl, rfl⟩ := hs
    have k3 : Keeps (fun _ => False) w2 (w2.alloc (.cells #[.bool false, .int .i64 0, .int .i64 0, .slice none 0 0] 84)) := (Keeps.refl _ _).al _
    have hd3 := (HD.out.kept k2 (fun h => h)).kept k3 (fun h => h)
    obtain ⟨a0, a1, a2, a3, b0, b1, b2, b3, s0, s1, s2, s3⟩ := hd3.facts
    have g0 := k3.cell (k2.cell h1 (fun h => h)) (fun h => h)
    have HI := hid (is_sum b a (w2.alloc (.cells #[.bool false, .int .i64 0, .int .i64 0, .slice none 0 0] 84)) (k3.cell (cell_of_heap hc 1) (fun h => h)))
    have HK3 := hid ((HK.out.tr k2 (fun _ h => h)).tr k3 (fun _ h => h))
    clear k3 hd3 k2 h1 hc hb
    unfold strZ
    go_wp2_with (go_at_call 72; go_must (refine HI.out.mono ?_; rintro e w3 ⟨rfl, rfl⟩))
    refine bodyPost_ret (v := .tuple #[strZ, .int .i64 0, .int .i64 7]) ?_ rfl ?_
    · unfold strZ
      rw [results_cell_two rfl]
      go_simp
    · exact ⟨rfl, HK3.out⟩
  · rintro e w2 ⟨⟨v, rfl, b, t, u, g, rfl, hb, hc, hn, hs⟩, k2⟩
    obtain ⟨⟨a, h1, h2, h3⟩, -, -⟩ := HG.out
    obtain ⟨c, c1, c2, c3⟩ := h3 g hn
    rw [c1] at hs
    simp only [Option.some.injEq, Value.iface.injEq] at hs
    obtain ⟨rfl, rfl⟩ := hs
    have k3 : Keeps (fun _ => False) w2 (w2.alloc (.cells #[.bool false, .int .i64 0, .int .i64 0, .slice none 0 0] 84)) := (Keeps.refl _ _).al _
    have hd3 := (HD.out.kept k2 (fun h => h)).kept k3 (fun h => h)
    have g0 := k3.cell (k2.cell h1 (fun h => h)) (fun h => h)
    obtain ⟨ca, ta, d1⟩ := cells_kept (cells_kept c3 k2) k3
    obtain ⟨cb, tb, d2⟩ := cells_kept (cells_kept h2 k2) k3
    have hc3 := (k3.block b (Array.getElem?_eq_some_iff.1 hc).1 (fun h => h)).trans hc
    have HI := hid (is_not_sum b a c ca cb ta tb (w2.alloc (.cells #[.bool false, .int .i64 0, .int .i64 0, .slice none 0 0] 84)) (cell_of_heap hc3 1) c2 d1 d2)
    have HP := hid (placeOf_any b p _ (w2.alloc (.cells #[.bool false, .int .i64 0, .int .i64 0, .slice none 0 0] 84)) ((HG.out.kept k2).kept k3) hc3)
    have HD3 := hid hd3
    have HK3 := hid ((HK.out.tr k2 (fun _ h => h)).tr k3 (fun _ h => h))
    clear k3 hd3 k2 h1 h2 h3 hc hb c1 c2 c3 d1 d2 hc3
    unfold strZ
    go_wp2_with (first
      | (go_at_call 72; go_must (refine HI.out.mono ?_; rintro e w3 ⟨rfl, rfl⟩))
      | (go_at_call 73; go_must (refine HP.out.mono ?_; rintro e w4 ⟨rfl, k4⟩; obtain ⟨a0, a1, a2, a3, b0, b1, b2, b3, s0, s1, s2, s3⟩ := (HD3.out.kept k4 (fun h => h)).facts; have HK4 := hid (HK3.out.tr k4 (fun _ h => h)); clear k4)))
    refine bodyPost_ret (v := .tuple #[strZ, .int .i64 (p : Nat), .int .i64 6]) ?_ rfl ?_
    · unfold strZ
      rw [results_cell_two rfl]
      go_simp
    · exact ⟨rfl, HK4.out⟩
  · rintro e w2 ⟨⟨oa, cap, rfl, row, own2⟩, k2⟩
    have HOW : Hid (∀ g, (Value.slice oa 0 cap).ownBlock = some g → w.heap.size ≤ g) := fun g hg => Nat.le_trans (Nat.le_of_lt HZ.out) (own2 g ((own_len oa _ 0 cap).trans hg))
    obtain ⟨X, hX⟩ : ∃ X, X = w2.alloc (.cells #[.bool s.full, .int .i64 (s.a : Nat), .int .i64 (s.b : Nat), .slice oa s.recs.length cap] 84) := ⟨_, rfl⟩
    have k3 : Keeps (fun _ => False) w2 (w2.alloc (.cells #[.bool s.full, .int .i64 (s.a : Nat), .int .i64 (s.b : Nat), .slice oa s.recs.length cap] 84)) := (Keeps.refl _ _).al _
    have hd3 := (HD.out.kept k2 (fun h => h)).kept k3 (fun h => h)
    have HD3 := hid hd3
    have HRW := hid (row.kept k3 (fun _ _ h => h))
    have HK3 := hid ((HK.out.tr k2 (fun _ h => h)).tr k3 (fun _ h => h))
    obtain ⟨a0, a1, a2, a3, b0, b1, b2, b3, -, -, -, -⟩ := hd3.facts
    clear hX X k3 hd3 row k2 own2
    generalize hlen : s.recs.length = len at *
    go_wp2
    refine bodyPost_ret (v := .tuple #[.agg #[.bool s.full, .int .i64 (s.a : Nat), .int .i64 (s.b : Nat), .slice oa len cap], .int .i64 0, .int .i64 0]) ?_ rfl ?_
    · rw [results_cell_two rfl]
      go_simp
    · refine ⟨⟨oa, cap, by rw [hlen], ?_, fun g hg => HOW.out g ((own_len oa 0 _ cap).trans hg)⟩, HK3.out.trans (four_set _ w.heap.size _ _ _ _) (fun k hk e => by have e' : k = w.heap.size := e; omega)⟩
      rw [hlen]
      exact HRW.out.kept (four_set _ w.heap.size _ _ _ _) (fun i hi e => (HRW.out.typeIs hi).ne (e' := 84) (by decide) ⟨_, (show i = w.heap.size from e) ▸ HD3.out⟩)

end Go.Proofs.YtpagenipflmlfaaGreatDoor

/- The keys from one on: those that have versions, those that a work has written. -/

namespace Go.Proofs.YtpagenipflmlfaaGreatDoor

open Go.RowKit Go.Shelf

theorem seg_drop {w : World} {g at_ n cap cap' : Nat} {ks : List ByteArray} (h : Row w 9 1 (.slice (some ⟨g, 0, none⟩) n cap) n (ks.map Value.string)) (hn : n = ks.length) (ha : at_ ≤ n) (h1 : n - at_ ≤ cap') (h2 : cap' ≤ maxLen) {G : List Nat} (hG : g ∈ G) :
    Seg G w (.slice (some ⟨g, at_, none⟩) (n - at_) cap') (ks.drop at_) := by
  refine .inr ⟨g, at_, cap', hG, by rw [List.length_drop, hn], by rw [List.length_drop, ← hn]; exact h1, h2, fun i hi => ?_⟩
  rw [List.length_drop] at hi
  rw [h.cellAt (at_ + i) (by omega)]
  simp only [List.getElem?_map, List.getElem_drop]
  rw [List.getElem?_eq_getElem (by omega)]
  rfl

theorem seg_none {G : List Nat} {w : World} {oa : Option Addr} {cap : Nat} {ks : List ByteArray} (h : ks = []) : Seg G w (.slice oa 0 cap) ks := .inl ⟨h, oa, cap, rfl⟩

set_option maxRecDepth 100000 in
set_option maxHeartbeats 800000 in
theorem pastKeys_from (R : Rep) (from_ : ByteArray) (w : World) (h : StoreAt w R) (hr : Rises R.keys) (hl : R.keys.length < 1000000000000) :
    Calls Tryz.prog 57 #[.pointer (some ⟨R.sb, 7, none⟩), .string from_] w fun e w' => ∃ v, e = .returned v ∧ Seg R.kv.ownBlock.toList w' v (R.keys.drop (below R.keys from_)) ∧ Keeps (fun _ => False) w w' := by
  have hs := search_keys R.kv R.keys from_ w h.past.keysRow hr (by omega)
  have c5 : w.cell? ⟨R.sb, 7, none⟩ = some R.kv := h.cell 7
  have hble := below_le R.keys from_
  have HS := hid hs
  have HROW := hid h.past.keysRow
  rcases h.past.keysRow.2 with ⟨e, en⟩ | ⟨g, cap, cur, e, hh, h1, h2, h3, h4⟩
  · have en' : R.keys = [] := List.eq_nil_of_length_eq_zero en
    rw [en'] at HS ⊢
    rw [e] at c5 HS ⊢
    have e0 : below ([] : List ByteArray) from_ = 0 := rfl
    rw [e0] at HS
    clear h hs e en HROW hble en'
    generalize memB [] from_ = m at HS
    simp only [Int.natCast_zero] at HS
    go_enter Tryz.func57, Tryz.ntmps57
    go_wp2_with (go_at_call 92; go_must (refine (HS.out).mono ?_; rintro e w1 ⟨rfl, k1⟩; have d5 := k1.cell (p := ⟨R.sb, 7, none⟩) c5 (fun h => h)))
    go_region
    go_wp2
    go_ret
    exact ⟨_, rfl, seg_none (by simp), k1.dr⟩
  · rw [e] at c5 HS HROW ⊢
    clear h hs e hh h3 h4
    generalize memB R.keys from_ = m at HS
    generalize below R.keys from_ = at_ at *
    obtain ⟨n, hn⟩ : ∃ n, n = R.keys.length := ⟨_, rfl⟩
    rw [← hn] at c5 HS HROW hble h1 hl
    have HN := hid hn
    have hcm : cap ≤ maxLen := h2
    unfold maxLen at h2
    clear hn
    by_cases hat : at_ = n
    · subst hat
      go_enter Tryz.func57, Tryz.ntmps57
      go_wp2_with (go_at_call 92; go_must (refine (HS.out).mono ?_; rintro e w1 ⟨rfl, k1⟩; have d5 := k1.cell (p := ⟨R.sb, 7, none⟩) c5 (fun h => h)))
      go_region
      go_wp2
      go_ret
      refine ⟨_, rfl, ?_, k1.dr⟩
      have e0 : R.keys.drop at_ = [] := by rw [HN.out]; simp
      rw [e0]
      exact seg_none rfl
    · have hlt : at_ < n := by omega
      go_enter Tryz.func57, Tryz.ntmps57
      go_wp2_with (go_at_call 92; go_must (refine (HS.out).mono ?_; rintro e w1 ⟨rfl, k1⟩; have d5 := k1.cell (p := ⟨R.sb, 7, none⟩) c5 (fun h => h)))
      go_region
      go_wp2
      go_ret
      refine ⟨_, rfl, ?_, k1.dr⟩
      have := seg_drop (cap' := n - at_) (G := (Value.slice (some ⟨g, 0, none⟩) R.keys.length cap).ownBlock.toList) (HROW.out.kept k1.dr (fun _ _ h => h)) HN.out (by omega) (Nat.le_refl _) (by omega) (by simp [Value.ownBlock])
      exact this

set_option maxRecDepth 100000 in
set_option maxHeartbeats 800000 in
theorem keys_from (wb mb : Nat) (from_ : ByteArray) (l : List (ByteArray × Value)) (w : World) (hc : w.cell? ⟨wb, 1, none⟩ = some (.map (some mb))) (hm : MapAt Value.string w mb l) (hk : ∀ p ∈ l, p.1.size ≤ maxLen) (hl : l.length ≤ 1000000) :
    Calls Tryz.prog 58 #[.pointer (some ⟨wb, 0, none⟩), .string from_] w fun e w' => ∃ v ks G, e = .returned v ∧ Seg G w' v (ks.drop (below ks from_)) ∧ Rises ks ∧ ks.Perm (l.map (·.1)) ∧ Keeps (fun _ => False) w w' ∧ (∀ k ∈ G, w.heap.size < k ∧ k < w'.heap.size) := by
  have hnd := hm.nodup
  obtain ⟨D, hD1, hD2, hD3⟩ := hm.owns hk (by unfold maxLen; omega)
  have hsrt := fun W : World => True
  have hSK := Tryz.slices_Sorted_keys_76_93 mb l.length D _ w hD1 (by rw [hD3]; unfold maxLen; omega) (by rw [hD3]; omega)
  have HD2 : Hid ((strKeys D).Perm (l.map (fun p => p.1.data.toList))) := hD2
  have HND : Hid ((l.map (·.1)).Nodup) := hnd
  have HL : Hid (l.length ≤ 1000000) := hl
  clear hD1 hD2 hD3 hnd hm hk hl hsrt
  refine (callsIn_wide (n := 6)).1 ?_
  have hfK : Fence.wide.fn 93 := trivial
  have hfS : Fence.wide.fn 76 := trivial
  have hfB : Fence.wide.fn 92 := trivial
  refine callsIn_of_wp Tryz.func58 rfl trivial ?_ rfl
  simp only [Tryz.ntmps58, List.size_toArray, List.length_cons, List.length_nil, Nat.reduceAdd, Nat.reduceSub, Array.replicate_succ, Array.replicate_zero, List.push_toArray, List.append_toArray, List.nil_append, List.cons_append]
  gi_wp2_with (first
    | (gi_at_call 93; go_must (refine (Tryz.maps_Keys_93 _ _).mono ?_; rintro e w' ⟨rfl, rfl⟩))
    | (gi_at_call 76; go_must (refine hSK.mono ?_; rintro e w' ⟨v, ss, rfl, hS, hrow, hnil, hb⟩)))
  have hks : Rises (asKeys ss) := asKeys_rises ((hS.trans HD2.out).nodup_iff.2 (by
    have := HND.out
    have e : l.map (fun p => p.1.data.toList) = (l.map (·.1)).map (fun k => k.data.toList) := by rw [List.map_map]; rfl
    rw [e]
    exact nodup_map_inj (fun _ _ h => data_inj h) this))
  have hperm : (asKeys ss).Perm (l.map (·.1)) := asKeys_perm (by
    have := hS.trans HD2.out
    rwa [show l.map (fun p => p.1.data.toList) = (l.map (·.1)).map (fun k => k.data.toList) from by rw [List.map_map]; rfl] at this)
  have hlen : (asKeys ss).length = ss.length := by simp [asKeys]
  have hR : Row w' 9 1 v (asKeys ss).length ((asKeys ss).map Value.string) := by
    rw [hlen]
    have := row_of_owns hrow
    have e : (asKeys ss).map Value.string = (ss.mergeSort (fun x y => decide (x ≤ y))).map encStr := by simp [asKeys, Function.comp_def]
    rw [e]
    exact this
  have hsl : ss.length = l.length := by have := (hS.trans HD2.out).length_eq; simpa using this
  have hB := search_keys v (asKeys ss) from_ w' hR hks (by rw [hlen, hsl]; have := HL.out; omega)
  have hble := below_le (asKeys ss) from_
  have hkk : Keeps (fun _ => False) w w' := ((Keeps.refl _ w).al _).tr (Keeps.below hb) (fun _ h => h)
  generalize memB (asKeys ss) from_ = mb1 at hB
  generalize asKeys ss = ks at *
  have HW : Hid (∀ k, v.ownBlock = some k → w.heap.size < k) := fun k hk => by have := (hrow.lt k hk).1; simp at this; omega
  clear hSK hS hrow hnil hb hsl hlen
  have HR : Hid (Row w' 9 1 v ks.length (ks.map Value.string)) := hR
  have HK : Hid (Rises ks) := hks
  have HP : Hid (ks.Perm (l.map (·.1))) := hperm
  have HKK : Hid (Keeps (fun _ => False) w w') := hkk
  rcases hR.shape with ⟨rfl, h0⟩ | ⟨g, cap, rfl, hcap1, hcap2⟩
  · have h0' : ks = [] := List.eq_nil_of_length_eq_zero h0
    have hb1 : below ks from_ = 0 := by rw [h0']; rfl
    rw [hb1] at hB
    have H0 := hid h0'
    clear hR hks hperm hkk hble hb1 h0'
    gi_wp2_with (gi_at_call 92; go_must (refine (callsIn_wide.2 hB).mono ?_; rintro e w2 ⟨rfl, hk2⟩))
    go_ret
    exact ⟨_, ks, [], rfl, seg_none (by rw [H0.out]; rfl), HK.out, HP.out, HKK.out.tr hk2 (fun _ h => h), fun k hk => (by cases hk)⟩
  · clear hR hks hperm hkk
    have hcm : cap ≤ maxLen := hcap2
    unfold maxLen at hcap2
    have hgw : w.heap.size < g ∧ g < w'.heap.size := ⟨HW.out g rfl, HR.out.lt rfl⟩
    generalize hbe : below ks from_ = at_ at *
    have HBE := hid hbe
    clear hbe
    obtain ⟨n, hn⟩ : ∃ n, n = ks.length := ⟨_, rfl⟩
    rw [← hn] at hB HR hble hcap1
    have HN := hid hn
    rw [← hn]
    clear hn
    by_cases hat : at_ = cap
    · have hnc : n = cap := by omega
      subst hat
      subst hnc
      gi_wp2_with (gi_at_call 92; go_must (refine (callsIn_wide.2 hB).mono ?_; rintro e w2 ⟨rfl, hk2⟩))
      go_ret
      exact ⟨_, ks, [], rfl, seg_none (by rw [HBE.out, HN.out]; simp), HK.out, HP.out, HKK.out.tr hk2 (fun _ h => h), fun k hk => (by cases hk)⟩
    · have hlt : at_ < cap := by omega
      gi_wp2_with (gi_at_call 92; go_must (refine (callsIn_wide.2 hB).mono ?_; rintro e w2 ⟨rfl, hk2⟩))
      go_ret
      refine ⟨_, ks, [g], rfl, ?_, HK.out, HP.out, HKK.out.tr hk2 (fun _ h => h), fun k hk => ?_⟩
      · rw [HBE.out]
        exact seg_drop (HR.out.kept hk2 (fun _ _ h => h)) HN.out hble (by omega) (by omega) (by simp)
      · have e : k = g := by simpa using hk
        rw [e]
        exact ⟨hgw.1, Nat.lt_of_lt_of_le hgw.2 hk2.size⟩

end Go.Proofs.YtpagenipflmlfaaGreatDoor

/- A copying: what it has to tell, pure. -/

namespace Go.Proofs.YtpagenipflmlfaaGreatDoor

open Go.RowKit Go.Shelf

theorem Made.from {α : Type} {e : TypeId} {size : Nat} {f : α → List Value} {w w0 W : World} {v : Value} {l : List α} (h : Made e size f w0 W v l) (hk : Keeps (fun _ => False) w w0) : Made e size f w W v l :=
  ⟨h.row, fun g hg => Nat.le_trans hk.size (h.own g hg), hk.tr h.keep (fun _ h => h)⟩

/-- does a version of the state at which it ends belong in its stream? -/
def tellsB (x : Cop) (v : Ver) : Bool := if x.full = true then !v.gone else decide (x.from' < v.state)

def tellV (x : Cop) (k : ByteArray) : Option Ver → Option RecB
  | some v => if tellsB x v = true then some ⟨k, v.value, v.gone⟩ else none
  | none => none

def tellOf (x : Cop) (vers : ByteArray → List Ver) (k : ByteArray) : Option RecB := tellV x k (atVer (vers k) x.to)

/-- all that it has to tell yet -/
def tellL (keys : List ByteArray) (vers : ByteArray → List Ver) (x : Cop) : List RecB := (keys.drop (below keys x.next)).filterMap (tellOf x vers)

theorem tellL_len (keys : List ByteArray) (vers : ByteArray → List Ver) (x : Cop) : (tellL keys vers x).length ≤ keys.length :=
  Nat.le_trans (List.length_filterMap_le _ _) (by rw [List.length_drop]; omega)

theorem take_filterMap_snoc {α β : Type} {f : α → Option β} (l : List α) {k : Nat} (hk : k < l.length) : (l.take (k + 1)).filterMap f = (l.take k).filterMap f ++ (f l[k]).toList := by
  rw [List.take_succ_eq_append_getElem hk, List.filterMap_append]
  rfl

/-- a list that is full so far is full at its end -/
theorem take_filterMap_full {α β : Type} {f : α → Option β} (l : List α) {k m : Nat} (h : ((l.take k).filterMap f).length = m) : (l.take k).filterMap f = (l.filterMap f).take m := by
  conv => rhs; rw [← List.take_append_drop k l, List.filterMap_append]
  rw [List.take_append_of_le_length (by omega), ← h, List.take_length]

end Go.Proofs.YtpagenipflmlfaaGreatDoor

/- A copying: tells, toTell. -/

namespace Go.Proofs.YtpagenipflmlfaaGreatDoor

open Go.RowKit Go.Shelf

attribute [local go_sem] Oper.semAt_some

theorem at_any (R : Rep) (key : ByteArray) (t : Int) (w : World) (h : StoreAt w R) (g : Good R) :
    Calls Tryz.prog 86 #[.pointer (some ⟨R.sb, 7, none⟩), .string key, .int .i64 t] w fun e w' => e = .returned (.tuple #[((atVer (versOf R.hist key) t).getD Ver.zero).val, .bool (atVer (versOf R.hist key) t).isSome]) ∧ Keeps (fun _ => False) w w' := by
  obtain ⟨g1, g2⟩ := g.vers key
  exact at_core R.sb key t R.vm _ _ (versOf R.hist key) w (h.cell 8) h.past.histMap rfl (h.past.slice key) g1 g2

set_option maxRecDepth 100000 in
set_option maxHeartbeats 400000 in
theorem tells_any (x : Cop) (v : Ver) (w : World) :
    Calls Tryz.prog 129 #[x.val, v.val] w fun e w' => e = .returned (.bool (tellsB x v)) ∧ Keeps (fun _ => False) w w' := by
  obtain ⟨xf, xa, xt, xh, xn, xs, xc⟩ := x
  obtain ⟨vs, vv, vg⟩ := v
  unfold Cop.val Ver.val tellsB
  have hnot : ∀ (x : Bool) (w : World), (Op.unary .not (.bool x)).run Tryz.prog w = .ok (.bool (!x)) w := fun _ _ => rfl
  cases xf with
  | true =>
    go_enter Tryz.func129, Tryz.ntmps129
    go_wp2
    go_ret
    exact ⟨rfl, ((Keeps.refl _ w).al _).al _⟩
  | false =>
    go_enter Tryz.func129, Tryz.ntmps129
    go_wp2
    go_ret
    exact ⟨by simp, ((Keeps.refl _ w).al _).al _⟩

/-- a version just laid -/
structure VNew (wr W : World) (p : Nat) (v : Ver) : Prop where
  cells : W.heap[p]? = some (.cells #[.int .i64 v.state, .string v.value, .bool v.gone] 107 (0, 0))
  keep : Keeps (fun _ => False) wr W
  ge : wr.heap.size ≤ p

theorem vNew1 {wr w4 : World} (v : Ver) (k : Keeps (fun _ => False) wr.drew w4) : VNew wr (w4.alloc (.cells #[.int .i64 v.state, .string v.value, .bool v.gone] 107)) w4.heap.size v :=
  ⟨heap_new w4 _, (((Keeps.refl (fun _ => False) wr).dr).tr k (fun _ h => h)).al _, k.size⟩

theorem vNew2 {wr w4 : World} {x y z : Value} (v : Ver) (k : Keeps (fun _ => False) (wr.alloc (.cells #[x, y, z] 107)).drew w4) : VNew wr (((w4.setCell ⟨wr.heap.size, 0, none⟩ (.int .i64 v.state)).setCell ⟨wr.heap.size, 1, none⟩ (.string v.value)).setCell ⟨wr.heap.size, 2, none⟩ (.bool v.gone)) wr.heap.size v := by
  have h4 : w4.heap[wr.heap.size]? = some (.cells #[x, y, z] 107 (0, 0)) := (k.block wr.heap.size (by show _ < (wr.alloc _).heap.size; simp) (fun h => h)).trans (heap_new wr _)
  have e0 := heap_setCell_same (i := 0) h4 (.int .i64 v.state)
  have e1 := heap_setCell_same (i := 1) e0 (.string v.value)
  have e2 := heap_setCell_same (i := 2) e1 (.bool v.gone)
  refine ⟨by simpa using e2, (((((Keeps.refl (fun _ => False) wr).al _).dr).tr k (fun _ h => h)).st (p := ⟨wr.heap.size, 0, none⟩) (.inl (Nat.le_refl _)) _ |>.st (p := ⟨wr.heap.size, 1, none⟩) (.inl (Nat.le_refl _)) _).st (p := ⟨wr.heap.size, 2, none⟩) (.inl (Nat.le_refl _)) _, Nat.le_refl _⟩

/-- keys, somewhere in a block -/
def KeysIn (w : World) (oa : Option Addr) (ks : List ByteArray) : Prop := ∀ i (h : i < ks.length), ∃ g off, oa = some ⟨g, off, none⟩ ∧ w.cell? ⟨g, off + i, none⟩ = some (.string ks[i])

theorem KeysIn.kept {w w' : World} {oa : Option Addr} {ks : List ByteArray} (h : KeysIn w oa ks) (hk : Keeps (fun _ => False) w w') : KeysIn w' oa ks := fun i hi => by
  obtain ⟨g, off, e, h1⟩ := h i hi
  exact ⟨g, off, e, hk.cell h1 (fun h => h)⟩

theorem KeysIn.ofSeg {G : List Nat} {w : World} {v : Value} {ks : List ByteArray} (h : Seg G w v ks) : ∃ oa cap, v = .slice oa ks.length cap ∧ KeysIn w oa ks := by
  rcases h with ⟨rfl, oa, cap, rfl⟩ | ⟨g, off, cap, -, rfl, -, -, h⟩
  · exact ⟨oa, cap, rfl, fun i hi => absurd hi (Nat.not_lt_zero _)⟩
  · exact ⟨_, cap, rfl, fun i hi => ⟨g, off, rfl, h i hi⟩⟩

set_option maxRecDepth 100000 in
set_option maxHeartbeats 4000000 in
theorem toTell_any (R : Rep) (x : Cop) (most : Nat) (w : World) (h : StoreAt w R) (g : Good R) (hr : Rises R.keys) (hl : R.keys.length ≤ 200000000000) (hm : most ≤ 1000000) :
    Calls Tryz.prog 95 #[.pointer (some ⟨R.sb, 0, none⟩), x.val, .int .i64 (most : Nat)] w fun e w' => ∃ v, e = .returned v ∧ Made 147 3 RecB.cells w w' v ((tellL R.keys (versOf R.hist) x).take most) := by
  obtain ⟨i0, hi, hz0, hz1, hz2⟩ := info_parts Tryz.infoRec
  obtain ⟨xf, xa, xt, xh, xn, xs, xc⟩ := x
  have HTE : Hid (∀ W v, Calls Tryz.prog 129 #[.agg #[.bool xf, .int .i64 xa, .int .i64 xt, .bool xh, .string xn, .int .u32 xs, .int .i64 xc], .agg #[.int .i64 v.state, .string v.value, .bool v.gone]] W fun e w' => e = .returned (.bool (tellsB ⟨xf, xa, xt, xh, xn, xs, xc⟩ v)) ∧ Keeps (fun _ => False) W w') := fun W v => tells_any ⟨xf, xa, xt, xh, xn, xs, xc⟩ v W
  unfold Cop.val
  simp only
  obtain ⟨w1, hw1⟩ : ∃ w1, w1 = w.alloc (.cells #[.bool xf, .int .i64 xa, .int .i64 xt, .bool xh, .string xn, .int .u32 xs, .int .i64 xc] 129) := ⟨_, rfl⟩
  have k1 : Keeps (fun _ => False) w w1 := by rw [hw1]; exact Keeps.alloc _ _ _
  have HX1 : Hid (w1.heap[w.heap.size]? = some (.cells #[.bool xf, .int .i64 xa, .int .i64 xt, .bool xh, .string xn, .int .u32 xs, .int .i64 xc] 129 (0, 0))) := by show _ = _; rw [hw1]; exact heap_new w _
  have HK1 := hid k1
  have HST := hid h
  have HG := hid g
  have HKY := hid (fun W (hW : Keeps (fun _ => False) w W) => pastKeys_from R xn W (h.kept hW (fun _ _ h => h)) hr (by omega))
  have hsb : R.sb < w.heap.size := h.lt
  obtain ⟨ks, hks⟩ : ∃ ks, ks = R.keys.drop (below R.keys xn) := ⟨_, rfl⟩
  rw [← hks] at HKY
  have hkl : ks.length ≤ 200000000000 := by rw [hks, List.length_drop]; omega
  obtain ⟨f, hf⟩ : ∃ f, f = tellOf ⟨xf, xa, xt, xh, xn, xs, xc⟩ (versOf R.hist) := ⟨_, rfl⟩
  have HRES : Hid (tellL R.keys (versOf R.hist) ⟨xf, xa, xt, xh, xn, xs, xc⟩ = ks.filterMap f) := by show _ = _; rw [hks, hf]; rfl
  have HF := hid hf
  have HMO := hid hm
  have HKL := hid hkl
  have hmI : (most : Int) ≤ 1000000 := by omega
  have hklI : (ks.length : Int) ≤ 200000000000 := by omega
  have HW1 := hid hw1
  rw [HRES.out]
  clear h g hr hl hm hks hf k1 hw1 hkl
  go_enter Tryz.func95, Tryz.ntmps95
  go_wp2_with fail
  rw [← HW1.out]
  have x4 := cell_of_heap HX1.out 4
  have x2 := cell_of_heap HX1.out 2
  simp at x4 x2
  go_region_held3 (fun W => W.cell? ⟨w.heap.size, 4, none⟩ = some (.string xn)) (go_keep) (first | (go_at_call 57; refine (HKY.out _ (HK1.out.dr)).mono ?_; rintro e w2 ⟨v2, rfl, hsg, k2⟩; obtain ⟨oa, ca, rfl, hki⟩ := KeysIn.ofSeg hsg; have HKI := hid hki; have HK2 := hid ((Keeps.drew (fun _ => False) w1).tr k2 (fun _ h => h)); have z4 : w2.cell? ⟨w.heap.size, 4, none⟩ = some (.string xn) := HK2.out.cell x4 (fun h => h); clear hsg k2 hki))
  clear HKY
  have HK2' : Hid (Keeps (fun _ => False) w w2) := HK1.out.tr HK2.out (fun _ h => h)
  go_wp2_with fail
  go_loopw [7, 19] (fun v i wr => ∃ k : Nat, k ≤ ks.length ∧ i = .int .i64 (k : Nat) ∧ Made 147 3 RecB.cells w2 wr v ((ks.take k).filterMap f) ∧ ((ks.take k).filterMap f).length ≤ most) (fun _ i _ => ks.length - (intOf i).toNat)
  case atStart => exact ⟨0, Nat.zero_le _, rfl, Made.nil (Keeps.refl _ _), Nat.zero_le _⟩
  case round =>
    obtain ⟨k, hk, rfl, hM, hmo⟩ := hrel
    have hkI : (k : Int) ≤ ks.length := by omega
    obtain ⟨ob, cb, rfl, -, -⟩ := hM.row.form
    have HM := hid hM
    have hX := ((HK2.out.tr hM.keep (fun _ h => h)).block _ (Array.getElem?_eq_some_iff.1 HX1.out).1 (fun h => h)).trans HX1.out
    have HX := hid hX
    have HKR : Hid (Keeps (fun _ => False) w wr) := HK2'.out.tr hM.keep (fun _ h => h)
    have y2 := cell_of_heap hX 2
    simp at y2
    by_cases hkl : k < ks.length
    · have hki := (HKI.out.kept hM.keep) k hkl
      have hkey : f ks[k] = tellOf ⟨xf, xa, xt, xh, xn, xs, xc⟩ (versOf R.hist) ks[k] := by rw [HF.out]
      have HTK := hid (take_filterMap_snoc (f := f) ks hkl)
      have HAT := hid (fun W (hW : Keeps (fun _ => False) w W) => at_any R ks[k] xt W (HST.out.kept hW (fun _ _ h => h)) HG.out)
      have hklI : (k : Int) < ks.length := by omega
      have HK := hid hkl
      have HMS := hid hmo
      generalize ks[k] = key at *
      obtain ⟨g, off, rfl, r0⟩ := hki
      by_cases hfull : ((ks.take k).filterMap f).length = most
      · have HFU := hid (take_filterMap_full (f := f) ks hfull)
        have hfB : ((((ks.take k).filterMap f).length : Int) == (most : Int)) = true := by rw [beq_iff_eq]; omega
        have hfN : (((ks.take k).filterMap f).length == most) = true := by rw [beq_iff_eq]; exact hfull
        clear hM hk hX hfull hmo
        generalize (ks.take k).filterMap f = al at *
        go_wp2
        go_ret
        exact ⟨_, rfl, by rw [← HFU.out]; exact HM.out.from HK2'.out⟩
      · have hlt : ((ks.take k).filterMap f).length < most := by omega
        have hfB : ((((ks.take k).filterMap f).length : Int) == (most : Int)) = false := by rw [beq_eq_false_iff_ne]; omega
        have hfI : ¬ ((((ks.take k).filterMap f).length : Int) = most) := by omega
        clear hM hk hX hfull hmo
        generalize (ks.take k).filterMap f = al at *
        obtain ⟨ov, hov⟩ : ∃ ov, ov = atVer (versOf R.hist key) xt := ⟨_, rfl⟩
        rw [← hov] at HAT
        have hfk : f key = tellV ⟨xf, xa, xt, xh, xn, xs, xc⟩ key ov := by
          rw [hkey, hov]
          rfl
        have HFK := hid hfk
        have HAL : Hid (al.length < most) := hlt
        have halI : (al.length : Int) ≤ 1000000 := by have := HMO.out; omega
        have y2' := (Keeps.alloc (fun _ => False) wr (.cells #[.int .i64 0, .string ⟨#[]⟩, .bool false] 107)).cell y2 (fun h => h)
        clear hkey hfk hlt hov hkl
        cases ov with
        | none =>
          simp only [Option.getD_none, Option.isSome_none, Ver.val, Ver.zero] at HAT
          go_wp2_with fail
          go_region_with (go_at_call 86; refine (HAT.out _ (by first | exact HKR.out.dr | exact (HKR.out.al _).dr)).mono ?_; rintro e w4 ⟨rfl, k4⟩; (try (have n4 := (k4.block wr.heap.size (by simp) (fun h => h)).trans (heap_new wr _); have m0 := cell_of_heap n4 0; have m1 := cell_of_heap n4 1; have m2 := cell_of_heap n4 2; have q0 := frozen_of_heap n4 0; have q1 := frozen_of_heap n4 1; have q2 := frozen_of_heap n4 2; simp at m0 m1 m2; clear n4)))
          all_goals
            simp only [List.getElem_toArray, List.getElem_cons_succ, List.getElem_cons_zero, Act.put, List.setIfInBounds_toArray, List.set_cons_succ, List.set_cons_zero]
            go_wp2
            refine ⟨⟨k + 1, HK.out, by go_num, ?_, ?_⟩, by simp only [intOf]; have := HK.out; omega⟩
            · rw [HTK.out, HFK.out]
              simp only [tellV, Option.toList_none, List.append_nil]
              exact HM.out.kept (by first | exact (vNew1 ⟨0, ByteArray.empty, false⟩ k4).keep | exact (vNew2 ⟨0, ByteArray.empty, false⟩ k4).keep)
            · rw [HTK.out, HFK.out]
              simp only [tellV, Option.toList_none, List.append_nil]
              exact Nat.le_of_lt HAL.out
        | some v =>
          simp only [Option.getD_some, Option.isSome_some, Ver.val] at HAT
          go_wp2_with fail
          go_region_with (go_at_call 86; refine (HAT.out _ (by first | exact HKR.out.dr | exact (HKR.out.al _).dr)).mono ?_; rintro e w4 ⟨rfl, k4⟩; (try (have n4 := (k4.block wr.heap.size (by simp) (fun h => h)).trans (heap_new wr _); have m0 := cell_of_heap n4 0; have m1 := cell_of_heap n4 1; have m2 := cell_of_heap n4 2; have q0 := frozen_of_heap n4 0; have q1 := frozen_of_heap n4 1; have q2 := frozen_of_heap n4 2; simp at m0 m1 m2; clear n4)))
          all_goals
            simp only [List.getElem_toArray, List.getElem_cons_succ, List.getElem_cons_zero, Act.put, List.setIfInBounds_toArray, List.set_cons_succ, List.set_cons_zero]
            first
              | (have HNW := hid (vNew1 (wr := wr) v k4); generalize w4.alloc (.cells #[.int .i64 v.state, .string v.value, .bool v.gone] 107) = W5 at HNW ⊢; generalize w4.heap.size = pb at HNW ⊢)
              | (have HNW := hid (vNew2 (wr := wr) v k4); generalize ((w4.setCell ⟨wr.heap.size, 0, none⟩ (.int .i64 v.state)).setCell ⟨wr.heap.size, 1, none⟩ (.string v.value)).setCell ⟨wr.heap.size, 2, none⟩ (.bool v.gone) = W5 at HNW ⊢; generalize wr.heap.size = pb at HNW ⊢)
            have hX5 := (HNW.out.keep.block _ (Array.getElem?_eq_some_iff.1 HX.out).1 (fun h => h)).trans HX.out
            have z0 := cell_of_heap hX5 0
            have z1 := cell_of_heap hX5 1
            have z2 := cell_of_heap hX5 2
            have z3 := cell_of_heap hX5 3
            have z4 := cell_of_heap hX5 4
            have z5 := cell_of_heap hX5 5
            have z6 := cell_of_heap hX5 6
            have p0 := cell_of_heap HNW.out.cells 0
            have p1 := cell_of_heap HNW.out.cells 1
            have p2 := cell_of_heap HNW.out.cells 2
            simp at z0 z1 z2 z3 z4 z5 z6 p0 p1 p2
            clear hX5 k4
            go_wp2_with fail
            refine (HTE.out _ v).mono ?_
            rintro e w6 ⟨rfl, k6⟩
            have HK6 := hid (HNW.out.keep.tr k6 (fun _ h => h))
            have q1 := k6.cell (p := ⟨pb, 1, none⟩) p1 (fun h => h)
            have q2 := k6.cell (p := ⟨pb, 2, none⟩) p2 (fun h => h)
            clear z0 z1 z2 z3 z4 z5 z6 p0 p1 p2 k6
            cases htl : tellsB ⟨xf, xa, xt, xh, xn, xs, xc⟩ v with
            | false =>
              have HFN : Hid (f key = none) := by show _ = _; rw [HFK.out]; simp only [tellV, htl]; rfl
              clear htl
              go_wp2
              refine ⟨⟨k + 1, HK.out, by go_num, ?_, ?_⟩, by simp only [intOf]; have := HK.out; omega⟩
              · rw [HTK.out, HFN.out]
                simp only [Option.toList_none, List.append_nil]
                exact HM.out.kept HK6.out
              · rw [HTK.out, HFN.out]
                simp only [Option.toList_none, List.append_nil]
                exact Nat.le_of_lt HAL.out
            | true =>
              have HFS : Hid (f key = some ⟨key, v.value, v.gone⟩) := by show _ = _; rw [HFK.out]; simp only [tellV, htl]; rfl
              have HM6 := hid (HM.out.kept HK6.out)
              clear htl
              go_wp2_with (first | (at_builtin; go_must (refine wpList_append_row _ rfl _ _ 82 rfl 147 i0 _ 3 40 Tryz.underlying82 hi hz0 hz1 hz2 rfl (.slice ob al.length cb) al.length _ rfl (HM6.out.row.kept (Keeps.alloc (fun _ => False) _ _) (fun _ _ h => h)) ⟨w6.heap.size, 0, none⟩ 1 1 [.string key, .string v.value, .bool v.gone] rfl rfl (news_arr _ #[.string key, .string v.value, .bool v.gone] _) (by simp [Value.oneCell']) (by have h1 := HAL.out; have h2 := HMO.out; unfold maxLen; omega) (by have h1 := HAL.out; have h2 := HMO.out; omega) ?_; intro v' w9 hown' hgrow _ hat; obtain ⟨g', cap', rfl⟩ := hown'.succ; have HN9 := hid (HM6.out.push (a := ⟨key, v.value, v.gone⟩) (Keeps.alloc (fun _ => False) _ _) hown' hgrow hat); clear hown' hgrow hat)) | fail)
              refine ⟨⟨k + 1, HK.out, by go_num, ?_, ?_⟩, by simp only [intOf]; have := HK.out; omega⟩
              · rw [HTK.out, HFS.out]
                exact HN9.out
              · rw [HTK.out, HFS.out]
                simp only [Option.toList_some, List.length_append, List.length_singleton]
                exact HAL.out
    · have hkn : ¬ ((k : Int) < ks.length) := by omega
      have e : ks.take k = ks := List.take_of_length_le (by omega)
      rw [e] at HM hmo
      have HFU : Hid ((ks.filterMap f).take most = ks.filterMap f) := List.take_of_length_le hmo
      clear hM hk hkl hX
      go_wp2
      go_ret
      refine ⟨_, rfl, ?_⟩
      rw [HFU.out]
      exact HM.out.from HK2'.out

end Go.Proofs.YtpagenipflmlfaaGreatDoor

/- Scan of a store, from outside. -/

namespace Go.Proofs.YtpagenipflmlfaaGreatDoor

open Go.RowKit Go.Shelf

/-- Two rising lists with the same members are one. -/
theorem rises_ext : ∀ {xs ys : List ByteArray}, Rises xs → Rises ys → (∀ k, k ∈ xs ↔ k ∈ ys) → xs = ys
  | [], [], _, _, _ => rfl
  | [], y :: ys, _, _, h => by have := (h y).2 (by simp); cases this
  | x :: xs, [], _, _, h => by have := (h x).1 (by simp); cases this
  | x :: xs, y :: ys, hx, hy, h => by
    obtain ⟨hx1, hx2⟩ := rises_cons hx
    obtain ⟨hy1, hy2⟩ := rises_cons hy
    have e : x = y := by
      rcases List.mem_cons.1 ((h x).1 (by simp)) with e | h1
      · exact e
      · rcases List.mem_cons.1 ((h y).2 (by simp)) with e | h2
        · exact e.symm
        · have := ltK_trans (hy1 x h1) (hx1 y h2)
          rw [ltK_irrefl] at this
          cases this
    subst e
    have hnx : ∀ l : List ByteArray, (∀ z ∈ l, ltK x z = true) → x ∉ l := fun l hl hm => by
      have := hl x hm
      rw [ltK_irrefl] at this
      cases this
    congr 1
    refine rises_ext hx2 hy2 (fun k => ⟨fun hk => ?_, fun hk => ?_⟩)
    · rcases List.mem_cons.1 ((h k).1 (List.mem_cons_of_mem _ hk)) with e | h1
      · exact absurd (e ▸ hk) (hnx xs hx1)
      · exact h1
    · rcases List.mem_cons.1 ((h k).2 (List.mem_cons_of_mem _ hk)) with e | h1
      · exact absurd (e ▸ hk) (hnx ys hy1)
      · exact h1

theorem filterMap_some {β : Type} (f : ByteArray → Option β) : ∀ xs : List ByteArray, (xs.filter (fun k => (f k).isSome)).filterMap f = xs.filterMap f
  | [] => rfl
  | x :: xs => by
    cases h : f x with
    | none => simp [h, filterMap_some f xs]
    | some y => simp [h, filterMap_some f xs]

theorem filterMap_rises {β : Type} {f : ByteArray → Option β} {xs ys : List ByteArray} (hx : Rises xs) (hy : Rises ys) (h1 : ∀ k, (f k).isSome = true → k ∈ xs) (h2 : ∀ k, (f k).isSome = true → k ∈ ys) : xs.filterMap f = ys.filterMap f := by
  rw [← filterMap_some f xs, ← filterMap_some f ys]
  congr 1
  refine rises_ext (hx.sublist List.filter_sublist) (hy.sublist List.filter_sublist) (fun k => ?_)
  simp only [List.mem_filter]
  exact ⟨fun h => ⟨h2 k h.2, h.2⟩, fun h => ⟨h1 k h.2, h.2⟩⟩

end Go.Proofs.YtpagenipflmlfaaGreatDoor

/- needless: how many of a key's first versions no state from a least one on needs. -/

namespace Go.Proofs.YtpagenipflmlfaaGreatDoor

open Go.RowKit Go.Shelf

/-- how many of a key's first versions are not needed -/
def needN (vs : List Ver) (t : Int) : Nat :=
  match atVer vs t with
  | some v => if v.gone = true then upN vs t else upN vs t - 1
  | none => 0

set_option maxRecDepth 100000 in
set_option maxHeartbeats 400000 in
theorem needless_any (sl : Value) (vs : List Ver) (t : Int) (w : World) (h : Row w 107 3 sl vs.length (vs.flatMap Ver.cells)) (hs : Rising vs) (hl : vs.length ≤ 1000000000000) :
    Calls Tryz.prog 102 #[sl, .int .i64 t] w fun e w' => e = .returned (.int .i64 (needN vs t : Nat)) ∧ Keeps (fun _ => False) w w' := by
  have hule := upN_le vs t
  rcases h.shape with ⟨rfl, hn⟩ | ⟨g, cap, rfl, hc1, hc2⟩
  · have e : vs = [] := List.eq_nil_of_length_eq_zero hn
    subst e
    have HU := hid (upTo_nil t w)
    have e : needN [] t = 0 := by simp [needN, atVer, upN]
    rw [e]
    clear h hs hl hule hn e
    go_enter Tryz.func102, Tryz.ntmps102
    go_wp2_with (go_at_call 124; go_must (refine (HU.out).mono ?_; rintro e w1 ⟨rfl, k1⟩))
    go_ret
    exact ⟨rfl, k1⟩
  · have HU := hid (upTo_some g cap vs t w h hs hl)
    by_cases h0 : upN vs t = 0
    · have e : needN vs t = 0 := by simp [needN, atVer, h0]
      rw [e]
      rw [h0] at HU
      clear h hs hule h0 e
      go_enter Tryz.func102, Tryz.ntmps102
      go_wp2_with (go_at_call 124; go_must (refine (HU.out).mono ?_; rintro e w1 ⟨rfl, k1⟩))
      go_ret
      exact ⟨rfl, k1⟩
    · obtain ⟨u, hu⟩ : ∃ u, upN vs t = u + 1 := ⟨upN vs t - 1, by omega⟩
      have hul : u < vs.length := by omega
      have ea : atVer vs t = some vs[u] := by
        unfold atVer
        rw [if_neg h0, hu]
        simp [hul]
      have hv := h.ver u hul
      have en : needN vs t = if vs[u].gone = true then u + 1 else u := by
        unfold needN
        rw [ea]
        simp only [hu, Nat.add_sub_cancel]
      rw [en]
      rw [hu] at HU
      have e1 : ((u + 1 : Nat) : Int) = (u : Int) + 1 := by omega
      rw [e1] at HU
      cases hg : vs[u].gone with
      | true =>
        rw [hg] at hv
        obtain ⟨c0, c1, c2⟩ := hv
        simp only [if_true, e1]
        clear hs hule h0 ea en hg hu h c0 c1 e1
        go_enter Tryz.func102, Tryz.ntmps102
        go_wp2_with (go_at_call 124; go_must (refine (HU.out).mono ?_; rintro e w1 ⟨rfl, k1⟩; have d2 := k1.cell c2 (fun h => h)))
        go_ret
        exact ⟨rfl, k1⟩
      | false =>
        rw [hg] at hv
        obtain ⟨c0, c1, c2⟩ := hv
        simp only [Bool.false_eq_true, if_false]
        clear hs hule h0 ea en hg hu h c0 c1 e1
        go_enter Tryz.func102, Tryz.ntmps102
        go_wp2_with (go_at_call 124; go_must (refine (HU.out).mono ?_; rintro e w1 ⟨rfl, k1⟩; have d2 := k1.cell c2 (fun h => h)))
        go_ret
        exact ⟨ret_int (by omega), k1⟩

end Go.Proofs.YtpagenipflmlfaaGreatDoor
