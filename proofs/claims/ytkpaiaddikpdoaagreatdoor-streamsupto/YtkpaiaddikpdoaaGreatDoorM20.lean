import Derived.Test.YtkpaiaddikpdoaaGreatDoorM19

/- annalsref: Decode, whole. -/

namespace Go.Proofs.YtkpaiaddikpdoaaGreatDoor

open Go.RowKit Go.Shelf

theorem refDecode_any (text : ByteArray) (w : World) (hts : text.size ≤ 1000000000) :
    Calls Tryz.prog 13 #[.string text] w (DecPost (readO text.data.toList) w) := by
  have hlen : text.data.toList.length = text.size := rfl
  unfold readO
  by_cases h4 : text.size < 4
  · rw [if_pos (by rw [hlen]; exact h4)]
    exact refDecode_short text w h4
  · rw [if_neg (by rw [hlen]; exact h4)]
    by_cases he : text.data.toList.drop (text.data.toList.length - 4) = checkL (text.data.toList.take (text.data.toList.length - 4))
    · rw [if_pos he]
      exact refDecode_core text w (by omega) hts he
    · rw [if_neg he]
      exact refDecode_sum text w (by omega) (by omega) he

end Go.Proofs.YtkpaiaddikpdoaaGreatDoor

/- stream.Chain: its keys, sorted; Stream, what its loop keeps. -/

namespace Go.Proofs.YtkpaiaddikpdoaaGreatDoor

open Go.RowKit Go.Maps Go.Sort Go.Shelf

theorem mapV_keys (M : List (ByteArray × RecB)) : (mapV M).map (·.1) = M.map (·.1) := by
  unfold mapV
  rw [List.map_map]
  rfl

/-- slices.Sorted of maps.Keys of the chain's map -/
theorem keysR_any (mb : Nat) (M : List (ByteArray × RecB)) (w : World) (hm : MapAt Value.string w mb (mapV M)) (hk : ∀ p ∈ M, p.1.size ≤ maxLen) (hl : M.length ≤ 2000000000) :
    Calls Tryz.prog 50 #[.func (.func 72) #[] #[.pointer (some ⟨w.heap.size, 0, none⟩)]] (w.alloc (.cells #[.map (some mb)] 74)) fun e w' => ∃ v ks, e = .returned v ∧ Row w' 9 1 v ks.length (ks.map Value.string) ∧ Rises ks ∧ ks.Perm (M.map (·.1)) ∧ Keeps (fun _ => False) w w' := by
  have hnd := hm.nodup
  have hl' : (mapV M).length = M.length := List.length_map _
  obtain ⟨D, hD1, hD2, hD3⟩ := hm.owns (fun p hp => by
    obtain ⟨q, hq, rfl⟩ := List.mem_map.1 hp
    exact hk q hq) (by unfold maxLen; omega)
  refine (callsIn_wide.1 (Tryz.slices_Sorted_keys_50_51 mb (mapV M).length D _ w hD1 (by rw [hD3]; unfold maxLen; omega) (by rw [hD3]; omega))).mono ?_
  rintro e w' ⟨v, ss, rfl, hS, hrow, hnil, hb⟩
  have e1 : (mapV M).map (fun p => p.1.data.toList) = ((mapV M).map (·.1)).map (fun k => k.data.toList) := by rw [List.map_map]; rfl
  have hks : Rises (asKeys ss) := asKeys_rises ((hS.trans hD2).nodup_iff.2 (by
    rw [e1]
    exact nodup_map_inj (fun _ _ h => data_inj h) hnd))
  have hperm : (asKeys ss).Perm ((mapV M).map (·.1)) := asKeys_perm (by
    have := hS.trans hD2
    rwa [e1] at this)
  have hlen : (asKeys ss).length = ss.length := by simp [asKeys]
  refine ⟨v, asKeys ss, rfl, ?_, hks, by rw [← mapV_keys]; exact hperm, ((Keeps.refl _ w).al _).tr (Keeps.below hb) (fun _ h => h)⟩
  rw [hlen]
  have := row_of_owns hrow
  have e : (asKeys ss).map Value.string = (ss.mergeSort (fun x y => decide (x ≤ y))).map encStr := by simp [asKeys, Function.comp_def]
  rw [e]
  exact this

/-- between two keys -/
structure CsAt (w : World) (cb mb : Nat) (full : Bool) (a b : Nat) (M : List (ByteArray × RecB)) (xb : Nat) (v : Value) (l : List RecB) (wr : World) : Prop where
  ch : ChAt wr cb mb full a b M
  top : wr.heap[xb]? = some (.cells #[.bool full, .int .i64 (a : Nat), .int .i64 (b : Nat), v] 34 (0, 0))
  row : Row wr 31 3 v l.length (recCs l)
  own : ∀ g, v.ownBlock = some g → w.heap.size ≤ g
  res : ResZ wr w.heap.size
  keep : Keeps (fun _ => False) w wr
  xbw : w.heap.size < xb

theorem CsAt.quiet {w : World} {cb mb : Nat} {full : Bool} {a b : Nat} {M : List (ByteArray × RecB)} {xb : Nat} {v : Value} {l : List RecB} {wr wq : World} (h : CsAt w cb mb full a b M xb v l wr) (hk : Keeps (fun _ => False) wr wq) : CsAt w cb mb full a b M xb v l wq :=
  ⟨h.ch.kept hk (fun h => h) (fun h => h), (hk.block xb (Array.getElem?_eq_some_iff.1 h.top).1 (fun h => h)).trans h.top, h.row.kept hk (fun _ _ h => h), h.own, h.res.kept hk (fun h => h), h.keep.tr hk (fun _ h => h), h.xbw⟩

theorem CsAt.ne {w : World} {cb mb : Nat} {full : Bool} {a b : Nat} {M : List (ByteArray × RecB)} {xb : Nat} {v : Value} {l : List RecB} {wr : World} (h : CsAt w cb mb full a b M xb v l wr) : cb ≠ xb ∧ mb ≠ xb := by
  constructor
  · intro e
    exact TypeIs.ne (w := wr) (k := xb) (e := 34) (e' := 76) ⟨_, h.top⟩ (by decide) (e ▸ ⟨_, h.ch.top⟩)
  · intro e
    obtain ⟨es, clock, hb, -⟩ := h.ch.map
    rw [e, h.top] at hb
    cases hb

theorem CsAt.push {w : World} {cb mb : Nat} {full : Bool} {a b : Nat} {M : List (ByteArray × RecB)} {xb : Nat} {v v' : Value} {l : List RecB} {x : RecB} {wr W1 w4 : World} (h : CsAt w cb mb full a b M xb v l wr) (hW : Keeps (fun _ => False) wr W1) (hr : Row w4 31 3 v' (l.length + 1) (recCs l ++ x.cells)) (hg : W1.grownBy w4 v.ownBlock) (ho : v'.ownBlock = v.ownBlock ∨ v'.ownBlock = some W1.heap.size) :
    w4.heap[xb]? = some (.cells #[.bool full, .int .i64 (a : Nat), .int .i64 (b : Nat), v] 34 (0, 0)) ∧ CsAt w cb mb full a b M xb v' (l ++ [x]) (w4.setCell ⟨xb, 3, none⟩ v') := by
  have h0 := h.quiet hW
  have kg := Keeps.grown hg
  have hty : ∀ k, some k = v.ownBlock → TypeIs W1 k 31 := fun k e => h0.row.typeIs e.symm
  have h2 := h.xbw
  have hz := h0.keep.size
  have hne := h0.ne
  have top4 : w4.heap[xb]? = some (.cells #[.bool full, .int .i64 (a : Nat), .int .i64 (b : Nat), v] 34 (0, 0)) := (kg.block xb (Array.getElem?_eq_some_iff.1 h0.top).1 (fun e => (hty xb e).ne (e' := 34) (by decide) ⟨_, h0.top⟩)).trans h0.top
  have ks := Keeps.setCell w4 ⟨xb, 3, none⟩ v'
  refine ⟨top4, ?_⟩
  refine ⟨(h0.ch.kept kg (fun e => (Row.notCh h0.ch h0.row e.symm) (.inl rfl)) (fun e => (Row.notCh h0.ch h0.row e.symm) (.inr rfl))).kept ks (fun e => hne.1 e) (fun e => hne.2 e), (heap_setCell_same top4 _).trans (by simp), ?_, fun g hgv => ?_, ?_, ?_, h2⟩
  · have e : recCs (l ++ [x]) = recCs l ++ x.cells := by simp [recCs]
    rw [e, List.length_append, List.length_singleton]
    exact hr.kept ks (fun g hgv e => (hr.typeIs hgv).ne (e' := 34) (by decide) ((show g = xb from e) ▸ ⟨_, top4⟩))
  · rcases ho with e | e
    · exact h.own g (e ▸ hgv)
    · rw [hgv] at e
      have e' : g = W1.heap.size := by simpa using e
      omega
  · refine (h0.res.kept kg (fun e => (hty _ e).ne (e' := 34) (by decide) ⟨_, h0.res⟩)).kept ks (fun e => ?_)
    have e' : w.heap.size = xb := e
    omega
  · refine (h0.keep.trans kg (fun k hk e => ?_)).trans ks (fun k hk e => ?_)
    · have := h0.own k e.symm
      omega
    · have e' : k = xb := e
      omega

theorem results_cell_one {fn : Func} {p : Tmp} {ty : TypeId} (h : fn.results = #[.cell p ty]) (tmps : Array Value) (P : Program) (w : World) :
    (results fn tmps).run P w = ((asAddr (tmps.getD p undef)).run P w).andThen fun a w₁ => (loadVar ty a).run P w₁ := by
  simp only [results, h]
  simp [Sem.run_bind, Result.andThen]

/-- what Stream leaves -/
def CsPost (full : Bool) (a b : Nat) (M : List (ByteArray × RecB)) (w : World) (e : Ending) (w' : World) : Prop := ∃ ks l oa cap, e = .returned (.agg #[.bool full, .int .i64 (a : Nat), .int .i64 (b : Nat), .slice oa l.length cap]) ∧ Rises ks ∧ ks.Perm (M.map (·.1)) ∧ ks.map (look M) = l.map some ∧ Row w' 31 3 (.slice oa l.length cap) l.length (recCs l) ∧ Keeps (fun _ => False) w w'

end Go.Proofs.YtkpaiaddikpdoaaGreatDoor

/- stream.Chain: Stream, walked. -/

namespace Go.Proofs.YtkpaiaddikpdoaaGreatDoor

open Go.RowKit Go.Maps Go.Sort Go.Shelf Go.ChangeMaps Go.MapKept

attribute [local go_sem] Oper.semAt_some

theorem Tryz.zeroRec (w : World) : (zeroValue 31).run Tryz.prog w = .ok (.agg #[.string ⟨#[]⟩, .string ⟨#[]⟩, .bool false]) w := by kernel_rfl

theorem ChAt.lookup {w : World} {cb mb a b : Nat} {full : Bool} {M : List (ByteArray × RecB)} (h : ChAt w cb mb full a b M) {k : ByteArray} {r : RecB} (hk : look M k = some r) : (Instr.lookup 74 (.map (some mb)) (.string k) false).run Tryz.prog w = .ok (.agg #[.string r.key, .string r.value, .bool r.gone]) w := by
  have := h.map.lookup strKeyOk Tryz.underlying74 Tryz.underlying9 (Tryz.zeroRec w) k false
  rw [this]
  unfold mapV
  rw [look_map, hk]
  rfl

theorem perm_look {M : List (ByteArray × RecB)} (hn : (M.map (·.1)).Nodup) {ks : List ByteArray} (hp : ks.Perm (M.map (·.1))) : ∃ l : List RecB, ks.map (look M) = l.map some := by
  have h : ∀ k ∈ ks, ∃ r, look M k = some r := fun k hk => by
    obtain ⟨p, hp1, hp2⟩ := List.mem_map.1 (hp.mem_iff.1 hk)
    exact ⟨p.2, by rw [← hp2]; exact look_of_mem hn hp1⟩
  clear hp
  induction ks with
  | nil => exact ⟨[], rfl⟩
  | cons k ks ih =>
    obtain ⟨r, hr⟩ := h k (by simp)
    obtain ⟨l, hl⟩ := ih (fun k hk => h k (List.mem_cons_of_mem _ hk))
    exact ⟨r :: l, by rw [List.map_cons, List.map_cons, hr, hl]⟩

set_option maxRecDepth 100000 in
set_option maxHeartbeats 4000000 in
theorem chStream_any (cb mb : Nat) (full : Bool) (a b : Nat) (M : List (ByteArray × RecB)) (w : World) (h : ChAt w cb mb full a b M) (hk : ∀ p ∈ M, p.1.size ≤ maxLen) (hl : M.length ≤ 2000000000) :
    Calls Tryz.prog 30 #[.pointer (some ⟨cb, 0, none⟩)] w (CsPost full a b M w) := by
  obtain ⟨i0, hi, hz0, hz1, hz2⟩ := info_parts Tryz.infoRec
  have HND : Hid ((M.map (·.1)).Nodup) := by have := h.map.nodup; rw [mapV_keys] at this; exact this
  have HKE := hid (fun W (hW : ChAt W cb mb full a b M) => keysR_any mb M W hW.map hk hl)
  have HML := hid hl
  have HC := hid h
  have c0 := cell_of_heap h.top 0
  have c1 := cell_of_heap h.top 1
  have c2 := cell_of_heap h.top 2
  have c3 := cell_of_heap h.top 3
  simp at c0 c1 c2 c3
  have hcb : cb < w.heap.size := (Array.getElem?_eq_some_iff.1 h.top).1
  have hne : ¬ (cb = w.heap.size) := by omega
  clear h hk hl
  go_enter Tryz.func30, Tryz.ntmps30
  go_wp2_with fail
  go_region
  go_wp2_with fail
  have HS0 : Hid (CsAt w cb mb full a b M (w.heap.size + 1) (.slice none 0 0) [] ((w.alloc (.cells #[.bool false, .int .i64 0, .int .i64 0, .slice none 0 0] 34)).alloc (.cells #[.bool full, .int .i64 (a : Nat), .int .i64 (b : Nat), .slice none 0 0] 34)).drew) := by
    have ka := Keeps.alloc (fun _ => False) w (.cells #[.bool false, .int .i64 0, .int .i64 0, .slice none 0 0] 34)
    have kb := (Keeps.alloc (fun _ => False) (w.alloc (.cells #[.bool false, .int .i64 0, .int .i64 0, .slice none 0 0] 34)) (.cells #[.bool full, .int .i64 (a : Nat), .int .i64 (b : Nat), .slice none 0 0] 34)).dr
    have kc := ka.tr kb (fun _ h => h)
    refine ⟨HC.out.kept kc (fun h => h) (fun h => h), ?_, Row.nil _ _ _, fun g hg => (by cases hg), (kb.block _ (by simp) (fun h => h)).trans (heap_new w _), kc, by omega⟩
    have := heap_new (w.alloc (.cells #[.bool false, .int .i64 0, .int .i64 0, .slice none 0 0] 34)) (.cells #[.bool full, .int .i64 (a : Nat), .int .i64 (b : Nat), .slice none 0 0] 34)
    rw [World.size_alloc] at this
    exact this
  generalize ((w.alloc (.cells #[.bool false, .int .i64 0, .int .i64 0, .slice none 0 0] 34)).alloc (.cells #[.bool full, .int .i64 (a : Nat), .int .i64 (b : Nat), .slice none 0 0] 34)).drew = w2 at *
  generalize w.heap.size + 1 = xb at *
  refine (callsIn_wide.1 (Tryz.maps_Keys_51 (some mb) _)).mono ?_
  rintro e w3 ⟨rfl, rfl⟩
  go_wp2_with fail
  refine (HKE.out _ HS0.out.ch).mono ?_
  rintro e w4 ⟨v, ks, rfl, hrow, hris, hperm, k4⟩
  obtain ⟨ok, ck, rfl, hkm, sk⟩ := hrow.form
  have HS4 := hid (HS0.out.quiet k4)
  have HRK := hid hrow
  have HRI := hid hris
  have HPE := hid hperm
  have SK := hid sk
  obtain ⟨l, hll⟩ := perm_look HND.out hperm
  have HLL := hid hll
  have hlen : l.length = ks.length := by have := congrArg List.length hll; simpa using this.symm
  have hkl : ks.length ≤ 2000000000 := by have h1 := hperm.length_eq; rw [List.length_map] at h1; have := HML.out; omega
  have HLEN := hid hlen
  have HKL := hid hkl
  have hklI : (ks.length : Int) ≤ 2000000000 := by omega
  clear hrow hris hperm k4 sk hll hlen HS0 HKE c0 c1 c2 c3 hkm
  go_wp2_with fail
  go_loopw [26] (fun i wr => ∃ (k : Nat) (v2 : Value), k ≤ ks.length ∧ i = .int .i64 (k : Nat) ∧ CsAt w cb mb full a b M xb v2 (l.take k) wr ∧ Row wr 9 1 (.slice ok ks.length ck) ks.length (ks.map Value.string)) (fun i _ => ks.length - (intOf i).toNat)
  case atStart => exact ⟨0, _, Nat.zero_le _, rfl, HS4.out, HRK.out⟩
  case round =>
    obtain ⟨k, v2, hk, rfl, hS, hR⟩ := hrel
    have hkI : (k : Int) ≤ ks.length := by omega
    obtain ⟨o2, c2, rfl, -, -⟩ := hS.row.form
    by_cases hkx : k < ks.length
    · obtain ⟨gk, rfl⟩ := SK.out (by omega)
      have hk2 : k < l.length := by have := HLEN.out; omega
      have hlook : look M ks[k] = some l[k] := by
        have h1 := congrArg (fun z => z[k]?) HLL.out
        simp only [List.getElem?_map, List.getElem?_eq_getElem hkx, List.getElem?_eq_getElem hk2, Option.map_some] at h1
        exact Option.some.inj h1
      have r0 : wr.cell? ⟨gk, k, none⟩ = some (.string ks[k]) := by
        rw [hR.cellAt k (by omega), List.getElem?_map, List.getElem?_eq_getElem hkx]
        rfl
      have HTK : Hid (l.take (k + 1) = l.take k ++ [l[k]]) := List.take_succ_eq_append_getElem hk2
      have hlt : (l.take k).length = k := by rw [List.length_take]; omega
      obtain ⟨y, hy⟩ : ∃ y, y = l[k] := ⟨_, rfl⟩
      rw [← hy] at hlook HTK
      have hkxI : (k : Int) < ks.length := by omega
      have HS := hid hS
      have HR := hid hR
      have HKX := hid hkx
      generalize ks[k] = key at *
      have hal : (l.take k).length ≤ 2000000000 := by have := HKL.out; omega
      have HAL := hid hal
      clear hS hR hy
      generalize l.take k = al at *
      have halI : (al.length : Int) ≤ 2000000000 := by omega
      have hlk := (HS.out.ch.kept ((Keeps.refl (fun _ => False) wr).dr) (fun h => h) (fun h => h)).lookup hlook
      have t3 := cell_of_heap HS.out.top 3
      have d3 := cell_of_heap HS.out.ch.top 3
      simp at t3 d3
      have t4 := (Keeps.alloc (fun _ => False) wr (.cells #[.string y.key, .string y.value, .bool y.gone] 31)).cell t3 (fun h => h)
      clear hk hkx hk2 hal hlt hlook
      go_wp2_with fail
      go_region_law ((refine step_append_row _ (by rfl) _ _ 32 (by rfl) 31 i0 _ 3 40 Tryz.underlying32 hi hz0 hz1 hz2 (by rfl) (.slice o2 al.length c2) al.length _ (by rfl) (HS.out.row.kept ((Keeps.refl (fun _ => False) wr).al _).dr (fun _ _ h => h)) ⟨wr.heap.size, 0, none⟩ 1 1 [.string y.key, .string y.value, .bool y.gone] (by rfl) (by rfl) (news_arr wr #[.string y.key, .string y.value, .bool y.gone] _) (by simp [Value.oneCell']) (by have := HAL.out; unfold maxLen; omega) (by have := HAL.out; omega) ?_; intro v' w8 hown' hgrow _ hat; obtain ⟨g', cap', rfl⟩ := hown'.succ; have hp := HS.out.push (x := y) (((Keeps.refl (fun _ => False) wr).al _).dr) hown' hgrow hat; have q3 := cell_of_heap hp.1 3; have p3 := frozen_of_heap hp.1 3; simp at q3; have HP := hid hp.2; have HTP := hid hp.1; have HGW := hid hgrow; clear hown' hgrow hat hp))
      all_goals
        go_wp2
        have r1' := HR.out.kept (((Keeps.refl (fun _ => False) wr).al (.cells #[.string y.key, .string y.value, .bool y.gone] 31)).dr) (fun _ _ h => h)
        have r2' := r1'.kept (Keeps.grown HGW.out) (fun g hg e => (r1'.typeIs hg).ne (e' := 31) (by decide) ((HS.out.row.kept (((Keeps.refl (fun _ => False) wr).al _).dr) (fun _ _ h => h)).typeIs e.symm))
        exact ⟨⟨k + 1, _, HKX.out, by go_num, by rw [HTK.out]; exact HP.out, r2'.kept (Keeps.setCell w8 ⟨xb, 3, none⟩ _) (fun g hg e => (r2'.typeIs hg).ne (e' := 34) (by decide) ((show g = xb from e) ▸ ⟨_, HTP.out⟩))⟩, by simp only [intOf]; have := HKX.out; omega⟩
    · have hkn : ¬ ((k : Int) < ks.length) := by omega
      have e : l.take k = l := List.take_of_length_le (by have := HLEN.out; omega)
      rw [e] at hS
      have HS := hid hS
      obtain ⟨a0, a1, a2, a3, b0, b1, b2, b3, -, -, -, -⟩ := hS.res.facts
      have t0 := cell_of_heap hS.top 0
      have t1 := cell_of_heap hS.top 1
      have t2 := cell_of_heap hS.top 2
      have t3 := cell_of_heap hS.top 3
      simp at t0 t1 t2 t3
      clear hS hR e hkx hk
      generalize hln : l.length = len at *
      go_wp2
      refine bodyPost_ret (v := .agg #[.bool full, .int .i64 (a : Nat), .int .i64 (b : Nat), .slice o2 len c2]) ?_ rfl ?_
      · rw [results_cell_one rfl]
        go_simp
      · have h9 := HS.out.row
        rw [hln] at h9
        refine ⟨ks, l, o2, c2, by rw [hln], HRI.out, HPE.out, HLL.out, ?_, HS.out.keep.trans (four_set wr w.heap.size _ _ _ _) (fun k hk e => by have e' : k = w.heap.size := e; omega)⟩
        rw [hln]
        exact h9.kept (four_set wr w.heap.size _ _ _ _) (fun i hi e => (h9.typeIs hi).ne (e' := 34) (by decide) ⟨_, (show i = w.heap.size from e) ▸ HS.out.res⟩)

end Go.Proofs.YtkpaiaddikpdoaaGreatDoor

/- Merge, pure: what streams come to that follow each other. -/

namespace Go.Proofs.YtkpaiaddikpdoaaGreatDoor

open Go.RowKit Go.Shelf

/-- streams, one behind another -/
structure Chn where
  full : Bool
  a : Nat
  b : Nat
  M : List (ByteArray × RecB)
  L : List RecB
  follow : Bool

def Chn.first (s : Str) : Chn := ⟨s.full, s.a, s.b, (s.recs.map recB).foldl (chStep s.full) [], (s.recs.map recB).foldl placedL [], true⟩

abbrev Chn.goes (c : Chn) (s : Str) : Prop := s.full = false ∧ s.a = c.b

def Chn.add (c : Chn) (s : Str) : Chn := if c.follow = true ∧ c.goes s then ⟨c.full, c.a, s.b, (s.recs.map recB).foldl (chStep c.full) c.M, (s.recs.map recB).foldl placedL c.L, true⟩ else { c with follow := false }

def chStep1 (o : Option Chn) (s : Str) : Option Chn := match o with
  | none => some (.first s)
  | some c => some (c.add s)

def chn (ss : List Str) : Option Chn := ss.foldl chStep1 none

theorem chn_snoc (ss : List Str) (s : Str) : chn (ss ++ [s]) = chStep1 (chn ss) s := by unfold chn; rw [List.foldl_append]; rfl

theorem Chn.add_yes {c : Chn} {s : Str} (h : c.follow = true) (hg : c.goes s) : c.add s = ⟨c.full, c.a, s.b, (s.recs.map recB).foldl (chStep c.full) c.M, (s.recs.map recB).foldl placedL c.L, true⟩ := if_pos ⟨h, hg⟩

theorem Chn.add_no {c : Chn} {s : Str} (hg : ¬ (c.follow = true ∧ c.goes s)) : c.add s = { c with follow := false } := if_neg hg

theorem chStep1_bad (c : Chn) (h : c.follow = false) (s : Str) : ∃ d, chStep1 (some c) s = some d ∧ d.follow = false := ⟨_, rfl, by rw [Chn.add_no (fun e => by rw [h] at e; cases e.1)]⟩

theorem fold_bad : ∀ (ss : List Str) (c : Chn), c.follow = false → ∃ d, ss.foldl chStep1 (some c) = some d ∧ d.follow = false
  | [], c, h => ⟨c, rfl, h⟩
  | s :: ss, c, h => by
    obtain ⟨d, h1, h2⟩ := chStep1_bad c h s
    rw [List.foldl_cons, h1]
    exact fold_bad ss d h2

/-- once it does not follow, it never does -/
theorem chn_bad {ss : List Str} {k : Nat} {c : Chn} (h : chn (ss.take k) = some c) (hf : c.follow = false) : ∃ d, chn ss = some d ∧ d.follow = false := by
  have e : chn ss = (ss.drop k).foldl chStep1 (chn (ss.take k)) := by
    unfold chn
    rw [← List.foldl_append, List.take_append_drop]
  rw [e, h]
  exact fold_bad _ c hf

/-- what holds of a chain of n streams -/
structure ChnOk (n : Nat) (c : Chn) : Prop where
  inv : InvC c.full c.M c.L
  keys : ∀ p ∈ c.M, p.1.size ≤ 1000
  few : c.M.length ≤ n * 1000
  fewL : c.L.length ≤ n * 1000
  small : ∀ r ∈ c.L, r.key.size ≤ 1000 ∧ r.value.size ≤ 1000

theorem chStep_len (full : Bool) (M : List (ByteArray × RecB)) (r : RecB) : (chStep full M r).length ≤ M.length + 1 := by
  unfold chStep
  split
  · have : ∀ (M : List (ByteArray × RecB)) k, (del M k).length ≤ M.length := by
      intro M k
      induction M with
      | nil => exact Nat.le_refl _
      | cons p M ih =>
        unfold del
        split
        · simp
        · simp; exact ih
    have := this M r.key
    omega
  · rw [length_put]
    split <;> omega

theorem chStep_keys (full : Bool) (M : List (ByteArray × RecB)) (hn : (M.map (·.1)).Nodup) (r : RecB) (h : ∀ p ∈ M, p.1.size ≤ 1000) (hr : r.key.size ≤ 1000) : ∀ p ∈ chStep full M r, p.1.size ≤ 1000 := by
  intro p hp
  unfold chStep at hp
  split at hp
  · rw [del_filter M hn] at hp
    exact h p (List.mem_filter.1 hp).1
  · have : ∀ (M : List (ByteArray × RecB)), p ∈ put M r.key r → p ∈ M ∨ p.1 = r.key := by
      intro M
      induction M with
      | nil => intro h; simp [put] at h; exact .inr (by rw [h])
      | cons q M ih =>
        intro h
        unfold put at h
        split at h
        · rcases List.mem_cons.1 h with h | h
          · exact .inr (by rw [h])
          · exact .inl (List.mem_cons_of_mem _ h)
        · rcases List.mem_cons.1 h with h | h
          · exact .inl (by rw [h]; simp)
          · rcases ih h with h | h
            · exact .inl (List.mem_cons_of_mem _ h)
            · exact .inr h
    rcases this M hp with h1 | h1
    · exact h p h1
    · rw [h1]; exact hr

theorem placed_len (L : List RecB) (r : RecB) : (placedL L r).length ≤ L.length + 1 := by
  rw [placedL_eq]
  have h1 := List.takeWhile_append_dropWhile (p := fun x : RecB => ltK x.key r.key) (l := L)
  have h2 := congrArg List.length h1
  rw [List.length_append] at h2
  have h3 := List.length_filter_le (fun x : RecB => decide (x.key ≠ r.key)) (L.dropWhile (fun x => ltK x.key r.key))
  rw [List.length_append, List.length_cons]
  omega

theorem placed_small {L : List RecB} {r : RecB} (h : ∀ x ∈ L, x.key.size ≤ 1000 ∧ x.value.size ≤ 1000) (hr : r.key.size ≤ 1000 ∧ r.value.size ≤ 1000) : ∀ x ∈ placedL L r, x.key.size ≤ 1000 ∧ x.value.size ≤ 1000 := by
  intro x hx
  rw [placedL_eq] at hx
  rcases List.mem_append.1 hx with h1 | h1
  · exact h x (mem_takeWhile h1).2
  · rcases List.mem_cons.1 h1 with h1 | h1
    · rw [h1]; exact hr
    · exact h x ((List.dropWhile_sublist _).mem (List.mem_filter.1 h1).1)

theorem ChnOk.steps {full : Bool} : ∀ (rs : List RecB) {M : List (ByteArray × RecB)} {L : List RecB} (N : Nat), InvC full M L → (∀ p ∈ M, p.1.size ≤ 1000) → M.length ≤ N → L.length ≤ N → (∀ r ∈ L, r.key.size ≤ 1000 ∧ r.value.size ≤ 1000) → (∀ r ∈ rs, r.key.size ≤ 1000 ∧ r.value.size ≤ 1000) →
    InvC full (rs.foldl (chStep full) M) (rs.foldl placedL L) ∧ (∀ p ∈ rs.foldl (chStep full) M, p.1.size ≤ 1000) ∧ (rs.foldl (chStep full) M).length ≤ N + rs.length ∧ (rs.foldl placedL L).length ≤ N + rs.length ∧ ∀ r ∈ rs.foldl placedL L, r.key.size ≤ 1000 ∧ r.value.size ≤ 1000
  | [], M, L, N, h1, h2, h3, h4, h5, _ => ⟨h1, h2, h3, h4, h5⟩
  | r :: rs, M, L, N, h1, h2, h3, h4, h5, h6 => by
    have hr := h6 r (by simp)
    have l1 := chStep_len full M r
    have l2 := placed_len L r
    have := ChnOk.steps rs (N + 1) (h1.step r) (chStep_keys full M h1.nodup r h2 hr.1) (by omega) (by omega) (placed_small h5 hr) (fun x hx => h6 x (List.mem_cons_of_mem _ hx))
    rw [List.foldl_cons, List.foldl_cons, List.length_cons]
    refine ⟨this.1, this.2.1, by have := this.2.2.1; omega, by have := this.2.2.2.1; omega, this.2.2.2.2⟩

/-- a stream that was read -/
def StrOk (s : Str) : Prop := s.recs.length ≤ 1000 ∧ ∀ r ∈ s.recs.map recB, r.key.size ≤ 1000 ∧ r.value.size ≤ 1000

theorem ChnOk.first {s : Str} (h : StrOk s) : ChnOk 1 (.first s) := by
  obtain ⟨h1, h2, h3, h4, h5⟩ := ChnOk.steps (full := s.full) (s.recs.map recB) 0 (InvC.zero s.full) (fun p hp => by cases hp) (Nat.le_refl _) (Nat.le_refl _) (fun p hp => by cases hp) h.2
  have hl := h.1
  rw [List.length_map] at h3 h4
  exact ⟨h1, h2, Nat.le_trans h3 (by omega), Nat.le_trans h4 (by omega), h5⟩

theorem ChnOk.add {n : Nat} {c : Chn} {s : Str} (hc : ChnOk n c) (h : StrOk s) : ChnOk (n + 1) (c.add s) := by
  by_cases hg : c.follow = true ∧ c.goes s
  · rw [Chn.add_yes hg.1 hg.2]
    obtain ⟨h1, h2, h3, h4, h5⟩ := ChnOk.steps (full := c.full) (s.recs.map recB) (n * 1000) hc.inv hc.keys hc.few hc.fewL hc.small h.2
    have hl := h.1
    rw [List.length_map] at h3 h4
    exact ⟨h1, h2, Nat.le_trans h3 (by omega), Nat.le_trans h4 (by omega), h5⟩
  · rw [Chn.add_no hg]
    exact ⟨hc.inv, hc.keys, Nat.le_trans hc.few (by omega), Nat.le_trans hc.fewL (by omega), hc.small⟩

theorem chn_ok : ∀ (n : Nat) (ss : List Str), ss.length = n → (∀ s ∈ ss, StrOk s) → ∀ c, chn ss = some c → ChnOk n c
  | 0, ss, hn, _, c, hc => by rw [List.eq_nil_of_length_eq_zero hn] at hc; cases hc
  | n + 1, ss, hn, h, c, hc => by
    have hne : ss ≠ [] := fun e => by rw [e] at hn; cases hn
    have e := List.dropLast_concat_getLast hne
    rw [← e, chn_snoc] at hc
    have hl : ss.dropLast.length = n := by rw [List.length_dropLast]; omega
    have hs : StrOk (ss.getLast hne) := h _ (List.getLast_mem hne)
    cases hq : chn ss.dropLast with
    | none =>
      rw [hq] at hc
      cases hc
      have h0 : n = 0 := by
        rcases Nat.eq_zero_or_pos n with h0 | h0
        · exact h0
        · exfalso
          have hne2 : ss.dropLast ≠ [] := fun e => by rw [e] at hl; simp at hl; omega
          rw [← List.dropLast_concat_getLast hne2, chn_snoc] at hq
          unfold chStep1 at hq
          split at hq <;> cases hq
      subst h0
      exact ChnOk.first hs
    | some d =>
      rw [hq] at hc
      cases hc
      exact (chn_ok n ss.dropLast hl (fun s hs => h s ((List.dropLast_sublist _).mem hs)) d hq).add hs

/-- what Encode says -/
def encR (full : Bool) (a b : Nat) (l : List RecB) : ByteArray × Nat := if judgeB full a b l = true then (ofL (streamL ⟨full, a, b, l.map RecB.rec_⟩), 0) else (⟨#[]⟩, 6)

def okS (t : ByteArray) : Option Str := match readO t.data.toList with
  | some (.inr s) => some s
  | _ => none

def mgS (ss : List Str) : ByteArray × Nat := match chn ss with
  | none => (⟨#[]⟩, 6)
  | some c => if c.follow = true then encR c.full c.a c.b (outC c.full c.L) else (⟨#[]⟩, 8)

/-- what Merge says -/
def mgR (ts : List ByteArray) : ByteArray × Nat := if ∀ t ∈ ts, (okS t).isSome = true then mgS (ts.filterMap okS) else (⟨#[]⟩, 6)

theorem mgR_bad {ts : List ByteArray} {k : Nat} (hk : k < ts.length) (h : okS ts[k] = none) : mgR ts = (⟨#[]⟩, 6) := by
  unfold mgR
  rw [if_neg]
  intro h2
  have := h2 ts[k] (List.getElem_mem hk)
  rw [h] at this
  cases this

theorem okS_take {ts : List ByteArray} {k : Nat} (hk : k < ts.length) {s : Str} (h : okS ts[k] = some s) : (ts.take (k + 1)).filterMap okS = (ts.take k).filterMap okS ++ [s] := by
  rw [List.take_succ_eq_append_getElem hk, List.filterMap_append]
  simp [h]

end Go.Proofs.YtkpaiaddikpdoaaGreatDoor

/- annals.Merge. -/

namespace Go.Proofs.YtkpaiaddikpdoaaGreatDoor

open Go.RowKit Go.Shelf

attribute [local go_sem] Oper.semAt_some

/-- texts, somewhere in a block -/
def TxtIn (w : World) (oa : Option Addr) (ts : List ByteArray) : Prop := ∀ i (h : i < ts.length), ∃ g off, oa = some ⟨g, off, none⟩ ∧ w.cell? ⟨g, off + i, none⟩ = some (.string ts[i])

theorem TxtIn.kept {w w' : World} {oa : Option Addr} {ts : List ByteArray} (h : TxtIn w oa ts) (hk : Keeps (fun _ => False) w w') : TxtIn w' oa ts := fun i hi => by
  obtain ⟨g, off, e, h1⟩ := h i hi
  exact ⟨g, off, e, hk.cell h1 (fun h => h)⟩

theorem okS_some {t : ByteArray} {s : Str} (h : readO t.data.toList = .ok s) : okS t = some s := by unfold okS; rw [h]

theorem okS_none {t : ByteArray} (h : ∀ s, readO t.data.toList ≠ .ok s) : okS t = none := by
  unfold okS
  rcases hx : readO t.data.toList with _ | p | s
  · rfl
  · rfl
  · exact absurd hx (h s)

theorem read_strOk {l : List UInt8} {s : Str} (h : readO l = .ok s) : StrOk s := by
  unfold readO at h
  split at h
  · cases h
  · split at h
    · split at h
      · cases h
      · split at h
        · rename_i hj
          cases h
          obtain ⟨-, -, h1, h2⟩ := judge_facts hj.1
          rw [List.length_map] at h1
          exact ⟨h1, h2⟩
        · cases h
    · cases h

/-- what Merge leaves -/
def MgPost (ts : List ByteArray) (w : World) (e : Ending) (w' : World) : Prop := e = .returned (.tuple #[.string (mgR ts).1, .int .i64 ((mgR ts).2 : Nat)]) ∧ Keeps (fun _ => False) w w'

/-- between two texts -/
structure MgAt (w : World) (cb : Nat) (ts : List ByteArray) (k : Nat) (fl : Bool) (wr : World) : Prop where
  le : k ≤ ts.length
  oks : ∀ t ∈ ts.take k, (okS t).isSome = true
  keep : Keeps (fun _ => False) w wr
  cbw : w.heap.size ≤ cb
  strs : ∀ s ∈ (ts.take k).filterMap okS, StrOk s
  st : match chn ((ts.take k).filterMap okS) with
    | none => fl = true ∧ ChNo wr cb
    | some c => fl = c.follow ∧ (c.follow = true → ∃ mb, w.heap.size ≤ mb ∧ ChAt wr cb mb c.full c.a c.b c.M)

theorem filterMap_len {α β : Type} {f : α → Option β} : ∀ {l : List α}, (∀ t ∈ l, (f t).isSome = true) → (l.filterMap f).length = l.length
  | [], _ => rfl
  | a :: l, h => by
    obtain ⟨b, hb⟩ := Option.isSome_iff_exists.1 (h a (by simp))
    rw [List.filterMap_cons, hb]
    simp [filterMap_len (fun t ht => h t (List.mem_cons_of_mem _ ht))]

theorem MgAt.next {w : World} {cb : Nat} {ts : List ByteArray} {k : Nat} {fl fl' : Bool} {wr wq : World} {s : Str} (h : MgAt w cb ts k fl wr) (hk : k < ts.length) (hs : readO ts[k].data.toList = .ok s) (hkeep : Keeps (fun _ => False) w wq)
    (hst : match chStep1 (chn ((ts.take k).filterMap okS)) s with | none => fl' = true ∧ ChNo wq cb | some c => fl' = c.follow ∧ (c.follow = true → ∃ mb, w.heap.size ≤ mb ∧ ChAt wq cb mb c.full c.a c.b c.M)) : MgAt w cb ts (k + 1) fl' wq := by
  have e := okS_take hk (okS_some hs)
  refine ⟨hk, fun t ht => ?_, hkeep, h.cbw, fun x hx => ?_, ?_⟩
  · rw [List.take_succ_eq_append_getElem hk] at ht
    rcases List.mem_append.1 ht with ht | ht
    · exact h.oks t ht
    · rw [List.mem_singleton.1 ht, okS_some hs]
      rfl
  · rw [e] at hx
    rcases List.mem_append.1 hx with hx | hx
    · exact h.strs x hx
    · rw [List.mem_singleton.1 hx]
      exact read_strOk hs
  · rw [e, chn_snoc]
    exact hst

/-- at its end -/
theorem MgAt.all {w : World} {cb : Nat} {ts : List ByteArray} {fl : Bool} {wr : World} (h : MgAt w cb ts ts.length fl wr) : mgR ts = mgS (ts.filterMap okS) := by
  have h1 := h.oks
  rw [List.take_of_length_le (Nat.le_refl _)] at h1
  unfold mgR
  rw [if_pos h1]

end Go.Proofs.YtkpaiaddikpdoaaGreatDoor

/- annals.Merge, walked. -/

namespace Go.Proofs.YtkpaiaddikpdoaaGreatDoor

open Go.RowKit Go.Shelf

attribute [local go_sem] Oper.semAt_some

theorem chn_none {ss : List Str} (h : chn ss = none) : ss = [] := by
  rcases List.eq_nil_or_concat ss with e | ⟨l, s, e⟩
  · exact e
  · rw [e, List.concat_eq_append, chn_snoc] at h
    unfold chStep1 at h
    split at h <;> cases h

theorem Row.caps {w : World} {e : TypeId} {size n cap : Nat} {oa : Option Addr} {xs : List Value} (h : Row w e size (.slice oa n cap) n xs) : n ≤ cap ∧ cap ≤ maxLen := by
  rcases h.2 with ⟨e, e'⟩ | ⟨g, c', cur, e, -, h1, h2, -⟩
  · injection e with e1 e2 e3
    exact ⟨by omega, by unfold maxLen; omega⟩
  · injection e with e1 e2 e3
    subst e3
    exact ⟨h1, h2⟩

theorem encode_all (full : Bool) (a b : Nat) (oa : Option Addr) (cap : Nat) (l : List RecB) (w : World) (hr : Row w 31 3 (.slice oa l.length cap) l.length (recCs l)) (hs : ∀ r ∈ l, r.key.size ≤ maxLen ∧ r.value.size ≤ maxLen) (hg : Glob w) :
    Calls Tryz.prog 8 #[.agg #[.bool full, .int .i64 (a : Nat), .int .i64 (b : Nat), .slice oa l.length cap]] w fun e w' => e = .returned (.tuple #[.string (encR full a b l).1, .int .i64 ((encR full a b l).2 : Nat)]) ∧ Keeps (fun _ => False) w w' := by
  obtain ⟨h1, h2⟩ := hr.caps
  cases hj : judgeB full a b l with
  | true =>
    refine (encode_good full a b oa cap l w (RecIn.ofRow hr) h1 h2 hg hj).mono ?_
    rintro e w' ⟨rfl, hk⟩
    refine ⟨?_, hk⟩
    have e1 : encR full a b l = (ofL (streamL ⟨full, a, b, l.map RecB.rec_⟩), 0) := if_pos hj
    rw [e1]
    rfl
  | false =>
    refine (encode_bad full a b oa cap l w (RecIn.ofRow hr) (by omega) hs hg hj).mono ?_
    rintro e w' ⟨rfl, hk⟩
    refine ⟨?_, hk⟩
    have e1 : encR full a b l = (⟨#[]⟩, 6) := if_neg (by rw [hj]; simp)
    rw [e1]
    rfl

theorem addS_first (cb : Nat) (s : Str) (o : Option Addr) (cp : Nat) (w : World) (h : ChNo w cb) (hr : Row w 31 3 (.slice o s.recs.length cp) s.recs.length (recCs (s.recs.map recB))) (hs : StrOk s) :
    Calls Tryz.prog 29 #[.pointer (some ⟨cb, 0, none⟩), .agg #[.bool s.full, .int .i64 (s.a : Nat), .int .i64 (s.b : Nat), .slice o s.recs.length cp]] w (AddPost cb (fun j => j = cb) s.full s.a s.b ((s.recs.map recB).foldl (chStep s.full) []) w) := by
  have hl : (s.recs.map recB).length = s.recs.length := List.length_map _
  have := add_first cb s.full s.a s.b o cp (s.recs.map recB) w h (by rw [hl]; exact hr) (by rw [hl]; exact hs.1)
  rw [hl] at this
  exact this

theorem addS_next (cb mb : Nat) (c : Chn) (s : Str) (o : Option Addr) (cp : Nat) (w : World) (h : ChAt w cb mb c.full c.a c.b c.M) (hr : Row w 31 3 (.slice o s.recs.length cp) s.recs.length (recCs (s.recs.map recB))) (hs : StrOk s) (hg : c.goes s) :
    Calls Tryz.prog 29 #[.pointer (some ⟨cb, 0, none⟩), .agg #[.bool s.full, .int .i64 (s.a : Nat), .int .i64 (s.b : Nat), .slice o s.recs.length cp]] w (AddPost cb (fun j => j = cb ∨ j = mb) c.full c.a s.b ((s.recs.map recB).foldl (chStep c.full) c.M) w) := by
  have hl : (s.recs.map recB).length = s.recs.length := List.length_map _
  have := add_next cb mb c.full c.a c.b s.b c.M o cp (s.recs.map recB) w h (by rw [hl]; exact hr) (by rw [hl]; exact hs.1)
  rw [hl] at this
  rw [hg.1, hg.2]
  exact this

set_option maxRecDepth 100000 in
set_option maxHeartbeats 4000000 in
theorem merge_any (oa : Option Addr) (cap : Nat) (ts : List ByteArray) (w : World) (hT : TxtIn w oa ts) (hn : ts.length ≤ 1100000) (hs : ∀ t ∈ ts, t.size ≤ 1000000000) (hg : Glob w) (hne : ts ≠ []) :
    Calls Tryz.prog 15 #[.slice oa ts.length cap] w (MgPost ts w) := by
  have hpos : 0 < ts.length := List.length_pos_iff.2 hne
  have hp0 : ((ts.length : Int) == 0) = false := by rw [beq_eq_false_iff_ne]; omega
  have HT := hid hT
  have HS := hid hs
  have HG := hid hg
  have HN := hid hn
  have HNE := hid hne
  have hnI : (ts.length : Int) ≤ 1100000 := by omega
  have HM0 : Hid (MgAt w w.heap.size ts 0 true (w.alloc (.cells #[.bool false, .int .i64 0, .int .i64 0, .map none] 76))) := ⟨Nat.zero_le _, fun t ht => (by cases ht), Keeps.alloc _ _ _, Nat.le_refl _, fun s hs => (by cases hs), rfl, heap_new w _⟩
  clear hT hs hg hn hne hpos
  go_enter Tryz.func15, Tryz.ntmps15
  go_wp2_with fail
  generalize w.alloc (.cells #[.bool false, .int .i64 0, .int .i64 0, .map none] 76) = w0 at *
  obtain ⟨cb, hcb⟩ : ∃ cb, cb = w.heap.size := ⟨_, rfl⟩
  rw [← hcb] at HM0 ⊢
  clear hcb
  go_loopw [5, 16] (fun f i wr => ∃ (k : Nat) (fl : Bool), f = .bool fl ∧ i = .int .i64 (k : Nat) ∧ MgAt w cb ts k fl wr) (fun _ i _ => ts.length - (intOf i).toNat)
  case atStart => exact ⟨0, true, rfl, rfl, HM0.out⟩
  case round =>
    obtain ⟨k, fl, rfl, rfl, hM⟩ := hrel
    have hkI : (k : Int) ≤ ts.length := by have := hM.le; omega
    by_cases hk : k < ts.length
    · obtain ⟨g, off, rfl, r0⟩ := (HT.out.kept hM.keep) k hk
      have hkI2 : (k : Int) < ts.length := by omega
      have HDC := hid (decode_any ts[k] wr (by have := HS.out _ (List.getElem_mem hk); omega) (HG.out.kept hM.keep))
      have HNX := hid (fun fl' wq s => hM.next (fl' := fl') (wq := wq) (s := s) hk)
      have HBD : Hid ((∀ s, readO ts[k].data.toList ≠ .ok s) → mgR ts = (⟨#[]⟩, 6)) := fun h => mgR_bad hk (okS_none h)
      have HSO : Hid (∀ s, readO ts[k].data.toList = .ok s → StrOk s) := fun s h => read_strOk h
      have HMM := hid hM
      have HK := hid hk
      have HST := hid hM.st
      have HKE := hid hM.keep
      have HCB := hid hM.cbw
      clear hM
      generalize ts[k] = text at *
      clear hk
      rcases hx : readO text.data.toList with _ | p | s
      · rw [hx] at HDC HBD
        go_wp2_with fail
        refine HDC.out.mono ?_
        rintro e w2 ⟨rfl, k2⟩
        unfold strZ
        go_wp2
        go_ret2
        exact ⟨by rw [HBD.out (fun s h => by cases h)]; rfl, (HKE.out.tr k2 (fun _ h => h)).al _⟩
      · rw [hx] at HDC HBD
        go_wp2_with fail
        refine HDC.out.mono ?_
        rintro e w2 ⟨rfl, k2⟩
        unfold strZ
        go_wp2
        go_ret2
        exact ⟨by rw [HBD.out (fun s h => by cases h)]; rfl, (HKE.out.tr k2 (fun _ h => h)).al _⟩
      · rw [hx] at HDC HNX HSO
        have hso := HSO.out s rfl
        have HSO1 := hid hso
        clear HBD HSO hso hx
        go_wp2_with fail
        refine HDC.out.mono ?_
        rintro e w2 ⟨⟨o3, c3, rfl, row3, -⟩, k2⟩
        have k3 : Keeps (fun _ => False) w2 (w2.alloc (.cells #[.bool s.full, .int .i64 (s.a : Nat), .int .i64 (s.b : Nat), .slice o3 s.recs.length c3] 34)) := Keeps.alloc _ _ _
        have HR3 := hid (row3.kept k3 (fun _ _ h => h))
        have HK3 := hid (HKE.out.tr (k2.tr k3 (fun _ h => h)) (fun _ h => h))
        have HK23 := hid (k2.tr k3 (fun _ h => h))
        clear row3 k2 k3 HDC
        cases hc : chn ((ts.take k).filterMap okS) with
        | none =>
          rw [hc] at HST HNX
          obtain ⟨rfl, hno⟩ := HST.out
          have HAD := hid (addS_first cb s o3 c3 _ ((HK23.out.block cb (Array.getElem?_eq_some_iff.1 hno).1 (fun h => h)).trans hno) HR3.out HSO1.out)
          clear hc hno HST
          go_wp2_with fail
          refine HAD.out.mono ?_
          rintro e w4 ⟨rfl, mb, hC, hmb, k4⟩
          have HC4 := hid hC
          have HMB : Hid (w.heap.size ≤ mb) := by
            have h1 := HCB.out
            have h2 := HK3.out.size
            show _ ≤ _
            rcases hmb with h | h
            · have h' : mb = cb := h
              omega
            · omega
          have HK4 : Hid (Keeps (fun _ => False) w w4) := HK3.out.trans k4 (fun j hj e => by have e' : j = cb := e; have := HCB.out; omega)
          clear hC hmb k4 HAD
          go_wp2
          refine ⟨⟨k + 1, true, rfl, by go_num, HNX.out true w4 s rfl HK4.out ?_⟩, by simp only [intOf]; have := HK.out; omega⟩
          exact ⟨rfl, fun _ => ⟨mb, HMB.out, HC4.out⟩⟩
        | some c =>
          rw [hc] at HST HNX
          obtain ⟨rfl, hno⟩ := HST.out
          have HNO := hid hno
          clear hc hno HST
          cases hf : c.follow with
          | false =>
            go_wp2
            refine ⟨⟨k + 1, false, rfl, by go_num, HNX.out false _ s rfl HK3.out ?_⟩, by simp only [intOf]; have := HK.out; omega⟩
            show false = (c.add s).follow ∧ _
            rw [Chn.add_no (fun e => by rw [hf] at e; cases e.1)]
            exact ⟨rfl, fun e => by cases e⟩
          | true =>
            obtain ⟨mb, hmb, hC⟩ := HNO.out hf
            have HMB := hid hmb
            have HCH := hid (hC.kept HK23.out (fun h => h) (fun h => h))
            have HF := hid hf
            by_cases hgo : c.goes s
            · have HAD := hid (addS_next cb mb c s o3 c3 _ HCH.out HR3.out HSO1.out hgo)
              have HGO := hid hgo
              clear hC hmb hgo HNO
              go_wp2_with fail
              refine HAD.out.mono ?_
              rintro e w4 ⟨rfl, mb', hC, hmb, k4⟩
              have HC4 := hid hC
              have HMB' : Hid (w.heap.size ≤ mb') := by
                have h1 := HCB.out
                have h2 := HK3.out.size
                have h3 := HMB.out
                show _ ≤ _
                rcases hmb with (h | h) | h
                · have h' : mb' = cb := h
                  omega
                · have h' : mb' = mb := h
                  omega
                · omega
              have HK4 : Hid (Keeps (fun _ => False) w w4) := HK3.out.trans k4 (fun j hj e => by
                have h1 := HCB.out
                have h2 := HMB.out
                rcases e with e | e
                · have e' : j = cb := e
                  omega
                · have e' : j = mb := e
                  omega)
              clear hC hmb k4 HAD
              go_wp2
              refine ⟨⟨k + 1, true, rfl, by go_num, HNX.out true w4 s rfl HK4.out ?_⟩, by simp only [intOf]; have := HK.out; omega⟩
              show true = (c.add s).follow ∧ ((c.add s).follow = true → ∃ mb, w.heap.size ≤ mb ∧ ChAt w4 cb mb (c.add s).full (c.add s).a (c.add s).b (c.add s).M)
              rw [Chn.add_yes HF.out HGO.out]
              exact ⟨rfl, fun _ => ⟨mb', HMB'.out, HC4.out⟩⟩
            · have HAD := hid (add_not cb mb c.full s.full c.a c.b s.a s.b c.M (.slice o3 s.recs.length c3) _ HCH.out ⟨_, _, _, rfl⟩ (by
                by_cases h1 : s.full = true
                · exact .inl h1
                · exact .inr (fun h2 => hgo ⟨by simpa using h1, h2⟩)))
              have HGO := hid hgo
              clear hC hmb hgo HNO
              go_wp2_with fail
              refine HAD.out.mono ?_
              rintro e w4 ⟨rfl, k4⟩
              have HK4 : Hid (Keeps (fun _ => False) w w4) := HK3.out.tr k4 (fun _ h => h)
              clear k4 HAD
              go_wp2
              refine ⟨⟨k + 1, false, rfl, by go_num, HNX.out false w4 s rfl HK4.out ?_⟩, by simp only [intOf]; have := HK.out; omega⟩
              show false = (c.add s).follow ∧ _
              rw [Chn.add_no (fun e => HGO.out e.2)]
              exact ⟨rfl, fun e => by cases e⟩
    · have hkn : ¬ ((k : Int) < ts.length) := by omega
      have hke : k = ts.length := by have := hM.le; omega
      subst hke
      have htk : ts.take ts.length = ts := List.take_of_length_le (Nat.le_refl _)
      have hall := hM.all
      have hst := hM.st
      have hoks := hM.oks
      have hstr := hM.strs
      rw [htk] at hst hoks hstr
      have HKE := hid hM.keep
      cases hc : chn (ts.filterMap okS) with
      | none =>
        exfalso
        have h1 := filterMap_len hoks
        rw [chn_none hc] at h1
        exact HNE.out (List.eq_nil_of_length_eq_zero h1.symm)
      | some c =>
        rw [hc] at hst
        obtain ⟨rfl, hno⟩ := hst
        have HR : Hid (mgR ts = if c.follow = true then encR c.full c.a c.b (outC c.full c.L) else (⟨#[]⟩, 8)) := by
          show _ = _
          rw [hall]
          unfold mgS
          rw [hc]
        cases hf : c.follow with
        | false =>
          rw [hf] at HR
          clear hM hall hoks hstr hno hc hk
          go_wp2
          go_ret2
          exact ⟨by rw [HR.out, if_neg (by simp)]; rfl, HKE.out⟩
        | true =>
          obtain ⟨mb, hmb, hC⟩ := hno hf
          have hok := chn_ok ts.length (ts.filterMap okS) (filterMap_len hoks) hstr c hc
          have HOK := hid hok
          rw [hf, if_pos rfl] at HR
          have HST := hid (chStream_any cb mb c.full c.a c.b c.M wr hC (fun p hp => by have := hok.keys p hp; unfold maxLen; omega) (by have h1 := hok.few; have h2 := HN.out; omega))
          clear hM hall hoks hstr hno hc hk hok hC hmb htk
          go_wp2_with fail
          refine HST.out.mono ?_
          rintro e w2 ⟨ks, l, o, cp, rfl, hris, hperm, hlook, row, k2⟩
          have hl : l = outC c.full c.L := by
            have h1 := HOK.out.inv.out hris hperm
            rw [hlook] at h1
            exact (List.map_inj_right (fun _ _ h => Option.some.inj h)).1 h1
          have HL := hid hl
          have HK2 := hid (HKE.out.tr k2 (fun _ h => h))
          have HE := hid (encode_all c.full c.a c.b o cp l w2 row (fun r hr => by
            rw [hl] at hr
            have h1 : r ∈ c.L := by
              unfold outC at hr
              split at hr
              · exact (List.mem_filter.1 hr).1
              · exact hr
            have := HOK.out.small r h1
            unfold maxLen
            omega) (HG.out.kept HK2.out))
          clear hris hperm hlook row k2 hl HST
          go_wp2_with fail
          refine HE.out.mono ?_
          rintro e w3 ⟨rfl, k3⟩
          have HK3 := hid (HK2.out.tr k3 (fun _ h => h))
          clear k3 HE
          go_wp2
          go_ret2
          exact ⟨by rw [HR.out, ← HL.out]; rfl, HK3.out⟩

end Go.Proofs.YtkpaiaddikpdoaaGreatDoor
