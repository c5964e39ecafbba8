import Derived.Test.YtpagenipflmlfaaGreatDoorM33

/- Apply, from outside. -/

namespace Go.Proofs.YtpagenipflmlfaaGreatDoor

open Go.RowKit Go.Shelf

theorem apply_g {N : Nat} {w : World} {b : Nat} {A : Gst} {F : List Nat} (text : ByteArray) (a t : Nat) (recs : List Rec) (h : GSt N w b A F) (hN : N ≤ 100000000000) (hts : text.size ≤ 10000000000) (hg : Glob w) (hread : readO text.data.toList = .ok ⟨false, a, t, recs⟩) (ha : A.now = (a : Nat)) (hw : A.works = []) :
    Calls Tryz.prog 11 #[.pointer (some ⟨b, 0, none⟩), .string text] w fun e w' => e = .returned (.int .i64 0) ∧ After (N + 1000) b (A.grown (recs.map recB) (t : Nat)) F w w' := by
  obtain ⟨R, hi, rfl, rfl, rfl⟩ := h
  have hw' : R.works = [] := List.map_eq_nil_iff.1 (show R.works.map _ = [] from hw)
  have hna : R.now = (a : Nat) := ha
  have hkn := hi.keysN
  have htn := hi.totN
  have hj := read_judge hread
  simp only at hj
  obtain ⟨-, hto, hl, -⟩ := judge_facts hj
  have hrs := judge_rises hj
  have hjm := judge_mem hj
  have hlt : R.now < (t : Nat) := by
    unfold judgeB fitB at hj
    simp at hj
    omega
  refine (apply_ok R text a t recs w hi.st hi.good hi.tied hts hg hread hna hw' (by omega)).mono ?_
  rintro e w' ⟨rfl, Rn, h1, h2, h3, h4, h5⟩
  generalize recs.map recB = l at *
  have hver : ∀ k, k ∈ l.map RecB.key → keyB k = true ∧ valB (verR l (t : Nat) k).value = true ∧ (verR l (t : Nat) k).state = (t : Nat) := fun k hk' => by
    obtain ⟨r, hr', rfl⟩ := List.mem_map.1 hk'
    obtain ⟨j, hj', rfl⟩ := List.mem_iff_getElem.1 hr'
    rw [verR_at hrs hj']
    have := hjm _ (List.getElem_mem hj')
    exact ⟨this.1, this.2.1, rfl⟩
  have hs := h2.same
  have ew : Rn.works = R.works := by rw [hs]
  have htg := total_grew hi.tied h2
  rw [List.length_map] at htg
  have hgd := hi.good.grew h2 (hist_nodup h1.past) (t : Nat) ⟨by omega, hto.2⟩ (fun k hk => (hver k hk).1) (fun k hk => ⟨(hver k hk).2.1, (hver k hk).2.2, hlt⟩)
  have e3 : versOf Rn.hist = fun k => if memB (l.map RecB.key) k then versOf R.hist k ++ [verR l (t : Nat) k] else versOf R.hist k := funext fun k => h2.vers k
  have e4 : Rn.keys = insAll R.keys (l.map RecB.key) := rises_ext h2.tied.rises (insAll_rises _ hi.tied.rises) (fun k => by
    rw [insAll_mem]
    constructor
    · intro hk
      rcases grew_keys hi.tied h2 hk with h | h
      · exact .inr h
      · exact .inl h
    · intro hk
      refine keys_of_vers h2.tied ?_
      rw [e3]
      simp only
      rcases hk with hk | hk
      · have := vers_ne hi.tied hk
        split
        · simp
        · exact this
      · rw [if_pos ((memB_iff _ _).2 hk)]
        simp)
  refine ⟨rfl, _, ⟨_, ⟨h1, hgd, ⟨h2.tied.rises, h2.tied.keys, h2.tied.filled⟩, ?_, ?_, ?_, ?_, ?_, ?_, ?_, ?_, ?_⟩, ?_, ?_, rfl⟩, h3, fun k hk => h4 k hk⟩
  · show 0 ≤ Rn.floor
    rw [hs]; exact hi.floor
  · show Rn.begun ≤ _
    rw [hs]; have := hi.begunN; show R.begun ≤ _; omega
  · show Rn.keys.length ≤ _
    omega
  · show Rn.total ≤ _
    omega
  · show ∀ p ∈ Rn.pins, _
    rw [hs]; exact hi.pins
  · show Rn.pinSum ≤ _
    have : Rn.pinSum = R.pinSum := by unfold Rep.pinSum; rw [hs]
    rw [this]; have := hi.pinsN; omega
  · show 0 ≤ Rn.started ∧ Rn.started ≤ _
    rw [hs]; exact ⟨hi.startN.1, by have := hi.startN.2; show R.started ≤ _; omega⟩
  · show ∀ p ∈ Rn.copyings, _ ∧ p.1 ≤ Rn.started ∧ _
    rw [hs]; exact hi.cops
  · show Rn.copyings.length ≤ 4
    rw [hs]; exact hi.cops4
  · show Rn.sb = R.sb
    rw [hs]
  · have e5 : Rn.floor = R.floor ∧ Rn.begun = R.begun ∧ Rn.pins = R.pins ∧ Rn.started = R.started ∧ Rn.copyings = R.copyings := by rw [hs]; exact ⟨rfl, rfl, rfl, rfl, rfl⟩
    simp only [Rep.gst, Gst.grown, e3, e4, e5.1, e5.2.1, e5.2.2.1, e5.2.2.2.1, e5.2.2.2.2, ew]

theorem apply_h {O : Nat → Prop} {N : Nat} {w : World} {b : Nat} {A : Gst} (text : ByteArray) (a t : Nat) (recs : List Rec) (h : HAt O N w b A) (hO : ∀ k, O k → k < w.heap.size) (hN : N ≤ 100000000000) (hts : text.size ≤ 10000000000) (hg : Glob w) (hread : readO text.data.toList = .ok ⟨false, a, t, recs⟩) (ha : A.now = (a : Nat)) (hw : A.works = []) :
    Calls Tryz.prog 11 #[.pointer (some ⟨b, 0, none⟩), .string text] w fun e w' => e = .returned (.int .i64 0) ∧ HAt O (N + 1000) w' b (A.grown (recs.map recB) (t : Nat)) ∧ Keeps (fun k => ¬ O k) w w' :=
  h.call hO (fun _ hF => apply_g text a t recs hF hN hts hg hread ha hw)

end Go.Proofs.YtpagenipflmlfaaGreatDoor

/- annals.Merge, walked. -/

namespace Go.Proofs.YtpagenipflmlfaaGreatDoor

open Go.RowKit Go.Shelf

attribute [local go_sem] Oper.semAt_some

theorem chn_none {ss : List Str} (h : chn ss = none) : ss = [] := by
  rcases List.eq_nil_or_concat ss with e | ⟨l, s, e⟩
  · exact e
  · rw [e, List.concat_eq_append, chn_snoc] at h
    unfold chStep1 at h
    split at h <;> cases h

theorem Row.caps {w : World} {e : TypeId} {size n cap : Nat} {oa : Option Addr} {xs : List Value} (h : Row w e size (.slice oa n cap) n xs) : n ≤ cap ∧ cap ≤ maxLen := by
  rcases h.2 with ⟨e, e'⟩ | ⟨g, c', cur, e, -, h1, h2, -⟩
  · injection e with e1 e2 e3
    exact ⟨by omega, by unfold maxLen; omega⟩
  · injection e with e1 e2 e3
    subst e3
    exact ⟨h1, h2⟩

theorem encode_all (full : Bool) (a b : Nat) (oa : Option Addr) (cap : Nat) (l : List RecB) (w : World) (hr : Row w 147 3 (.slice oa l.length cap) l.length (recCs l)) (hs : ∀ r ∈ l, r.key.size ≤ maxLen ∧ r.value.size ≤ maxLen) (hg : Glob w) :
    Calls Tryz.prog 39 #[.agg #[.bool full, .int .i64 (a : Nat), .int .i64 (b : Nat), .slice oa l.length cap]] w fun e w' => e = .returned (.tuple #[.string (encR full a b l).1, .int .i64 ((encR full a b l).2 : Nat)]) ∧ Keeps (fun _ => False) w w' := by
  obtain ⟨h1, h2⟩ := hr.caps
  cases hj : judgeB full a b l with
  | true =>
    refine (encode_good full a b oa cap l w (RecIn.ofRow hr) h1 h2 hg hj).mono ?_
    rintro e w' ⟨rfl, hk⟩
    refine ⟨?_, hk⟩
    have e1 : encR full a b l = (ofL (streamL ⟨full, a, b, l.map RecB.rec_⟩), 0) := if_pos hj
    rw [e1]
    rfl
  | false =>
    refine (encode_bad full a b oa cap l w (RecIn.ofRow hr) (by omega) hs hg hj).mono ?_
    rintro e w' ⟨rfl, hk⟩
    refine ⟨?_, hk⟩
    have e1 : encR full a b l = (⟨#[]⟩, 6) := if_neg (by rw [hj]; simp)
    rw [e1]
    rfl

theorem addS_first (cb : Nat) (s : Str) (o : Option Addr) (cp : Nat) (w : World) (h : ChNo w cb) (hr : Row w 147 3 (.slice o s.recs.length cp) s.recs.length (recCs (s.recs.map recB))) (hs : StrOk s) :
    Calls Tryz.prog 38 #[.pointer (some ⟨cb, 0, none⟩), .agg #[.bool s.full, .int .i64 (s.a : Nat), .int .i64 (s.b : Nat), .slice o s.recs.length cp]] w (ChAddPost cb (fun j => j = cb) s.full s.a s.b ((s.recs.map recB).foldl (chStep s.full) []) w) := by
  have hl : (s.recs.map recB).length = s.recs.length := List.length_map _
  have := chAdd_first cb s.full s.a s.b o cp (s.recs.map recB) w h (by rw [hl]; exact hr) (by rw [hl]; exact hs.1)
  rw [hl] at this
  exact this

theorem addS_next (cb mb : Nat) (c : Chn) (s : Str) (o : Option Addr) (cp : Nat) (w : World) (h : ChAt w cb mb c.full c.a c.b c.M) (hr : Row w 147 3 (.slice o s.recs.length cp) s.recs.length (recCs (s.recs.map recB))) (hs : StrOk s) (hg : c.goes s) :
    Calls Tryz.prog 38 #[.pointer (some ⟨cb, 0, none⟩), .agg #[.bool s.full, .int .i64 (s.a : Nat), .int .i64 (s.b : Nat), .slice o s.recs.length cp]] w (ChAddPost cb (fun j => j = cb ∨ j = mb) c.full c.a s.b ((s.recs.map recB).foldl (chStep c.full) c.M) w) := by
  have hl : (s.recs.map recB).length = s.recs.length := List.length_map _
  have := add_next cb mb c.full c.a c.b s.b c.M o cp (s.recs.map recB) w h (by rw [hl]; exact hr) (by rw [hl]; exact hs.1)
  rw [hl] at this
  rw [hg.1, hg.2]
  exact this

set_option maxRecDepth 100000 in
set_option maxHeartbeats 4000000 in
theorem merge_any (oa : Option Addr) (cap : Nat) (ts : List ByteArray) (w : World) (hT : TxtIn w oa ts) (hn : ts.length ≤ 1100000) (hs : ∀ t ∈ ts, t.size ≤ 1000000000) (hg : Glob w) (hne : ts ≠ []) :
    Calls Tryz.prog 13 #[.slice oa ts.length cap] w (MgPost ts w) := by
  have hpos : 0 < ts.length := List.length_pos_iff.2 hne
  have hp0 : ((ts.length : Int) == 0) = false := by rw [beq_eq_false_iff_ne]; omega
  have HT := hid hT
  have HS := hid hs
  have HG := hid hg
  have HN := hid hn
  have HNE := hid hne
  have hnI : (ts.length : Int) ≤ 1100000 := by omega
  have HM0 : Hid (MgAt w w.heap.size ts 0 true (w.alloc (.cells #[.bool false, .int .i64 0, .int .i64 0, .map none] 92))) := ⟨Nat.zero_le _, fun t ht => (by cases ht), Keeps.alloc _ _ _, Nat.le_refl _, fun s hs => (by cases hs), rfl, heap_new w _⟩
  clear hT hs hg hn hne hpos
  go_enter Tryz.func13, Tryz.ntmps13
  go_wp2_with fail
  generalize w.alloc (.cells #[.bool false, .int .i64 0, .int .i64 0, .map none] 92) = w0 at *
  obtain ⟨cb, hcb⟩ : ∃ cb, cb = w.heap.size := ⟨_, rfl⟩
  rw [← hcb] at HM0 ⊢
  clear hcb
  go_loopw [5, 16] (fun f i wr => ∃ (k : Nat) (fl : Bool), f = .bool fl ∧ i = .int .i64 (k : Nat) ∧ MgAt w cb ts k fl wr) (fun _ i _ => ts.length - (intOf i).toNat)
  case atStart => exact ⟨0, true, rfl, rfl, HM0.out⟩
  case round =>
    obtain ⟨k, fl, rfl, rfl, hM⟩ := hrel
    have hkI : (k : Int) ≤ ts.length := by have := hM.le; omega
    by_cases hk : k < ts.length
    · obtain ⟨g, off, rfl, r0⟩ := (HT.out.kept hM.keep) k hk
      have hkI2 : (k : Int) < ts.length := by omega
      have HDC := hid (decode_any ts[k] wr (by have := HS.out _ (List.getElem_mem hk); omega) (HG.out.kept hM.keep))
      have HNX := hid (fun fl' wq s => hM.next (fl' := fl') (wq := wq) (s := s) hk)
      have HBD : Hid ((∀ s, readO ts[k].data.toList ≠ .ok s) → mgR ts = (⟨#[]⟩, 6)) := fun h => mgR_bad hk (okS_none h)
      have HSO : Hid (∀ s, readO ts[k].data.toList = .ok s → StrOk s) := fun s h => read_strOk h
      have HMM := hid hM
      have HK := hid hk
      have HST := hid hM.st
      have HKE := hid hM.keep
      have HCB := hid hM.cbw
      clear hM
      generalize ts[k] = text at *
      clear hk
      rcases hx : readO text.data.toList with _ | p | s
      · rw [hx] at HDC HBD
        go_wp2_with fail
        refine HDC.out.mono ?_
        rintro e w2 ⟨rfl, k2⟩
        unfold strZ
        go_wp2
        go_ret2
        exact ⟨by rw [HBD.out (fun s h => by cases h)]; rfl, (HKE.out.tr k2 (fun _ h => h)).al _⟩
      · rw [hx] at HDC HBD
        go_wp2_with fail
        refine HDC.out.mono ?_
        rintro e w2 ⟨rfl, k2⟩
        unfold strZ
        go_wp2
        go_ret2
        exact ⟨by rw [HBD.out (fun s h => by cases h)]; rfl, (HKE.out.tr k2 (fun _ h => h)).al _⟩
      · rw [hx] at HDC HNX HSO
        have hso := HSO.out s rfl
        have HSO1 := hid hso
        clear HBD HSO hso hx
        go_wp2_with fail
        refine HDC.out.mono ?_
        rintro e w2 ⟨⟨o3, c3, rfl, row3, -⟩, k2⟩
        have k3 : Keeps (fun _ => False) w2 (w2.alloc (.cells #[.bool s.full, .int .i64 (s.a : Nat), .int .i64 (s.b : Nat), .slice o3 s.recs.length c3] 84)) := Keeps.alloc _ _ _
        have HR3 := hid (row3.kept k3 (fun _ _ h => h))
        have HK3 := hid (HKE.out.tr (k2.tr k3 (fun _ h => h)) (fun _ h => h))
        have HK23 := hid (k2.tr k3 (fun _ h => h))
        clear row3 k2 k3 HDC
        cases hc : chn ((ts.take k).filterMap okS) with
        | none =>
          rw [hc] at HST HNX
          obtain ⟨rfl, hno⟩ := HST.out
          have HAD := hid (addS_first cb s o3 c3 _ ((HK23.out.block cb (Array.getElem?_eq_some_iff.1 hno).1 (fun h => h)).trans hno) HR3.out HSO1.out)
          clear hc hno HST
          go_wp2_with fail
          refine HAD.out.mono ?_
          rintro e w4 ⟨rfl, mb, hC, hmb, k4⟩
          have HC4 := hid hC
          have HMB : Hid (w.heap.size ≤ mb) := by
            have h1 := HCB.out
            have h2 := HK3.out.size
            show _ ≤ _
            rcases hmb with h | h
            · have h' : mb = cb := h
              omega
            · omega
          have HK4 : Hid (Keeps (fun _ => False) w w4) := HK3.out.trans k4 (fun j hj e => by have e' : j = cb := e; have := HCB.out; omega)
          clear hC hmb k4 HAD
          go_wp2
          refine ⟨⟨k + 1, true, rfl, by go_num, HNX.out true w4 s rfl HK4.out ?_⟩, by simp only [intOf]; have := HK.out; omega⟩
          exact ⟨rfl, fun _ => ⟨mb, HMB.out, HC4.out⟩⟩
        | some c =>
          rw [hc] at HST HNX
          obtain ⟨rfl, hno⟩ := HST.out
          have HNO := hid hno
          clear hc hno HST
          cases hf : c.follow with
          | false =>
            go_wp2
            refine ⟨⟨k + 1, false, rfl, by go_num, HNX.out false _ s rfl HK3.out ?_⟩, by simp only [intOf]; have := HK.out; omega⟩
            show false = (c.add s).follow ∧ _
            rw [Chn.add_no (fun e => by rw [hf] at e; cases e.1)]
            exact ⟨rfl, fun e => by cases e⟩
          | true =>
            obtain ⟨mb, hmb, hC⟩ := HNO.out hf
            have HMB := hid hmb
            have HCH := hid (hC.kept HK23.out (fun h => h) (fun h => h))
            have HF := hid hf
            by_cases hgo : c.goes s
            · have HAD := hid (addS_next cb mb c s o3 c3 _ HCH.out HR3.out HSO1.out hgo)
              have HGO := hid hgo
              clear hC hmb hgo HNO
              go_wp2_with fail
              refine HAD.out.mono ?_
              rintro e w4 ⟨rfl, mb', hC, hmb, k4⟩
              have HC4 := hid hC
              have HMB' : Hid (w.heap.size ≤ mb') := by
                have h1 := HCB.out
                have h2 := HK3.out.size
                have h3 := HMB.out
                show _ ≤ _
                rcases hmb with (h | h) | h
                · have h' : mb' = cb := h
                  omega
                · have h' : mb' = mb := h
                  omega
                · omega
              have HK4 : Hid (Keeps (fun _ => False) w w4) := HK3.out.trans k4 (fun j hj e => by
                have h1 := HCB.out
                have h2 := HMB.out
                rcases e with e | e
                · have e' : j = cb := e
                  omega
                · have e' : j = mb := e
                  omega)
              clear hC hmb k4 HAD
              go_wp2
              refine ⟨⟨k + 1, true, rfl, by go_num, HNX.out true w4 s rfl HK4.out ?_⟩, by simp only [intOf]; have := HK.out; omega⟩
              show true = (c.add s).follow ∧ ((c.add s).follow = true → ∃ mb, w.heap.size ≤ mb ∧ ChAt w4 cb mb (c.add s).full (c.add s).a (c.add s).b (c.add s).M)
              rw [Chn.add_yes HF.out HGO.out]
              exact ⟨rfl, fun _ => ⟨mb', HMB'.out, HC4.out⟩⟩
            · have HAD := hid (add_not cb mb c.full s.full c.a c.b s.a s.b c.M (.slice o3 s.recs.length c3) _ HCH.out ⟨_, _, _, rfl⟩ (by
                by_cases h1 : s.full = true
                · exact .inl h1
                · exact .inr (fun h2 => hgo ⟨by simpa using h1, h2⟩)))
              have HGO := hid hgo
              clear hC hmb hgo HNO
              go_wp2_with fail
              refine HAD.out.mono ?_
              rintro e w4 ⟨rfl, k4⟩
              have HK4 : Hid (Keeps (fun _ => False) w w4) := HK3.out.tr k4 (fun _ h => h)
              clear k4 HAD
              go_wp2
              refine ⟨⟨k + 1, false, rfl, by go_num, HNX.out false w4 s rfl HK4.out ?_⟩, by simp only [intOf]; have := HK.out; omega⟩
              show false = (c.add s).follow ∧ _
              rw [Chn.add_no (fun e => HGO.out e.2)]
              exact ⟨rfl, fun e => by cases e⟩
    · have hkn : ¬ ((k : Int) < ts.length) := by omega
      have hke : k = ts.length := by have := hM.le; omega
      subst hke
      have htk : ts.take ts.length = ts := List.take_of_length_le (Nat.le_refl _)
      have hall := hM.all
      have hst := hM.st
      have hoks := hM.oks
      have hstr := hM.strs
      rw [htk] at hst hoks hstr
      have HKE := hid hM.keep
      cases hc : chn (ts.filterMap okS) with
      | none =>
        exfalso
        have h1 := filterMap_len hoks
        rw [chn_none hc] at h1
        exact HNE.out (List.eq_nil_of_length_eq_zero h1.symm)
      | some c =>
        rw [hc] at hst
        obtain ⟨rfl, hno⟩ := hst
        have HR : Hid (mgR ts = if c.follow = true then encR c.full c.a c.b (outC c.full c.L) else (⟨#[]⟩, 8)) := by
          show _ = _
          rw [hall]
          unfold mgS
          rw [hc]
        cases hf : c.follow with
        | false =>
          rw [hf] at HR
          clear hM hall hoks hstr hno hc hk
          go_wp2
          go_ret2
          exact ⟨by rw [HR.out, if_neg (by simp)]; rfl, HKE.out⟩
        | true =>
          obtain ⟨mb, hmb, hC⟩ := hno hf
          have hok := chn_ok ts.length (ts.filterMap okS) (filterMap_len hoks) hstr c hc
          have HOK := hid hok
          rw [hf, if_pos rfl] at HR
          have HST := hid (chStream_any cb mb c.full c.a c.b c.M wr hC (fun p hp => by have := hok.keys p hp; unfold maxLen; omega) (by have h1 := hok.few; have h2 := HN.out; omega))
          clear hM hall hoks hstr hno hc hk hok hC hmb htk
          go_wp2_with fail
          refine HST.out.mono ?_
          rintro e w2 ⟨ks, l, o, cp, rfl, hris, hperm, hlook, row, k2⟩
          have hl : l = outC c.full c.L := by
            have h1 := HOK.out.inv.out hris hperm
            rw [hlook] at h1
            exact (List.map_inj_right (fun _ _ h => Option.some.inj h)).1 h1
          have HL := hid hl
          have HK2 := hid (HKE.out.tr k2 (fun _ h => h))
          have HE := hid (encode_all c.full c.a c.b o cp l w2 row (fun r hr => by
            rw [hl] at hr
            have h1 : r ∈ c.L := by
              unfold outC at hr
              split at hr
              · exact (List.mem_filter.1 hr).1
              · exact hr
            have := HOK.out.small r h1
            unfold maxLen
            omega) (HG.out.kept HK2.out))
          clear hris hperm hlook row k2 hl HST
          go_wp2_with fail
          refine HE.out.mono ?_
          rintro e w3 ⟨rfl, k3⟩
          have HK3 := hid (HK2.out.tr k3 (fun _ h => h))
          clear k3 HE
          go_wp2
          go_ret2
          exact ⟨by rw [HR.out, ← HL.out]; rfl, HK3.out⟩

end Go.Proofs.YtpagenipflmlfaaGreatDoor

/- Carried: what the calls behind the states answer. -/

namespace Go.Proofs.YtpagenipflmlfaaGreatDoor

open Go.RowKit Go.Shelf

/-- the first store, while it is copied -/
structure CopSt (w : World) (b : Nat) (G : List Nat) (s0 s1 s2 : Nat) (L0 L1 L2 : List RecB) (N : Nat) (A : Gst) (wr : World) : Prop where
  st : HAt (fun j => j < w.heap.size ∨ j ∈ G) N wr b A
  car : Car s0 s1 s2 L0 L1 L2 A
  cops : A.copyings = []
  now : A.now ≤ 400000 + N
  keep : Keeps (fun _ => False) w wr
  low : ∀ g ∈ G, g < wr.heap.size

theorem CopSt.kept {w : World} {b : Nat} {G : List Nat} {s0 s1 s2 : Nat} {L0 L1 L2 : List RecB} {N : Nat} {A : Gst} {wr w' : World} (h : CopSt w b G s0 s1 s2 L0 L1 L2 N A wr) (hk : Keeps (fun _ => False) wr w') : CopSt w b G s0 s1 s2 L0 L1 L2 N A w' :=
  ⟨h.st.kept hk (fun _ _ h => h.elim), h.car, h.cops, h.now, h.keep.tr hk (fun _ h => h), fun g hg => Nat.lt_of_lt_of_le (h.low g hg) hk.size⟩

theorem txt_small {full : Bool} {a b : Nat} {L : List RecB} (hs : Small L) (hl : L.length ≤ 12) (ha : a ≤ 1000000000) (hb : b ≤ 1000000000) : (txtOf full a b L).size ≤ 100000 := by
  have h1 := head_len full (a := a) (b := b) (by omega) (by omega)
  have h2 := (parts_all L.length L (Nat.le_refl _)).1
  have h3 := (parts_len hs (List.range ((L.length + 3) / 4))).1
  rw [h2, List.length_range] at h3
  have n1 := numL_len 8 0 (by omega)
  have n2 := numL_len 8 L.length (by omega)
  unfold txtOf strOf
  rw [ofL_size, stream_told]
  simp only [tailL, sumL, List.length_append, List.length_cons, List.length_nil, List.length_map]
  omega

theorem car_copy {w : World} {b : Nat} {G : List Nat} {s0 s1 s2 : Nat} {L0 L1 L2 : List RecB} {N : Nat} {A : Gst} {wr : World} (h : CopSt w b G s0 s1 s2 L0 L1 L2 N A wr) (h01 : s0 < s1) (h12 : s1 < s2) (hs2 : s2 ≤ 1000000) {full : Bool} {a t : Nat} {L : List RecB} (ht : ∀ A, Car s0 s1 s2 L0 L1 L2 A → tellL A.keys A.vers (Cop.new full a t) = L) (hab : (full = true ∧ a = 0 ∧ s0 ≤ t ∨ full = false ∧ s0 ≤ a ∧ a < t) ∧ t ≤ s2)
    (hN : N ≤ 100000000) (hT : TurnsAt w) {oa : Option Addr} {n cap : Nat} {S : Nat → RawStep} (hS : StepsAt w oa n S) (hn : n ≤ maxLen) :
    Calls Tryz.prog 9 #[.pointer (some ⟨b, 0, none⟩), .bool full, .int .i64 (a : Nat), .int .i64 (t : Nat), .slice oa n cap] wr fun e w' => e = .returned (.tuple #[.string (txtOf full a t L), .bool true]) ∧ Keeps (fun j => ¬ (j < w.heap.size ∨ j ∈ G)) wr w' ∧ ∃ A', CopSt w b G s0 s1 s2 L0 L1 L2 (N + 1000) A' w' := by
  have g := h.st.ok
  have hc := h.car
  have hu := hc.upto
  have hf := hc.floor
  have hfit : fitB full a t = true := by
    rcases hab.1 with ⟨rfl, rfl, -⟩ | ⟨rfl, -, h2⟩
    · exact fit_full (by omega)
    · exact fit_delta h2 (by omega)
  have hj : A.judgeJ full a t = 0 := start_zero g hc.keys h.cops hfit (by rcases hab.1 with h1 | h1 <;> omega) (by
    rcases hab.1 with ⟨h1, -⟩ | h1
    · exact .inl h1
    · exact .inr (by omega))
  have hL : L.length ≤ 12 := by rw [← ht A hc]; exact tell_len12 g hc.keys _
  have hsm : Small L := by rw [← ht A hc]; exact recs_small (tell_recs g hc.gone)
  have hnow := h.now
  refine (copied_any (Car.cpr h01 h12 ht) h.st hc h.cops hj hL hsm (by rcases hab.1 with h1 | h1 <;> omega) (by omega) (fun j hj => by
    rcases hj with hj | hj
    · exact Nat.lt_of_lt_of_le hj h.keep.size
    · exact h.low j hj) (by omega) hT h.keep (fun j hj => .inl hj) hS (by omega) hn).mono ?_
  rintro e w' ⟨rfl, A', c1, c2, c3, c4, s1', k1⟩
  exact ⟨rfl, k1, A', s1', c1, c2, by omega, h.keep.trans k1 (fun j hj hn => hn (.inl hj)), fun g hg => Nat.lt_of_lt_of_le (h.low g hg) k1.size⟩

/-- the store that was restored -/
structure RAt (w3 : World) (b2 tb : Nat) (tx : Array Value) (A : Gst) (s : Nat) (N : Nat) (B : Gst) (wr : World) : Prop where
  st : HAt (fun j => j < w3.heap.size ∨ j = tb) N wr b2 B
  works : B.works = []
  now : B.now = (s : Nat)
  point : ∀ k, pairOf [] B.vers (s : Nat) k = pairOf [] A.vers (s : Nat) k
  keep : Keeps (fun _ => False) w3 wr
  txt : wr.heap[tb]? = some (.cells tx 9 (0, 0))
  tbn : w3.heap.size ≤ tb

theorem RAt.room {w3 : World} {b2 tb : Nat} {tx : Array Value} {A : Gst} {s N : Nat} {B : Gst} {wr : World} (h : RAt w3 b2 tb tx A s N B wr) : ∀ j, (j < w3.heap.size ∨ j = tb) → j < wr.heap.size := fun j hj => by
  rcases hj with hj | hj
  · exact Nat.lt_of_lt_of_le hj h.keep.size
  · rw [hj]; exact (Array.getElem?_eq_some_iff.1 h.txt).1

theorem RAt.kept {w3 : World} {b2 tb : Nat} {tx : Array Value} {A : Gst} {s N : Nat} {B : Gst} {wr w' : World} (h : RAt w3 b2 tb tx A s N B wr) (hk : Keeps (fun _ => False) wr w') : RAt w3 b2 tb tx A s N B w' :=
  ⟨h.st.kept hk (fun _ _ h => h.elim), h.works, h.now, h.point, h.keep.tr hk (fun _ h => h), (hk.block tb (Array.getElem?_eq_some_iff.1 h.txt).1 (fun h => h)).trans h.txt, h.tbn⟩

theorem r_start {w3 : World} {A : Gst} (g : Gok A) {s : Nat} {L : List RecB} (hl : tellL A.keys A.vers (Cop.new true 0 s) = L) (hj : judgeB true 0 s L = true) (hs : (txtOf true 0 s L).size ≤ 100000) (hg : Glob w3) (tx : Array Value) :
    Calls Tryz.prog 10 #[.string (txtOf true 0 s L)] w3 fun e w4 => ∃ b2, e = .returned (.tuple #[.pointer (some ⟨b2, 0, none⟩), .int .i64 0]) ∧ Keeps (fun _ => False) w3 w4 ∧ ∃ B, RAt w3 b2 w4.heap.size tx A s 1000 B (w4.alloc (.cells tx 9)) := by
  have hr := restore_any (txtOf true 0 s L) w3 (by omega) hg
  have e0 : readO (txtOf true 0 s L).data.toList = .ok (strOf true 0 s L) := by unfold txtOf; rw [ofL_list]; exact read_self hj
  rw [e0] at hr
  refine hr.mono ?_
  rintro e w4 ⟨hx, k4⟩
  simp only [strOf, if_true] at hx
  obtain ⟨b2, F2, rfl, g2, hF2⟩ := hx
  rw [recs_recB] at g2
  have hlt := g2.lt
  refine ⟨b2, rfl, k4, _, ⟨F2, (g2.kept (Keeps.alloc (fun _ => False) _ _) (fun _ _ h => h)), fun j hj ho => ?_⟩, rfl, rfl, fun k => ?_, k4.al _, heap_new w4 _, k4.size⟩
  · have h1 := hF2 j hj
    have h2 := hlt j hj
    omega
  · have := restored_point g (s : Int) k
    rw [hl] at this
    exact this

theorem r_apply {w3 : World} {b2 tb : Nat} {tx : Array Value} {A : Gst} (g : Gok A) {s t N : Nat} {B : Gst} {wr : World} (h : RAt w3 b2 tb tx A s N B wr) {l : List RecB} (hst : s < t) (hl : tellL A.keys A.vers (Cop.new false s t) = l) (hj : judgeB false s t l = true) (hs : (txtOf false s t l).size ≤ 100000) (hg : Glob w3) (hN : N ≤ 100000000) :
    Calls Tryz.prog 11 #[.pointer (some ⟨b2, 0, none⟩), .string (txtOf false s t l)] wr fun e w' => e = .returned (.int .i64 0) ∧ ∃ B', RAt w3 b2 tb tx A t (N + 1000) B' w' := by
  have e0 : readO (txtOf false s t l).data.toList = .ok ⟨false, s, t, l.map RecB.rec_⟩ := by unfold txtOf; rw [ofL_list]; exact read_self hj
  have hb := h.st.ok
  refine (apply_h (txtOf false s t l) s t (l.map RecB.rec_) h.st h.room (by omega) (by omega) (hg.kept h.keep) e0 h.now h.works).mono ?_
  rintro e w' ⟨rfl, s1, k1⟩
  rw [recs_recB] at s1
  have hp := (applied_pairs g hb s1.ok (a := (s : Nat)) (b := (t : Nat)) (by omega) h.now hl h.point).1
  refine ⟨rfl, _, s1, h.works, rfl, hp, h.keep.trans k1 (fun j hj hn => hn (.inl hj)), (k1.block tb (Array.getElem?_eq_some_iff.1 h.txt).1 (fun hn => hn (.inr rfl))).trans h.txt, h.tbn⟩

theorem r_asks {w3 : World} {b2 tb : Nat} {tx : Array Value} {A : Gst} (g : Gok A) {s N : Nat} {B : Gst} {wr : World} (h : RAt w3 b2 tb tx A s N B wr) {ps : List (ByteArray × ByteArray)} (hps : A.pairs (s : Nat) = ps) {v : Value} (hv : PairsAt w3 v ps) (hN : N ≤ 100000000) :
    Calls Tryz.prog 8 #[.pointer (some ⟨b2, 0, none⟩)] wr fun e w1 => ∃ o c, e = .returned (.tuple #[.slice o ps.length c, .bool true]) ∧
      Calls Tryz.prog 6 #[.pointer (some ⟨b2, 0, none⟩)] w1 fun e w2 => (∃ x1 x2 x3 x4 x5 : Int, e = .returned (.agg #[.int .i64 (s : Int), .int .i64 x1, .int .i64 x2, .int .i64 x3, .int .i64 x4, .int .i64 x5])) ∧ Keeps (fun _ => False) w3 w2 ∧
        Calls Tryz.prog 12 #[.slice o ps.length c, v] w2 fun e w4 => e = .returned (.bool true) ∧ ∃ B', RAt w3 b2 tb tx A s (N + 1) B' w4 := by
  have hb := h.st.ok
  have hpp : B.pairs B.now = ps := by rw [h.now, ← hps]; exact pairs_ext hb g h.point
  refine (all_any h.st h.room (by rw [h.works]; simp) (by omega)).mono ?_
  rintro e w1 ⟨v1, rfl, row1, own1, s1, k1⟩
  rw [hpp] at row1
  obtain ⟨o, c, rfl, -, -⟩ := row1.form
  refine ⟨o, c, rfl, ?_⟩
  have kw1 : Keeps (fun _ => False) w3 w1 := h.keep.trans k1 (fun j hj hn => hn (.inl hj))
  refine (look_c s1 (by omega)).mono ?_
  rintro e w2 ⟨rfl, s2, k2⟩
  have hn : B.asked1.now = (s : Nat) := h.now
  rw [hn]
  have kw2 : Keeps (fun _ => False) w3 w2 := kw1.tr k2 (fun _ h => h)
  refine ⟨⟨_, _, _, _, _, rfl⟩, kw2, ?_⟩
  refine (same_eq _ _ ps w2 (row1.kept k2 (fun _ _ h => h)) (hv.kept kw2 (fun _ _ h => h))).mono ?_
  rintro e w4 ⟨rfl, k4⟩
  have htx1 := (k1.block tb (Array.getElem?_eq_some_iff.1 h.txt).1 (fun hn => hn (.inr rfl))).trans h.txt
  have k14 := k2.tr k4 (fun _ h => h)
  refine ⟨rfl, _, (s2.kept k4 (fun _ _ h => h.elim)).more (Nat.le_refl _) (fun j hj => .inl (.inl hj)), h.works, h.now, h.point, kw2.tr k4 (fun _ h => h), (k14.block tb (Array.getElem?_eq_some_iff.1 htx1).1 (fun h => h)).trans htx1, h.tbn⟩

/-- the merged stream, restored -/
theorem m_end {wr : World} {A : Gst} (g : Gok A) {s : Nat} (hj : judgeB true 0 s (A.lastL s) = true) (hs : (txtOf true 0 s (A.lastL s)).size ≤ 100000) (hg : Glob wr) {ps : List (ByteArray × ByteArray)} (hps : A.pairs (s : Nat) = ps) :
    Calls Tryz.prog 10 #[.string (txtOf true 0 s (A.lastL s))] wr fun e w1 => ∃ b3, e = .returned (.tuple #[.pointer (some ⟨b3, 0, none⟩), .int .i64 0]) ∧
      Calls Tryz.prog 8 #[.pointer (some ⟨b3, 0, none⟩)] w1 fun e w2 => ∃ o c, e = .returned (.tuple #[.slice o ps.length c, .bool true]) ∧ Keeps (fun _ => False) wr w2 ∧
        ∀ v, PairsAt wr v ps → Calls Tryz.prog 12 #[.slice o ps.length c, v] w2 fun e w4 => e = .returned (.bool true) ∧ Keeps (fun _ => False) wr w4 := by
  have hr := restore_any (txtOf true 0 s (A.lastL s)) wr (by omega) hg
  have e0 : readO (txtOf true 0 s (A.lastL s)).data.toList = .ok (strOf true 0 s (A.lastL s)) := by unfold txtOf; rw [ofL_list]; exact read_self hj
  rw [e0] at hr
  refine hr.mono ?_
  rintro e w1 ⟨hx, k1⟩
  simp only [strOf, if_true] at hx
  obtain ⟨b3, F3, rfl, g3, hF3⟩ := hx
  rw [recs_recB] at g3
  refine ⟨b3, rfl, ?_⟩
  have s1 : HAt (fun j => j < wr.heap.size) 1000 w1 b3 (Gst.told (A.lastL s) (s : Nat)) := ⟨F3, g3, fun j hj hlt => by have := hF3 j hj; omega⟩
  have hpp : (Gst.told (A.lastL s) (s : Nat)).pairs (Gst.told (A.lastL s) (s : Nat)).now = ps := by
    rw [← hps]
    exact told_back g (s : Nat)
  refine (all_any s1 (fun j hj => Nat.lt_of_lt_of_le hj k1.size) (by simp [Gst.told]) (by omega)).mono ?_
  rintro e w2 ⟨v2, rfl, row2, own2, -, k2⟩
  rw [hpp] at row2
  obtain ⟨o, c, rfl, -, -⟩ := row2.form
  have kw2 : Keeps (fun _ => False) wr w2 := k1.trans k2 (fun j hj h => h hj)
  refine ⟨o, c, rfl, kw2, fun v hv => ?_⟩
  refine (same_eq _ _ ps w2 row2 (hv.kept kw2 (fun _ _ h => h))).mono ?_
  rintro e w4 ⟨rfl, k4⟩
  exact ⟨rfl, kw2.tr k4 (fun _ h => h)⟩

end Go.Proofs.YtpagenipflmlfaaGreatDoor

/- Carried: behind the states. -/

namespace Go.Proofs.YtpagenipflmlfaaGreatDoor

open Go.RowKit Go.Shelf

/-- three states and lists, as they lie -/
structure EndMem (G : List Nat) (gs gw : Nat) (S : Nat → Nat) (V : Nat → Value) (PS : Nat → List (ByteArray × ByteArray)) (wr : World) : Prop where
  st : ∀ i, i < 3 → wr.cell? ⟨gs, i, none⟩ = some (.int .i64 (S i : Int))
  wn : ∀ i, i < 3 → wr.cell? ⟨gw, i, none⟩ = some (V i)
  ls : ∀ i, i < 3 → PairsAt wr (V i) (PS i)
  inS : gs ∈ G
  inW : gw ∈ G
  inV : ∀ i, i < 3 → ∀ g, (V i).ownBlock = some g → g ∈ G

theorem EndMem.kept {G : List Nat} {gs gw : Nat} {S : Nat → Nat} {V : Nat → Value} {PS : Nat → List (ByteArray × ByteArray)} {wr w' : World} {T : Nat → Prop} (h : EndMem G gs gw S V PS wr) (hk : Keeps T wr w') (hT : ∀ g ∈ G, ¬ T g) : EndMem G gs gw S V PS w' :=
  ⟨fun i hi => hk.cell (h.st i hi) (hT gs h.inS), fun i hi => hk.cell (h.wn i hi) (hT gw h.inW), fun i hi => (h.ls i hi).kept hk (fun g hg => hT g (h.inV i hi g hg)), h.inS, h.inW, h.inV⟩

/-- what the copyings tell -/
def tellS (A : Gst) (S : Nat → Nat) : Nat → List RecB
  | 0 => tellL A.keys A.vers (Cop.new true 0 (S 0))
  | k + 1 => tellL A.keys A.vers (Cop.new false (S k) (S (k + 1)))

theorem list3 {α : Type} {l : List α} (h : l.length = 3) : ∃ a b c, l = [a, b, c] := by
  match l, h with
  | [a, b, c], _ => exact ⟨a, b, c, rfl⟩

theorem car_end {w : World} {b pb : Nat} {pv : Array Value} {st wn : Value} {wr : World} {ss : List Nat} {pss : List (List (ByteArray × ByteArray))} {vs : List Value} {G : List Nat} {A : Gst} (h : CarInv w b pb pv 3 st wn wr ss pss vs G 0 A) :
    ∃ (S : Nat → Nat) (V : Nat → Value) (gs cs gw cw : Nat), st = .slice (some ⟨gs, 0, none⟩) 3 cs ∧ wn = .slice (some ⟨gw, 0, none⟩) 3 cw ∧ EndMem G gs gw S V (fun i => A.pairs (S i : Int)) wr ∧ CopSt w b G (S 0) (S 1) (S 2) (tellS A S 0) (tellS A S 1) (tellS A S 2) 12000000 A wr ∧ Tri (S 0) (S 1) (S 2) (tellS A S 0) (tellS A S 1) (tellS A S 2) A ∧ S 2 ≤ 400000 := by
  obtain ⟨s0, s1, s2, rfl⟩ := list3 h.len
  have hp := h.car.pairs
  have hm := h.mem.many
  rw [← hp] at hm
  obtain ⟨v0, v1, v2, rfl⟩ := list3 (l := vs) (by rw [hm]; rfl)
  have hst := h.mem.states
  have hwn := h.mem.wants
  obtain ⟨gs, cs, rfl⟩ := hst.succ (n := 2)
  obtain ⟨gw, cw, rfl⟩ := hwn.succ (n := 2)
  have hr := h.car.rises
  have h01 : s0 < s1 := (List.pairwise_cons.1 hr).1 s1 (by simp)
  have h12 : s1 < s2 := (List.pairwise_cons.1 (List.pairwise_cons.1 hr).2).1 s2 (by simp)
  have hu := h.car.upto s2 (by simp)
  have hnow := h.now
  have hgs : gs ∈ G := h.mem.gst gs rfl
  have hgw : gw ∈ G := h.mem.gwn gw rfl
  let S : Nat → Nat := fun i => match i with | 0 => s0 | 1 => s1 | _ => s2
  let V : Nat → Value := fun i => match i with | 0 => v0 | 1 => v1 | _ => v2
  have hlists : ∀ i, i < 3 → PairsAt wr (V i) (A.pairs (S i : Int)) := fun i hi => by
    have hl := h.mem.lists
    subst hp
    match i, hi with
    | 0, _ => exact hl 0 (by simp) (by simp)
    | 1, _ => exact hl 1 (by simp) (by simp)
    | 2, _ => exact hl 2 (by simp) (by simp)
  refine ⟨S, V, gs, cs, gw, cw, rfl, rfl, ⟨fun i hi => ?_, fun i hi => ?_, hlists, hgs, hgw, fun i hi g hg => ?_⟩, ⟨h.st.more (by omega) (fun j hj => .inl hj), ⟨h.car.works, ?_, h.car.keys, hu, ?_, h.car.gone, rfl, rfl, rfl⟩, h.car.cops, by omega, h.keep, fun g hg => (h.mem.new g hg).2⟩, ⟨h.st.ok, h.car.keys, h.car.gone, h01, h12, by show s2 ≤ _; omega, rfl, rfl, rfl⟩, by show s2 ≤ _; omega⟩
  · rw [hst.cellAt i (by simpa using hi)]
    match i, hi with
    | 0, _ => rfl
    | 1, _ => rfl
    | 2, _ => rfl
  · rw [hwn.cellAt i (by simpa using hi)]
    match i, hi with
    | 0, _ => rfl
    | 1, _ => rfl
    | 2, _ => rfl
  · refine h.mem.gvs (V i) ?_ g hg
    match i, hi with
    | 0, _ => simp [V]
    | 1, _ => simp [V]
    | 2, _ => simp [V]
  · rw [h.car.pins]; rfl
  · rw [h.car.floor]; omega

/-- the texts -/
def textS (A : Gst) (S : Nat → Nat) : Nat → ByteArray
  | 0 => txtOf true 0 (S 0) (tellS A S 0)
  | k + 1 => txtOf false (S k) (S (k + 1)) (tellS A S (k + 1))

def textsV (A : Gst) (S : Nat → Nat) : Array Value := #[.string (textS A S 0), .string (textS A S 1), .string (textS A S 2)]

theorem text_at {A : Gst} {S : Nat → Nat} {k : Nat} (hk : k < 3) : (textsV A S)[k]? = some (.string (textS A S k)) := by
  match k, hk with
  | 0, _ => rfl
  | 1, _ => rfl
  | 2, _ => rfl

theorem text_size {A : Gst} {S : Nat → Nat} (h : Tri (S 0) (S 1) (S 2) (tellS A S 0) (tellS A S 1) (tellS A S 2) A) {k : Nat} (hk : k < 3) : (textS A S k).size ≤ 100000 := by
  have h1 := h.h01
  have h2 := h.h12
  have h3 := h.h2
  match k, hk with
  | 0, _ => exact txt_small (by rw [← h.t0]; exact recs_small (tell_recs h.ok h.gone)) (by rw [← h.t0]; exact tell_len12 h.ok h.keys _) (by omega) (by omega)
  | 1, _ => exact txt_small (full := false) (a := S 0) (b := S 1) (by rw [← h.t1]; exact recs_small (tell_recs h.ok h.gone)) (by rw [← h.t1]; exact tell_len12 h.ok h.keys _) (by omega) (by omega)
  | 2, _ => exact txt_small (full := false) (a := S 1) (b := S 2) (by rw [← h.t2]; exact recs_small (tell_recs h.ok h.gone)) (by rw [← h.t2]; exact tell_len12 h.ok h.keys _) (by omega) (by omega)

theorem last_size {A : Gst} {s0 s1 s2 : Nat} {L0 L1 L2 : List RecB} (h : Tri s0 s1 s2 L0 L1 L2 A) : (txtOf true 0 s2 (A.lastL s2)).size ≤ 100000 := by
  have h3 := h.h2
  have e : A.lastL s2 = tellL A.keys A.vers (Cop.new true 0 s2) := (tell_full A s2).symm
  exact txt_small (by rw [e]; exact recs_small (tell_recs h.ok h.gone)) (by rw [e]; exact tell_len12 h.ok h.keys _) (by omega) (by omega)

theorem both_size {A : Gst} {s0 s1 s2 : Nat} {L0 L1 L2 : List RecB} (h : Tri s0 s1 s2 L0 L1 L2 A) : (txtOf false s0 s2 (bothL L1 L2)).size ≤ 100000 := by
  have h1 := h.h01
  have h2 := h.h12
  have h3 := h.h2
  exact txt_small (recs_small (full := false) (fun r hr => (h.recs r (both_mem h r hr)).1)) (both_len h) (by omega) (by omega)

/-- a delta of them, applied -/
theorem text_apply {w3 : World} {b2 tb : Nat} {tx : Array Value} {A : Gst} {S : Nat → Nat} (h : Tri (S 0) (S 1) (S 2) (tellS A S 0) (tellS A S 1) (tellS A S 2) A) {k N : Nat} (hk : k + 1 < 3) {B : Gst} {wr : World} (hR : RAt w3 b2 tb tx A (S k) N B wr) (hg : Glob w3) (hN : N ≤ 100000000) :
    Calls Tryz.prog 11 #[.pointer (some ⟨b2, 0, none⟩), .string (textS A S (k + 1))] wr fun e w' => e = .returned (.int .i64 0) ∧ ∃ B', RAt w3 b2 tb tx A (S (k + 1)) (N + 1000) B' w' := by
  have hjj := h.judges
  have j1 := hjj.2.1
  have j2 := hjj.2.2.1
  clear hjj
  have hs : (textS A S (k + 1)).size ≤ 100000 := text_size h hk
  have key : ∀ (a t : Nat) (l : List RecB) (x : ByteArray), x = txtOf false a t l → RAt w3 b2 tb tx A a N B wr → a < t → tellL A.keys A.vers (Cop.new false a t) = l → judgeB false a t l = true → x.size ≤ 100000 → Calls Tryz.prog 11 #[.pointer (some ⟨b2, 0, none⟩), .string x] wr fun e w' => e = .returned (.int .i64 0) ∧ ∃ B', RAt w3 b2 tb tx A t (N + 1000) B' w' := fun a t l x hx hR hat hl hj hs => by
    subst hx
    exact r_apply h.ok hR hat hl hj hs hg hN
  rcases (show k = 0 ∨ k = 1 by omega) with e | e
  · subst e
    exact key (S 0) (S 1) (tellS A S 1) (textS A S 1) rfl hR h.h01 h.t1 j1 hs
  · subst e
    exact key (S 1) (S 2) (tellS A S 2) (textS A S 2) rfl hR h.h12 h.t2 j2 hs

end Go.Proofs.YtpagenipflmlfaaGreatDoor

/- Carried: its merges. -/

namespace Go.Proofs.YtpagenipflmlfaaGreatDoor

open Go.RowKit Go.Shelf

theorem RAt.more {w3 : World} {b2 tb : Nat} {tx : Array Value} {A : Gst} {s N N' : Nat} {B : Gst} {wr : World} (h : RAt w3 b2 tb tx A s N B wr) (hN : N ≤ N') : RAt w3 b2 tb tx A s N' B wr :=
  ⟨h.st.more hN (fun _ hj => .inl hj), h.works, h.now, h.point, h.keep, h.txt, h.tbn⟩

theorem merge2_any (t1 t2 m : ByteArray) (W : World) (hg : Glob W) (h1 : t1.size ≤ 100000) (h2 : t2.size ≤ 100000) (hm : mgR [t1, t2] = (m, 0)) :
    Calls Tryz.prog 13 #[.slice (some ⟨W.heap.size, 0, none⟩) 2 2] (W.alloc (.cells #[.string t1, .string t2] 9)) fun e w' => e = .returned (.tuple #[.string m, .int .i64 0]) ∧ Keeps (fun _ => False) W w' := by
  have hh := heap_new W (.cells #[.string t1, .string t2] 9)
  have hT : TxtIn (W.alloc (.cells #[.string t1, .string t2] 9)) (some ⟨W.heap.size, 0, none⟩) [t1, t2] := fun i hi => by
    refine ⟨W.heap.size, 0, rfl, ?_⟩
    rw [Nat.zero_add, cell_of_heap hh i]
    match i, hi with
    | 0, _ => rfl
    | 1, _ => rfl
  have := merge_any (some ⟨W.heap.size, 0, none⟩) 2 [t1, t2] _ hT (by simp) (fun t ht => by simp at ht; rcases ht with rfl | rfl <;> omega) (hg.kept (Keeps.alloc _ _ _)) (by simp)
  refine this.mono ?_
  rintro e w' ⟨rfl, hk⟩
  rw [hm]
  exact ⟨rfl, ((Keeps.refl _ _).al _).tr hk (fun _ h => h)⟩

theorem merge3_any (t1 t2 t3 m : ByteArray) (tb : Nat) (w : World) (hh : w.heap[tb]? = some (.cells #[.string t1, .string t2, .string t3] 9 (0, 0))) (hg : Glob w) (h1 : t1.size ≤ 100000) (h2 : t2.size ≤ 100000) (h3 : t3.size ≤ 100000) (hm : mgR [t1, t2, t3] = (m, 0)) :
    Calls Tryz.prog 13 #[.slice (some ⟨tb, 0, none⟩) 3 3] w fun e w' => e = .returned (.tuple #[.string m, .int .i64 0]) ∧ Keeps (fun _ => False) w w' := by
  have hT : TxtIn w (some ⟨tb, 0, none⟩) [t1, t2, t3] := fun i hi => by
    refine ⟨tb, 0, rfl, ?_⟩
    rw [Nat.zero_add, cell_of_heap hh i]
    match i, hi with
    | 0, _ => rfl
    | 1, _ => rfl
    | 2, _ => rfl
  have := merge_any (some ⟨tb, 0, none⟩) 3 [t1, t2, t3] w hT (by simp) (fun t ht => by simp at ht; rcases ht with rfl | rfl | rfl <;> omega) hg (by simp)
  refine this.mono ?_
  rintro e w' ⟨rfl, hk⟩
  rw [hm]
  exact ⟨rfl, hk⟩

end Go.Proofs.YtpagenipflmlfaaGreatDoor
