import Derived.Test.YtkpaiaddikpdoaaGreatDoorM23
import Derived.Test.YtkpaiaddikpdoaaGreatDoorRows
import Derived.LaidLaws
import Derived.LaidHandle
import Derived.Lib.LaidTab

/- looks: all lists of records hold what their owner wrote. -/

namespace Go.Proofs.YtkpaiaddikpdoaaGreatDoor

open Go.RowKit Go.Shelf

theorem Row.fullAt {w : World} {g n cap : Nat} {m : ByteArray} (h : Row w 31 3 (.slice (some ⟨g, 0, none⟩) n cap) n (fullR m n)) {j : Nat} (hj : j < n) : w.cell? ⟨g, j * 3, none⟩ = some (.string m) ∧ w.cell? ⟨g, j * 3 + 1, none⟩ = some (.string m) ∧ w.cell? ⟨g, j * 3 + 2, none⟩ = some (.bool true) := by
  refine ⟨?_, ?_, ?_⟩
  · rw [h.cellAt (j * 3) (by omega), fullR_get m (by omega)]
    unfold patR
    rw [if_neg (by omega)]
  · rw [h.cellAt (j * 3 + 1) (by omega), fullR_get m (by omega)]
    unfold patR
    rw [if_neg (by omega)]
  · rw [h.cellAt (j * 3 + 2) (by omega), fullR_get m (by omega)]
    unfold patR
    rw [if_pos (by omega)]

set_option maxRecDepth 100000 in
set_option maxHeartbeats 2000000 in
theorem looksR_any {K bb : Nat} {G : List Nat} (w : World) (h : BookR K w bb G) (hK : K ≤ 10000000000) :
    Calls Tryz.prog 5 #[.pointer (some ⟨bb, 0, none⟩)] w fun e w' => e = .returned (.bool true) ∧ Keeps (fun _ => False) w w' := by
  obtain ⟨vp, vm, nx, Ls, h, rfl⟩ := h
  obtain ⟨op, cp, rfl, hmp, sp⟩ := h.pairs.form
  obtain ⟨om, cm, rfl, hmm, sm⟩ := h.marks.form
  have t0 : w.cell? ⟨bb, 0, none⟩ = some (.slice none 0 0) := cell_of_heap h.top 0
  have t2 : w.cell? ⟨bb, 2, none⟩ = some (.slice op Ls.length cp) := cell_of_heap h.top 2
  have t3 : w.cell? ⟨bb, 3, none⟩ = some (.slice om Ls.length cm) := cell_of_heap h.top 3
  have hlen := h.len
  have HB := hid h
  have SP := hid sp
  have SM := hid sm
  have hL : (Ls.length : Int) ≤ 40000000000 := by omega
  unfold maxLen at hmp hmm
  clear h sp sm hlen hK
  go_enter Tryz.func5, Tryz.ntmps5
  go_wp2_with fail
  go_loopw [3] (fun i wq => i = .int .i64 0 ∧ Keeps (fun _ => False) w wq) (fun _ _ => 0)
  case atStart => exact ⟨rfl, Keeps.refl _ _⟩
  case round =>
    obtain ⟨rfl, hk0⟩ := hrel
    have q0 := hk0.cell t0 (fun h => h)
    have HK0 := hid hk0
    clear hk0
    go_wp2_with fail
    go_loopw [5] (fun i wr => ∃ k : Nat, k ≤ Ls.length ∧ i = .int .i64 k ∧ Keeps (fun _ => False) w wr) (fun i _ => Ls.length - (intOf i).toNat)
    case atStart => exact ⟨0, Nat.zero_le _, rfl, HK0.out⟩
    case round =>
      obtain ⟨k, hk, rfl, hkr⟩ := hrel
      have q2 := hkr.cell t2 (fun h => h)
      have q3 := hkr.cell t3 (fun h => h)
      by_cases hlt : k < Ls.length
      · obtain ⟨gp, rfl⟩ := SP.out (by omega)
        obtain ⟨gm, rfl⟩ := SM.out (by omega)
        obtain ⟨p, hp⟩ : ∃ p, p = Ls[k] := ⟨_, rfl⟩
        obtain ⟨n, hn, hrow⟩ := HB.out.lists p (hp ▸ List.getElem_mem hlt)
        have d0 : w.cell? ⟨gp, k, none⟩ = some p.1 := by
          rw [HB.out.pairs.cellAt k (by omega), List.getElem?_map, List.getElem?_eq_getElem hlt, ← hp]
          rfl
        have d1 : w.cell? ⟨gm, k, none⟩ = some (.string p.2) := by
          rw [HB.out.marks.cellAt k (by omega), List.getElem?_map, List.getElem?_eq_getElem hlt, ← hp]
          rfl
        obtain ⟨ol, cl, hpl, hml, sl⟩ := hrow.form
        rw [hpl] at d0 hrow
        generalize p.2 = m at *
        have q4 := hkr.cell d0 (fun h => h)
        have HROW := hid hrow
        have SL := hid sl
        have HKR := hid hkr
        have hnI : (n : Int) ≤ 100000000000 := by omega
        have hltI : (k : Int) < Ls.length := by omega
        clear hp hpl hrow sl hkr hml
        go_wp2_with fail
        go_loopw [6] (fun i wq => ∃ j : Nat, j ≤ n ∧ i = .int .i64 j ∧ Keeps (fun _ => False) w wq) (fun i _ => n - (intOf i).toNat)
        case atStart => exact ⟨0, Nat.zero_le _, rfl, HKR.out⟩
        case round =>
          obtain ⟨j, hj, rfl, hkq⟩ := hrel
          have p2 := hkq.cell t2 (fun h => h)
          have p1 := hkq.cell t3 (fun h => h)
          have p3 := hkq.cell d0 (fun h => h)
          have p4 := hkq.cell d1 (fun h => h)
          by_cases hjn : j < n
          · obtain ⟨gl, rfl⟩ := SL.out (by omega)
            obtain ⟨y0, y1, y2⟩ := (HROW.out.kept hkq (fun _ _ h => h)).fullAt hjn
            have HKQ := hid hkq
            clear hkq q0 q2 q3 q4 t0 t2 t3 d0 d1
            go_wp2_with fail
            go_region
            go_wp2
            exact ⟨⟨j + 1, by omega, by go_num, HKQ.out.dr⟩, by simp only [intOf]; omega⟩
          · have HKQ := hid hkq
            clear hkq
            go_wp2
            exact ⟨⟨k + 1, by omega, by go_num, HKQ.out⟩, by simp only [intOf]; omega⟩
      · have HKR := hid hkr
        clear hkr
        go_wp2
        go_ret
        exact ⟨rfl, HKR.out⟩

end Go.Proofs.YtkpaiaddikpdoaaGreatDoor

/- annalslaw: merge. -/

namespace Go.Proofs.YtkpaiaddikpdoaaGreatDoor

open Go.RowKit Go.Shelf

attribute [local go_sem] Oper.semAt_some

theorem mgR_nil : mgR [] = (⟨#[]⟩, 6) := by
  unfold mgR
  rw [if_pos (by intro t ht; cases ht)]
  rfl

theorem merge_all (oa : Option Addr) (cap : Nat) (ts : List ByteArray) (w : World) (hT : TxtIn w oa ts) (hn : ts.length ≤ 1100000) (hs : ∀ t ∈ ts, t.size ≤ 1000000000) (hg : Glob w) :
    Calls Tryz.prog 15 #[.slice oa ts.length cap] w (MgPost ts w) := by
  by_cases hne : ts = []
  · subst hne
    show Calls Tryz.prog 15 #[.slice oa 0 cap] w (MgPost [] w)
    have HR := hid mgR_nil
    clear hT hn hs hg
    go_enter Tryz.func15, Tryz.ntmps15
    go_wp2
    go_ret2
    exact ⟨by rw [HR.out]; rfl, Keeps.refl _ _⟩
  · exact merge_any oa cap ts w hT hn hs hg hne

theorem refMerge_all (oa : Option Addr) (cap : Nat) (ts : List ByteArray) (w : World) (hT : TxtIn w oa ts) (hn : ts.length ≤ 1100000) (hs : ∀ t ∈ ts, t.size ≤ 1000000000) :
    Calls Tryz.prog 16 #[.slice oa ts.length cap] w (MgPost ts w) := by
  by_cases hne : ts = []
  · subst hne
    show Calls Tryz.prog 16 #[.slice oa 0 cap] w (MgPost [] w)
    have HR := hid mgR_nil
    clear hT hn hs
    go_enter Tryz.func16, Tryz.ntmps16
    go_wp2
    go_ret2
    exact ⟨by rw [HR.out]; rfl, Keeps.refl _ _⟩
  · exact refMerge_any oa cap ts w hT hn hs hne

theorem TxtIn.ofRow {w : World} {oa : Option Addr} {cap : Nat} {l : List ByteArray} (h : Row w 9 1 (.slice oa l.length cap) l.length (l.flatMap txtCells)) : TxtIn w oa l := fun i hi => by
  obtain ⟨oa', ca', he, -, sa⟩ := h.form
  cases he
  obtain ⟨g, rfl⟩ := sa (by omega)
  refine ⟨g, 0, rfl, ?_⟩
  rw [Nat.zero_add]
  exact txt_at h (Keeps.refl _ _) (List.getElem?_eq_getElem hi)

set_option maxRecDepth 100000 in
set_option maxHeartbeats 4000000 in
theorem lawMerge_any (oa : Option Addr) (cap : Nat) (ts : List ByteArray) (w : World) (hT : TxtIn w oa ts) (hn : ts.length ≤ 1100000) (hs : ∀ t ∈ ts, t.size ≤ 1000000000) (hg : Glob w) :
    Calls Tryz.prog 7 #[.slice oa ts.length cap] w fun e w' => e = .returned (.bool true) ∧ Keeps (fun _ => False) w w' := by
  obtain ⟨i0, hi, hz0, hz1, hz2⟩ := info_parts Tryz.infoTxt
  have HT := hid hT
  have HS := hid hs
  have HG := hid hg
  have HN := hid hn
  have hnI : (ts.length : Int) ≤ 1100000 := by omega
  clear hT hs hg hn
  go_enter Tryz.func7, Tryz.ntmps7
  go_wp2_with fail
  go_loopw [3, 4] (fun v i wr => ∃ k : Nat, k ≤ ts.length ∧ i = .int .i64 (k : Nat) ∧ Made 9 1 txtCells w wr v (ts.take k)) (fun _ i _ => ts.length - (intOf i).toNat)
  case atStart => exact ⟨0, Nat.zero_le _, rfl, Made.nil (Keeps.refl _ _)⟩
  case round =>
    obtain ⟨k, hk, rfl, hM⟩ := hrel
    have hkI : (k : Int) ≤ ts.length := by omega
    obtain ⟨ob, cb, rfl, -, -⟩ := hM.row.form
    by_cases hkl : k < ts.length
    · obtain ⟨g, off, rfl, r0⟩ := (HT.out.kept hM.keep) k hkl
      have HTK : Hid (ts.take (k + 1) = ts.take k ++ [ts[k]]) := List.take_succ_eq_append_getElem hkl
      have hklI : (k : Int) < ts.length := by omega
      have hal : (ts.take k).length ≤ 1100000 := by rw [List.length_take]; have := HN.out; omega
      have HAL := hid hal
      have HM := hid hM
      have HKL := hid hkl
      have halI : ((ts.take k).length : Int) ≤ 1100000 := by omega
      clear hM hal hk
      generalize ts[k] = text at *
      clear hkl
      generalize ts.take k = al at *
      go_wp2_with (first | (at_builtin; go_must (refine wpList_append_row _ rfl _ _ 23 rfl 9 i0 _ 1 16 Tryz.underlying23 hi hz0 hz1 hz2 rfl (.slice ob al.length cb) al.length _ rfl (HM.out.row.kept (Keeps.alloc (fun _ => False) _ _) (fun _ _ h => h)) ⟨wr.heap.size, 0, none⟩ 1 1 [.string text] rfl rfl (news_arr _ #[.string text] _) (by simp [Value.oneCell']) (by have := HAL.out; unfold maxLen; omega) (by have := HAL.out; omega) ?_; intro v' w8 hown' hgrow _ hat; obtain ⟨g', cap', rfl⟩ := hown'.succ; have HN8 := hid (HM.out.push (a := text) (Keeps.alloc (fun _ => False) _ _) hown' hgrow hat); clear hown' hgrow hat)) | fail)
      exact ⟨⟨k + 1, HKL.out, by go_num, by rw [HTK.out]; exact HN8.out⟩, by simp only [intOf]; have := HKL.out; omega⟩
    · obtain ⟨w0, rfl⟩ : ∃ w0, w0 = wr := ⟨_, rfl⟩
      have hkn : ¬ ((k : Int) < ts.length) := by omega
      have e : ts.take k = ts := List.take_of_length_le (by omega)
      rw [e] at hM ⊢
      have HM1 := hid (merge_all ob cb ts w0 (TxtIn.ofRow hM.row) HN.out HS.out (HG.out.kept hM.keep))
      have HM2 := hid (fun W (hW : Keeps (fun _ => False) w W) => refMerge_all oa cap ts W (HT.out.kept hW) HN.out HS.out)
      have HKE := hid hM.keep
      have HRW := hid hM.row
      unfold MgPost at HM1 HM2
      obtain ⟨A, hA⟩ : ∃ A, A = (mgR ts).1 := ⟨_, rfl⟩
      obtain ⟨B, hB⟩ : ∃ B, B = (mgR ts).2 := ⟨_, rfl⟩
      rw [← hA, ← hB] at HM1 HM2
      clear hM hk hkl e hA hB
      go_wp2_with fail
      refine HM1.out.mono ?_
      rintro e w2 ⟨rfl, k2⟩
      have HK2 := hid (HKE.out.tr k2 (fun _ h => h))
      have HR2 := hid (HRW.out.kept k2 (fun _ _ h => h))
      clear k2 HM1
      go_wp2_with fail
      refine (HM2.out _ HK2.out).mono ?_
      rintro e w3 ⟨rfl, k3⟩
      have HK3 := hid (HK2.out.tr k3 (fun _ h => h))
      have HR3 := hid (HR2.out.kept k3 (fun _ _ h => h))
      clear k3 HM2
      go_wp2_with fail
      go_loopw [9] (fun i wr => ∃ j : Nat, j ≤ ts.length ∧ i = .int .i64 (j : Nat) ∧ Keeps (fun _ => False) w3 wr) (fun i _ => ts.length - (intOf i).toNat)
      case atStart => exact ⟨0, Nat.zero_le _, rfl, Keeps.refl _ _⟩
      case round =>
        obtain ⟨j, hj, rfl, hkj⟩ := hrel
        have hjI : (j : Int) ≤ ts.length := by omega
        have HKJ := hid hkj
        by_cases hjl : j < ts.length
        · obtain ⟨g1, off1, rfl, r1⟩ := (HT.out.kept (HK3.out.tr hkj (fun _ h => h))) j hjl
          obtain ⟨g2, off2, rfl, r2⟩ := (TxtIn.ofRow (HR3.out.kept hkj (fun _ _ h => h))) j hjl
          have hjlI : (j : Int) < ts.length := by omega
          have HJL := hid hjl
          clear hkj hj
          generalize ts[j] = text at *
          clear hjl
          go_wp2_with fail
          go_region
          go_wp2
          exact ⟨⟨j + 1, HJL.out, by go_num, HKJ.out.dr⟩, by simp only [intOf]; have := HJL.out; omega⟩
        · have hjn : ¬ ((j : Int) < ts.length) := by omega
          have HNU := hid (fun W => num_any (B : Nat) W)
          clear hkj hj hjl
          go_wp2_with (go_at_call 11; go_must (refine (HNU.out _).mono ?_; rintro e w6 ⟨rfl, rfl⟩))
          go_ret
          exact ⟨rfl, HK3.out.tr HKJ.out (fun _ h => h)⟩

end Go.Proofs.YtkpaiaddikpdoaaGreatDoor

/- annalslaw: Book.decode. -/

namespace Go.Proofs.YtkpaiaddikpdoaaGreatDoor

open Go.RowKit Go.Shelf

attribute [local go_sem] Oper.semAt_some

/-! what Decode says, in one form -/

def dFull : RdO → Bool
  | some (.inr s) => s.full
  | _ => false

def dA : RdO → Nat
  | some (.inr s) => s.a
  | _ => 0

def dB : RdO → Nat
  | some (.inr s) => s.b
  | _ => 0

def dL : RdO → List RecB
  | some (.inr s) => s.recs.map recB
  | _ => []

def dAt : RdO → Nat
  | some (.inl p) => p
  | _ => 0

def dE : RdO → Nat
  | some (.inr _) => 0
  | none => 7
  | some (.inl _) => 6

def DecView (x : RdO) (w : World) (e : Ending) (w' : World) : Prop := ∃ oa cap, e = .returned (.tuple #[.agg #[.bool (dFull x), .int .i64 (dA x : Nat), .int .i64 (dB x : Nat), .slice oa (dL x).length cap], .int .i64 (dAt x : Nat), .int .i64 (dE x : Nat)]) ∧ Row w' 31 3 (.slice oa (dL x).length cap) (dL x).length (recCs (dL x)) ∧ (∀ g, (Value.slice oa (dL x).length cap).ownBlock = some g → w.heap.size ≤ g) ∧ Keeps (fun _ => False) w w'

theorem DecPost.view {x : RdO} {w w' : World} {e : Ending} (h : DecPost x w e w') : DecView x w e w' := by
  obtain ⟨h, hk⟩ := h
  rcases x with _ | p | s
  · exact ⟨none, 0, h, Row.nil _ _ _, fun g hg => (by cases hg), hk⟩
  · exact ⟨none, 0, h, Row.nil _ _ _, fun g hg => (by cases hg), hk⟩
  · obtain ⟨oa, cap, h1, h2, h3⟩ := h
    have hl : (s.recs.map recB).length = s.recs.length := List.length_map _
    refine ⟨oa, cap, ?_, ?_, fun g hg => h3 g ((own_len oa _ _ cap).trans hg), hk⟩
    · rw [h1]
      show _ = Ending.returned (.tuple #[.agg #[.bool s.full, .int .i64 (s.a : Nat), .int .i64 (s.b : Nat), .slice oa (s.recs.map recB).length cap], .int .i64 0, .int .i64 0])
      rw [hl]
    · show Row w' _ 3 (.slice oa (s.recs.map recB).length cap) (s.recs.map recB).length (recCs (s.recs.map recB))
      rw [hl]
      exact h2

theorem dL_few (t : List UInt8) : (dL (readO t)).length ≤ 1000 := by
  rcases hx : readO t with _ | p | s
  · exact Nat.zero_le _
  · exact Nat.zero_le _
  · show (s.recs.map recB).length ≤ 1000
    rw [List.length_map]
    exact (read_strOk hx).1

/-- the book, beside what was there before -/
def BkAt (K : Nat) (w0 : World) (bb : Nat) (w : World) : Prop := ∃ G, BookR K w bb G ∧ (∀ k ∈ G, w0.heap.size ≤ k) ∧ Keeps (fun _ => False) w0 w

theorem BkAt.quiet {K : Nat} {w0 : World} {bb : Nat} {w w' : World} (h : BkAt K w0 bb w) (hk : Keeps (fun _ => False) w w') : BkAt K w0 bb w' := by
  obtain ⟨G, h1, h2, h3⟩ := h
  exact ⟨G, h1.kept hk (fun _ _ h => h), h2, h3.tr hk (fun _ h => h)⟩

set_option maxRecDepth 100000 in
set_option maxHeartbeats 4000000 in
theorem bDecode_any {K bb : Nat} {w0 : World} (text : ByteArray) (w : World) (h : BkAt K w0 bb w) (hg : Glob w0) (hts : text.size ≤ 1000000000) (hK : K ≤ 10000000000) :
    Calls Tryz.prog 6 #[.pointer (some ⟨bb, 0, none⟩), .string text] w fun e w' => e = .returned (.bool true) ∧ BkAt (K + 1) w0 bb w' := by
  obtain ⟨G, hB, hG, hkw⟩ := h
  obtain ⟨vp, vm, nx, Ls, hBA, hGe⟩ := hB
  have HBA := hid hBA
  have HLT : Hid (∀ k ∈ bookRFp bb vp vm Ls, k < w.heap.size) := hBA.lt
  have HGG : Hid (∀ k ∈ bookRFp bb vp vm Ls, w0.heap.size ≤ k) := by
    show ∀ k ∈ _, _
    rw [← hGe]
    exact hG
  have HKW := hid hkw
  have HKK := hid hK
  have HD1 : Hid (Calls Tryz.prog 12 #[.string text] w (DecView (readO text.data.toList) w)) := (decode_any text w (by omega) (hg.kept hkw)).mono (fun _ _ h => h.view)
  have HD2 : Hid (∀ W, Calls Tryz.prog 13 #[.string text] W (DecView (readO text.data.toList) W)) := fun W => (refDecode_any text W hts).mono (fun _ _ h => h.view)
  have hfew := dL_few text.data.toList
  unfold DecView at HD1 HD2
  generalize readO text.data.toList = x at *
  generalize dFull x = F at *
  generalize dA x = A at *
  generalize dB x = B at *
  generalize dL x = L at *
  generalize dAt x = P at *
  generalize dE x = E at *
  have HFEW := hid hfew
  have hfI : (L.length : Int) ≤ 1000 := by omega
  clear hBA hGe hG hkw hK hts hg hfew x
  go_enter Tryz.func6, Tryz.ntmps6
  go_wp2_with fail
  refine HD1.out.mono ?_
  rintro e w1 ⟨oa, ca, rfl, row1, own1, k1⟩
  have K1 := hid k1
  have R1 := hid row1
  have O1 := hid own1
  clear row1 own1 k1 HD1
  go_wp2_with fail
  refine (HD2.out _).mono ?_
  rintro e w2 ⟨ob, cb, rfl, row2, -, k2⟩
  have X2 := hid ((k2.block w1.heap.size (by simp) (fun h => h)).trans (heap_new w1 (.cells #[.bool F, .int .i64 (A : Nat), .int .i64 (B : Nat), .slice oa L.length ca] 34)))
  have K2 : Hid (Keeps (fun _ => False) w w2) := (K1.out.al _).tr k2 (fun _ h => h)
  have R12 : Hid (Row w2 31 3 (.slice oa L.length ca) L.length (recCs L)) := (R1.out.kept ((Keeps.refl (fun _ => False) w1).al _) (fun _ _ h => h)).kept k2 (fun _ _ h => h)
  have R2 := hid row2
  clear row2 k2 HD2 R1
  obtain ⟨w3, hw3⟩ : ∃ w3, w3 = w2.alloc (.cells #[.bool F, .int .i64 (A : Nat), .int .i64 (B : Nat), .slice ob L.length cb] 34) := ⟨_, rfl⟩
  have k3 : Keeps (fun _ => False) w2 w3 := by rw [hw3]; exact Keeps.alloc _ _ _
  have X3 := hid ((k3.block _ (Array.getElem?_eq_some_iff.1 X2.out).1 (fun h => h)).trans X2.out)
  have Y3 : Hid (w3.heap[w2.heap.size]? = some (.cells #[.bool F, .int .i64 (A : Nat), .int .i64 (B : Nat), .slice ob L.length cb] 34 (0, 0))) := by show _ = _; rw [hw3]; exact heap_new w2 _
  have HR3 := hid (R12.out.kept k3 (fun _ _ h => h))
  have HS3 := hid (sameRecords_eq oa ob ca cb L w3 (RecIn.ofRow HR3.out) (RecIn.ofRow (R2.out.kept k3 (fun _ _ h => h))) (by have := HFEW.out; omega))
  have K3 : Hid (Keeps (fun _ => False) w w3) := K2.out.tr k3 (fun _ h => h)
  have HW3 := hid hw3
  have x3 := cell_of_heap X3.out 3
  have y3 := cell_of_heap Y3.out 3
  simp at x3 y3
  rw [hw3] at x3 y3
  clear k3 hw3
  go_wp2_with fail
  rw [← HW3.out]
  refine HS3.out.mono ?_
  rintro e w4 ⟨rfl, k4⟩
  have X4 := hid ((k4.block _ (Array.getElem?_eq_some_iff.1 X3.out).1 (fun h => h)).trans X3.out)
  have Y4 := hid ((k4.block _ (Array.getElem?_eq_some_iff.1 Y3.out).1 (fun h => h)).trans Y3.out)
  have K4 : Hid (Keeps (fun _ => False) w w4) := K3.out.tr k4 (fun _ h => h)
  have HR4 := hid (HR3.out.kept k4 (fun _ _ h => h))
  have x4 := cell_of_heap X4.out 3
  simp at x4
  have HOW := hid (ownsRecords_any (.slice oa L.length ca) L.length (recCs L) w4 (HBA.out.kept K4.out (fun _ _ h => h)) HR4.out (fun g hg e => by
    have h1 := O1.out g hg
    have h2 := HLT.out g e
    omega) (by have := HFEW.out; omega) HKK.out)
  clear k4 x3 y3 HS3
  go_wp2_with fail
  refine HOW.out.mono ?_
  rintro e w5 ⟨rfl, G', hB5, k5, hG5⟩
  have hne : ∀ i cs, w4.heap[i]? = some (.cells cs 34 (0, 0)) → w.heap.size ≤ i → w5.heap[i]? = some (.cells cs 34 (0, 0)) := fun i cs hi hz =>
    (k5.block i (Array.getElem?_eq_some_iff.1 hi).1 (by
      rintro (e | e)
      · have := HLT.out i e
        omega
      · exact (HR4.out.typeIs e).ne (e' := 34) (by decide) ⟨_, hi⟩)).trans hi
  have x5 := hne _ _ X4.out (by have := K1.out.size; omega)
  have y5 := hne _ _ Y4.out (by have := K2.out.size; omega)
  have a0 := cell_of_heap x5 0
  have a1 := cell_of_heap x5 1
  have a2 := cell_of_heap x5 2
  have b0 := cell_of_heap y5 0
  have b1 := cell_of_heap y5 1
  have b2 := cell_of_heap y5 2
  simp at a0 a1 a2 b0 b1 b2
  have HFIN : Hid (BkAt (K + 1) w0 bb w5) := ⟨G', hB5, fun k hk => by
    have h0 := HKW.out.size
    have h4 := K4.out.size
    rcases hG5 k hk with e | e | e
    · exact HGG.out k e
    · have := O1.out k e
      omega
    · omega, (HKW.out.tr K4.out (fun _ h => h)).trans k5 (fun k hk e => by
    have h0 := HKW.out.size
    rcases e with e | e
    · have := HGG.out k e
      omega
    · have := O1.out k e
      omega)⟩
  have HNU := hid (fun W => num_any (E : Nat) W)
  clear hB5 k5 hG5 hne x5 y5 x4 HOW
  go_wp2_with (go_at_call 11; go_must (refine (HNU.out _).mono ?_; rintro e w6 ⟨rfl, rfl⟩))
  go_ret
  exact ⟨rfl, HFIN.out⟩

end Go.Proofs.YtkpaiaddikpdoaaGreatDoor

/- annalslaw: Book.encode. -/

namespace Go.Proofs.YtkpaiaddikpdoaaGreatDoor

open Go.RowKit Go.Shelf

attribute [local go_sem] Oper.semAt_some

/-- what Encode says of any stream -/
def encZ (full : Bool) (a b : Int) (l : List RecB) : ByteArray × Nat := if judgeB full a b l = true then (ofL (streamL ⟨full, a.toNat, b.toNat, l.map RecB.rec_⟩), 0) else (⟨#[]⟩, 6)

theorem encZ_size (full : Bool) (a b : Int) (l : List RecB) : (encZ full a b l).1.size ≤ 3000000 := by
  unfold encZ
  split
  · rename_i hj
    obtain ⟨ha, hb, hl, hs⟩ := judge_facts hj
    show (ofL (streamL ⟨full, a.toNat, b.toNat, l.map RecB.rec_⟩)).size ≤ 3000000
    rw [← pieces_all full a.toNat b.toNat l]
    have h1 := catT_size_le (l := piecesT full a.toNat b.toNat l) 10000 (pieces_small (by omega) (by omega) hl hs) (piecesT full a.toNat b.toNat l).length
    rw [List.take_of_length_le (Nat.le_refl _)] at h1
    have h2 := (pieces_len full a.toNat b.toNat hl).1
    have : (piecesT full a.toNat b.toNat l).length * 10000 ≤ 300 * 10000 := Nat.mul_le_mul_right _ h2
    omega
  · show (⟨#[]⟩ : ByteArray).size ≤ 3000000
    exact Nat.zero_le _

def EncZPost (full : Bool) (a b : Int) (l : List RecB) (w : World) (e : Ending) (w' : World) : Prop := e = .returned (.tuple #[.string (encZ full a b l).1, .int .i64 ((encZ full a b l).2 : Nat)]) ∧ Keeps (fun _ => False) w w'

theorem encode_int (full : Bool) (a b : Int) (oa : Option Addr) (cap : Nat) (l : List RecB) (w : World) (hr : Row w 31 3 (.slice oa l.length cap) l.length (recCs l)) (hs : ∀ r ∈ l, r.key.size ≤ maxLen ∧ r.value.size ≤ maxLen) (hg : Glob w) :
    Calls Tryz.prog 8 #[.agg #[.bool full, .int .i64 a, .int .i64 b, .slice oa l.length cap]] w (EncZPost full a b l w) := by
  obtain ⟨h1, h2⟩ := hr.caps
  cases hj : judgeB full a b l with
  | true =>
    obtain ⟨ha, hb, -, -⟩ := judge_facts hj
    obtain ⟨na, rfl⟩ : ∃ n : Nat, a = n := ⟨a.toNat, by omega⟩
    obtain ⟨nb, rfl⟩ : ∃ n : Nat, b = n := ⟨b.toNat, by omega⟩
    refine (encode_good full na nb oa cap l w (RecIn.ofRow hr) h1 h2 hg hj).mono ?_
    rintro e w' ⟨rfl, hk⟩
    refine ⟨?_, hk⟩
    have e1 : encZ full na nb l = (ofL (streamL ⟨full, na, nb, l.map RecB.rec_⟩), 0) := if_pos hj
    rw [e1]
    rfl
  | false =>
    refine (encode_bad full a b oa cap l w (RecIn.ofRow hr) (by omega) hs hg hj).mono ?_
    rintro e w' ⟨rfl, hk⟩
    refine ⟨?_, hk⟩
    have e1 : encZ full a b l = (⟨#[]⟩, 6) := if_neg (by rw [hj]; simp)
    rw [e1]
    rfl

theorem refEncode_int (full : Bool) (a b : Int) (oa : Option Addr) (cap : Nat) (l : List RecB) (w : World) (hr : RecIn w oa l) (hs : ∀ r ∈ l, r.key.size ≤ maxLen ∧ r.value.size ≤ maxLen) :
    Calls Tryz.prog 9 #[.agg #[.bool full, .int .i64 a, .int .i64 b, .slice oa l.length cap]] w (EncZPost full a b l w) := by
  cases hj : judgeB full a b l with
  | true =>
    obtain ⟨ha, hb, -, -⟩ := judge_facts hj
    obtain ⟨na, rfl⟩ : ∃ n : Nat, a = n := ⟨a.toNat, by omega⟩
    obtain ⟨nb, rfl⟩ : ∃ n : Nat, b = n := ⟨b.toNat, by omega⟩
    refine (refEncode_good full na nb oa cap l w hr hj).mono ?_
    rintro e w' ⟨rfl, hk⟩
    refine ⟨?_, hk⟩
    have e1 : encZ full na nb l = (ofL (streamL ⟨full, na, nb, l.map RecB.rec_⟩), 0) := if_pos hj
    rw [e1]
    rfl
  | false =>
    refine (refEncode_bad full a b oa cap l w hr hs hj).mono ?_
    rintro e w' ⟨rfl, hk⟩
    refine ⟨?_, hk⟩
    have e1 : encZ full a b l = (⟨#[]⟩, 6) := if_neg (by rw [hj]; simp)
    rw [e1]
    rfl

/-- between two records: the copy so far -/
structure CpAt (w : World) (xs : Array Value) (xb : Nat) (full : Bool) (a b : Int) (v : Value) (l : List RecB) (wr : World) : Prop where
  top : wr.heap[xb]? = some (.cells #[.bool full, .int .i64 a, .int .i64 b, v] 34 (0, 0))
  arg : wr.heap[w.heap.size]? = some (.cells xs 34 (0, 0))
  row : Row wr 31 3 v l.length (recCs l)
  own : ∀ g, v.ownBlock = some g → w.heap.size ≤ g
  keep : Keeps (fun _ => False) w wr
  xbw : w.heap.size < xb

theorem CpAt.push {w : World} {xs : Array Value} {xb : Nat} {full : Bool} {a b : Int} {v v' : Value} {l : List RecB} {x : RecB} {wr W1 w4 : World} (h : CpAt w xs xb full a b v l wr) (hW : Keeps (fun _ => False) wr W1) (hr : Row w4 31 3 v' (l.length + 1) (recCs l ++ x.cells)) (hg : W1.grownBy w4 v.ownBlock) (ho : v'.ownBlock = v.ownBlock ∨ v'.ownBlock = some W1.heap.size) :
    w4.heap[xb]? = some (.cells #[.bool full, .int .i64 a, .int .i64 b, v] 34 (0, 0)) ∧ CpAt w xs xb full a b v' (l ++ [x]) (w4.setCell ⟨xb, 3, none⟩ v') := by
  have kg := Keeps.grown hg
  have row1 := h.row.kept hW (fun _ _ h => h)
  have hty : ∀ k, some k = v.ownBlock → TypeIs W1 k 31 := fun k e => row1.typeIs e.symm
  have h2 := h.xbw
  have hk1 := h.keep.tr hW (fun _ h => h)
  have hz := hk1.size
  have top1 := (hW.block xb (Array.getElem?_eq_some_iff.1 h.top).1 (fun h => h)).trans h.top
  have arg1 := (hW.block _ (Array.getElem?_eq_some_iff.1 h.arg).1 (fun h => h)).trans h.arg
  have top4 := (kg.block xb (Array.getElem?_eq_some_iff.1 top1).1 (fun e => (hty xb e).ne (e' := 34) (by decide) ⟨_, top1⟩)).trans top1
  have arg4 := (kg.block _ (Array.getElem?_eq_some_iff.1 arg1).1 (fun e => (hty _ e).ne (e' := 34) (by decide) ⟨_, arg1⟩)).trans arg1
  have ks := Keeps.setCell w4 ⟨xb, 3, none⟩ v'
  refine ⟨top4, (heap_setCell_same top4 _).trans (by simp), (ks.block _ (Array.getElem?_eq_some_iff.1 arg4).1 (fun e => by have e' : w.heap.size = xb := e; omega)).trans arg4, ?_, fun g hgv => ?_, ?_, h2⟩
  · have e : recCs (l ++ [x]) = recCs l ++ x.cells := by simp [recCs]
    rw [e, List.length_append, List.length_singleton]
    exact hr.kept ks (fun g hgv e => (hr.typeIs hgv).ne (e' := 34) (by decide) ((show g = xb from e) ▸ ⟨_, top4⟩))
  · rcases ho with e | e
    · exact h.own g (e ▸ hgv)
    · rw [hgv] at e
      have e' : g = W1.heap.size := by simpa using e
      omega
  · refine (hk1.trans kg (fun k hk e => ?_)).trans ks (fun k hk e => ?_)
    · have := h.own k e.symm
      omega
    · have e' : k = xb := e
      omega

end Go.Proofs.YtkpaiaddikpdoaaGreatDoor

/- annalslaw: Book.encode, walked. -/

namespace Go.Proofs.YtkpaiaddikpdoaaGreatDoor

open Go.RowKit Go.Shelf

attribute [local go_sem] Oper.semAt_some

set_option maxRecDepth 100000 in
set_option maxHeartbeats 4000000 in
theorem bEncode_any {K bb : Nat} {w0 : World} (full : Bool) (a b : Int) (oa : Option Addr) (cap : Nat) (l : List RecB) (w : World) (h : BkAt K w0 bb w) (hg : Glob w0) (hr : RecIn w oa l) (hl : l.length ≤ 1100000) (hs : ∀ r ∈ l, r.key.size ≤ maxLen ∧ r.value.size ≤ maxLen) (hK : K ≤ 10000000000) :
    Calls Tryz.prog 4 #[.pointer (some ⟨bb, 0, none⟩), .agg #[.bool full, .int .i64 a, .int .i64 b, .slice oa l.length cap]] w fun e w' => e = .returned (.bool true) ∧ BkAt (K + 1) w0 bb w' := by
  obtain ⟨i0, hi, hz0, hz1, hz2⟩ := info_parts Tryz.infoRec
  have HBK := hid h
  have HG := hid hg
  have HR := hid hr
  have HL := hid hl
  have HSZ := hid hs
  have HK := hid hK
  have HKW : Hid (Keeps (fun _ => False) w0 w) := by obtain ⟨G, -, -, h3⟩ := h; exact h3
  have hlI : (l.length : Int) ≤ 1100000 := by omega
  have HC0 : Hid (CpAt w #[.bool full, .int .i64 a, .int .i64 b, .slice oa l.length cap] (w.heap.size + 1) full a b (.slice none 0 0) [] ((w.alloc (.cells #[.bool full, .int .i64 a, .int .i64 b, .slice oa l.length cap] 34)).alloc (.cells #[.bool full, .int .i64 a, .int .i64 b, .slice none 0 0] 34))) := by
    have kb := Keeps.alloc (fun _ => False) (w.alloc (.cells #[.bool full, .int .i64 a, .int .i64 b, .slice oa l.length cap] 34)) (.cells #[.bool full, .int .i64 a, .int .i64 b, .slice none 0 0] 34)
    refine ⟨?_, (kb.block _ (by simp) (fun h => h)).trans (heap_new w _), Row.nil _ _ _, fun g hg => (by cases hg), ((Keeps.refl (fun _ => False) w).al _).al _, by omega⟩
    have := heap_new (w.alloc (.cells #[.bool full, .int .i64 a, .int .i64 b, .slice oa l.length cap] 34)) (.cells #[.bool full, .int .i64 a, .int .i64 b, .slice none 0 0] 34)
    rw [World.size_alloc] at this
    exact this
  clear h hg hr hl hs hK
  go_enter Tryz.func4, Tryz.ntmps4
  go_wp2_with fail
  generalize (w.alloc (.cells #[.bool full, .int .i64 a, .int .i64 b, .slice oa l.length cap] 34)).alloc (.cells #[.bool full, .int .i64 a, .int .i64 b, .slice none 0 0] 34) = w1 at *
  obtain ⟨xb, hxb⟩ : ∃ xb, xb = w.heap.size + 1 := ⟨_, rfl⟩
  rw [← hxb] at HC0 ⊢
  clear hxb
  go_loopw [6] (fun i wr => ∃ (k : Nat) (v : Value), k ≤ l.length ∧ i = .int .i64 (k : Nat) ∧ CpAt w #[.bool full, .int .i64 a, .int .i64 b, .slice oa l.length cap] xb full a b v (l.take k) wr) (fun i _ => l.length - (intOf i).toNat)
  case atStart => exact ⟨0, _, Nat.zero_le _, rfl, HC0.out⟩
  case round =>
    obtain ⟨k, v, hk, rfl, hC⟩ := hrel
    have hkI : (k : Int) ≤ l.length := by omega
    obtain ⟨o2, c2, rfl, -, -⟩ := hC.row.form
    have s3 := cell_of_heap hC.arg 3
    simp at s3
    by_cases hkl : k < l.length
    · have hrk := (HR.out.kept hC.keep) k hkl
      have HTK : Hid (l.take (k + 1) = l.take k ++ [l[k]]) := List.take_succ_eq_append_getElem hkl
      have hklI : (k : Int) < l.length := by omega
      have hal : (l.take k).length ≤ 1100000 := by rw [List.length_take]; have := HL.out; omega
      have HAL := hid hal
      have HC := hid hC
      have HKL := hid hkl
      generalize l[k] = y at hrk HTK
      obtain ⟨g, off, rfl, r0, r1, r2⟩ := hrk
      clear hC hal hk hkl
      generalize l.take k = al at *
      have halI : (al.length : Int) ≤ 1100000 := by have := HAL.out; omega
      have t3 := cell_of_heap HC.out.top 3
      simp at t3
      have ka := Keeps.alloc (fun _ => False) wr (.cells #[.string y.key, .string y.value, .bool y.gone] 31)
      have t4 := ka.cell t3 (fun h => h)
      have s4 := ka.cell s3 (fun h => h)
      clear ka
      go_wp2_with fail
      go_region_law ((refine step_append_row _ (by rfl) _ _ 32 (by rfl) 31 i0 _ 3 40 Tryz.underlying32 hi hz0 hz1 hz2 (by rfl) (.slice o2 al.length c2) al.length _ (by rfl) (HC.out.row.kept ((Keeps.refl (fun _ => False) wr).al _).dr (fun _ _ h => h)) ⟨wr.heap.size, 0, none⟩ 1 1 [.string y.key, .string y.value, .bool y.gone] (by rfl) (by rfl) (news_arr wr #[.string y.key, .string y.value, .bool y.gone] _) (by simp [Value.oneCell']) (by have := HAL.out; unfold maxLen; omega) (by have := HAL.out; omega) ?_; intro v' w8 hown' hgrow _ hat; obtain ⟨g', cap', rfl⟩ := hown'.succ; have hp := HC.out.push (x := y) (((Keeps.refl (fun _ => False) wr).al _).dr) hown' hgrow hat; have q3 := cell_of_heap hp.1 3; have p3 := frozen_of_heap hp.1 3; simp at q3; have HP := hid hp.2; clear hown' hgrow hat hp))
      all_goals
        go_wp2
        exact ⟨⟨k + 1, _, HKL.out, by go_num, by rw [HTK.out]; exact HP.out⟩, by simp only [intOf]; have := HKL.out; omega⟩
    · have hkn : ¬ ((k : Int) < l.length) := by omega
      have e : l.take k = l := List.take_of_length_le (by omega)
      rw [e] at hC
      have HCC := hid hC
      have t0 := cell_of_heap hC.top 0
      have t1 := cell_of_heap hC.top 1
      have t2 := cell_of_heap hC.top 2
      have t3 := cell_of_heap hC.top 3
      simp at t0 t1 t2 t3
      have HE1 := hid (encode_int full a b o2 c2 l wr hC.row HSZ.out (HG.out.kept (HKW.out.tr hC.keep (fun _ h => h))))
      have HE2 := hid (fun W (hW : Keeps (fun _ => False) w W) => refEncode_int full a b oa cap l W (HR.out.kept hW) HSZ.out)
      have hes := encZ_size full a b l
      unfold EncZPost at HE1 HE2
      generalize encZ full a b l = Z at *
      obtain ⟨T, E⟩ := Z
      have HES : Hid (T.size ≤ 3000000) := hes
      simp only at HE1 HE2
      clear hC e hk hkl hes
      go_wp2_with fail
      refine HE1.out.mono ?_
      rintro e w2 ⟨rfl, k2⟩
      have HK2 := hid (HCC.out.keep.tr k2 (fun _ h => h))
      have X2 := hid ((k2.block xb (Array.getElem?_eq_some_iff.1 HCC.out.top).1 (fun h => h)).trans HCC.out.top)
      have A2 := hid ((k2.block _ (Array.getElem?_eq_some_iff.1 HCC.out.arg).1 (fun h => h)).trans HCC.out.arg)
      have R2 := hid (HCC.out.row.kept k2 (fun _ _ h => h))
      have u0 := cell_of_heap A2.out 0
      have u1' := cell_of_heap A2.out 1
      have u2' := cell_of_heap A2.out 2
      have u3' := cell_of_heap A2.out 3
      simp at u0 u1' u2' u3'
      clear k2 HE1 t0 t1 t2 t3 s3
      go_wp2_with fail
      refine (HE2.out _ HK2.out).mono ?_
      rintro e w3 ⟨rfl, k3⟩
      have HK3 := hid (HK2.out.tr k3 (fun _ h => h))
      have x3 := cell_of_heap ((k3.block xb (Array.getElem?_eq_some_iff.1 X2.out).1 (fun h => h)).trans X2.out) 3
      have a3 := cell_of_heap ((k3.block _ (Array.getElem?_eq_some_iff.1 A2.out).1 (fun h => h)).trans A2.out) 3
      simp at x3 a3
      have HSA := hid (sameRecords_eq o2 oa c2 cap l w3 (RecIn.ofRow (R2.out.kept k3 (fun _ _ h => h))) (HR.out.kept HK3.out) (by have := HL.out; omega))
      clear k3 HE2 u0 u1' u2' u3'
      go_wp2_with fail
      refine HSA.out.mono ?_
      rintro e w4 ⟨rfl, k4⟩
      have HK4 := hid (HK3.out.tr k4 (fun _ h => h))
      have HDE := hid (bDecode_any T w4 (HBK.out.quiet HK4.out) HG.out (by have := HES.out; omega) HK.out)
      clear k4 HSA x3 a3
      go_wp2_with fail
      refine HDE.out.mono ?_
      rintro e w5 ⟨rfl, hB5⟩
      have HB5 := hid hB5
      have HNU := hid (fun W => num_any (E : Nat) W)
      clear hB5 HDE
      go_wp2_with (go_at_call 11; go_must (refine (HNU.out _).mono ?_; rintro e w6 ⟨rfl, rfl⟩))
      go_ret
      exact ⟨rfl, HB5.out⟩

end Go.Proofs.YtkpaiaddikpdoaaGreatDoor

/- annalslaw: Streams. -/

namespace Go.Proofs.YtkpaiaddikpdoaaGreatDoor

open Go.RowKit Go.Shelf

attribute [local go_sem] Oper.semAt_some

/-- a stream that came in -/
structure SIn where
  full : Bool
  a : Int
  b : Int
  o : Option Addr
  cap : Nat
  l : List RecB

structure SIn.At (w : World) (g off : Nat) (s : SIn) : Prop where
  c0 : w.cell? ⟨g, off, none⟩ = some (.bool s.full)
  c1 : w.cell? ⟨g, off + 1, none⟩ = some (.int .i64 s.a)
  c2 : w.cell? ⟨g, off + 2, none⟩ = some (.int .i64 s.b)
  c3 : w.cell? ⟨g, off + 3, none⟩ = some (.slice s.o s.l.length s.cap)
  recs : RecIn w s.o s.l
  few : s.l.length ≤ 1100000
  small : ∀ r ∈ s.l, r.key.size ≤ maxLen ∧ r.value.size ≤ maxLen

theorem SIn.At.kept {w w' : World} {g off : Nat} {s : SIn} (h : SIn.At w g off s) (hk : Keeps (fun _ => False) w w') : SIn.At w' g off s :=
  ⟨hk.cell h.c0 (fun h => h), hk.cell h.c1 (fun h => h), hk.cell h.c2 (fun h => h), hk.cell h.c3 (fun h => h), h.recs.kept hk, h.few, h.small⟩

def StrsIn (w : World) (oa : Option Addr) (n : Nat) (S : Nat → SIn) : Prop := ∀ i, i < n → ∃ g off, oa = some ⟨g, off, none⟩ ∧ SIn.At w g (off + i * 4) (S i)

theorem StrsIn.kept {w w' : World} {oa : Option Addr} {n : Nat} {S : Nat → SIn} (h : StrsIn w oa n S) (hk : Keeps (fun _ => False) w w') : StrsIn w' oa n S := fun i hi => by
  obtain ⟨g, off, e, h1⟩ := h i hi
  exact ⟨g, off, e, h1.kept hk⟩

theorem BkAt.keep {K : Nat} {w0 : World} {bb : Nat} {w : World} (h : BkAt K w0 bb w) : Keeps (fun _ => False) w0 w := by obtain ⟨G, -, -, h3⟩ := h; exact h3

theorem looksB_any {K bb : Nat} {w0 : World} (w : World) (h : BkAt K w0 bb w) (hK : K ≤ 10000000000) :
    Calls Tryz.prog 5 #[.pointer (some ⟨bb, 0, none⟩)] w fun e w' => e = .returned (.bool true) ∧ BkAt K w0 bb w' := by
  have h' := h
  obtain ⟨G, h1, -, -⟩ := h'
  refine (looksR_any w h1 hK).mono ?_
  rintro e w' ⟨rfl, hk⟩
  exact ⟨rfl, h.quiet hk⟩

set_option maxRecDepth 100000 in
set_option maxHeartbeats 4000000 in
theorem streams_any (oa : Option Addr) (n cap : Nat) (S : Nat → SIn) (ob : Option Addr) (cb : Nat) (ts : List ByteArray) (w : World) (hS : StrsIn w oa n S) (hT : TxtIn w ob ts) (hn : n ≤ 1100000) (hm : ts.length ≤ 1100000) (hs : ∀ t ∈ ts, t.size ≤ 1000000000) (hg : Glob w) :
    Calls Tryz.prog 3 #[.slice oa n cap, .slice ob ts.length cb] w fun e w' => e = .returned (.bool true) ∧ Keeps (fun _ => False) w w' := by
  have HS := hid hS
  have HT := hid hT
  have HN := hid hn
  have HM := hid hm
  have HZ := hid hs
  have HG := hid hg
  have hnI : (n : Int) ≤ 1100000 := by omega
  have hmI : (ts.length : Int) ≤ 1100000 := by omega
  have HB1 : Hid (BkAt 0 w w.heap.size (w.alloc (.cells #[.slice none 0 0, .slice none 0 0, .slice none 0 0, .slice none 0 0, .int .i64 0] 28))) := ⟨_, new_bookR (heap_new w _), fun k hk => by rw [List.mem_singleton.1 hk]; exact Nat.le_refl _, Keeps.alloc _ _ _⟩
  have HKN : Hid (Calls Tryz.prog 4 #[.pointer (some ⟨w.heap.size, 0, none⟩), .agg #[.bool true, .int .i64 0, .int .i64 1, .slice (some ⟨w.heap.size + 1, 0, none⟩) 1 1]] ((w.alloc (.cells #[.slice none 0 0, .slice none 0 0, .slice none 0 0, .slice none 0 0, .int .i64 0] 28)).alloc (.cells #[.string ⟨#[97]⟩, .string ⟨#[120]⟩, .bool false] 31)) fun e w' => e = .returned (.bool true) ∧ BkAt (0 + 1) w w.heap.size w') := by
    have hh := heap_new (w.alloc (.cells #[.slice none 0 0, .slice none 0 0, .slice none 0 0, .slice none 0 0, .int .i64 0] 28)) (.cells #[.string ⟨#[97]⟩, .string ⟨#[120]⟩, .bool false] 31)
    rw [World.size_alloc] at hh
    refine bEncode_any true 0 1 (some ⟨w.heap.size + 1, 0, none⟩) 1 [⟨⟨#[97]⟩, ⟨#[120]⟩, false⟩] _ (HB1.out.quiet (Keeps.alloc _ _ _)) hg ?_ (by simp) ?_ (by omega)
    · intro i hi
      have h0 : i = 0 := by simp at hi; omega
      subst h0
      exact ⟨_, _, rfl, cell_of_heap hh 0, cell_of_heap hh 1, cell_of_heap hh 2⟩
    · intro r hr
      rw [List.mem_singleton.1 hr]
      unfold maxLen
      decide
  clear hS hT hn hm hs hg
  go_enter Tryz.func3, Tryz.ntmps3
  go_wp2_with fail
  refine HKN.out.mono ?_
  rintro e w3 ⟨rfl, hB⟩
  have HB3 := hid hB
  generalize w.heap.size = bb at *
  clear HKN HB1 hB
  go_wp2_with fail
  go_loopw [7] (fun i wr => ∃ k : Nat, k ≤ n ∧ i = .int .i64 (k : Nat) ∧ BkAt (1 + k) w bb wr) (fun i _ => n - (intOf i).toNat)
  case atStart => exact ⟨0, Nat.zero_le _, rfl, HB3.out⟩
  case round =>
    obtain ⟨k, hk, rfl, hB⟩ := hrel
    have hkI : (k : Int) ≤ n := by omega
    have HB := hid hB
    by_cases hkn : k < n
    · obtain ⟨g, off, rfl, hA⟩ := (HS.out.kept hB.keep) k hkn
      obtain ⟨c0, c1, c2, c3, hrec, hfew, hsm⟩ := hA
      have HEN := hid (bEncode_any (S k).full (S k).a (S k).b (S k).o (S k).cap (S k).l wr hB HG.out hrec hfew hsm (by have := HN.out; omega))
      have hknI : (k : Int) < n := by omega
      have HKN := hid hkn
      clear hB hrec hfew hsm hk hkn
      generalize (S k).full = F at *
      generalize (S k).a = A at *
      generalize (S k).b = B at *
      generalize (S k).o = O at *
      generalize (S k).cap = C at *
      generalize (S k).l.length = L at *
      go_wp2_with fail
      refine HEN.out.mono ?_
      rintro e w5 ⟨rfl, hB5⟩
      have HLK := hid (looksB_any w5 hB5 (by have h1 := HN.out; have h2 := HKN.out; omega))
      clear hB5 HEN c0 c1 c2 c3
      go_wp2_with fail
      refine HLK.out.mono ?_
      rintro e w6 ⟨rfl, hB6⟩
      have HB6 := hid hB6
      clear hB6 HLK
      go_wp2
      exact ⟨⟨k + 1, HKN.out, by go_num, HB6.out⟩, by simp only [intOf]; have := HKN.out; omega⟩
    · have hknI : ¬ ((k : Int) < n) := by omega
      clear hB hkn
      go_wp2_with fail
      go_loopw [10] (fun i wr => ∃ j : Nat, j ≤ ts.length ∧ i = .int .i64 (j : Nat) ∧ BkAt (1 + k + j) w bb wr) (fun i _ => ts.length - (intOf i).toNat)
      case atStart => exact ⟨0, Nat.zero_le _, rfl, HB.out⟩
      case round =>
        obtain ⟨j, hj, rfl, hB⟩ := hrel
        have hjI : (j : Int) ≤ ts.length := by omega
        have HBJ := hid hB
        by_cases hjn : j < ts.length
        · obtain ⟨g, off, rfl, r0⟩ := (HT.out.kept hB.keep) j hjn
          have HDE := hid (bDecode_any ts[j] wr hB HG.out (HZ.out _ (List.getElem_mem hjn)) (by have h1 := HN.out; have h2 := HM.out; omega))
          have hjnI : (j : Int) < ts.length := by omega
          have HJN := hid hjn
          have HKB : Hid (1 + k + j + 1 ≤ 10000000000) := by have h1 := HN.out; have h2 := HM.out; show _ ≤ _; omega
          clear hB hj
          generalize ts[j] = text at *
          clear hjn
          go_wp2_with fail
          refine HDE.out.mono ?_
          rintro e w5 ⟨rfl, hB5⟩
          have HLK := hid (looksB_any w5 hB5 HKB.out)
          clear hB5 HDE r0
          go_wp2_with fail
          refine HLK.out.mono ?_
          rintro e w6 ⟨rfl, hB6⟩
          have HB6 := hid hB6
          clear hB6 HLK
          go_wp2
          exact ⟨⟨j + 1, HJN.out, by go_num, HB6.out⟩, by simp only [intOf]; have := HJN.out; omega⟩
        · have hjnI : ¬ ((j : Int) < ts.length) := by omega
          have HMG := hid (lawMerge_any ob cb ts wr (HT.out.kept hB.keep) HM.out HZ.out (HG.out.kept hB.keep))
          clear hB hjn hj
          go_wp2_with fail
          refine HMG.out.mono ?_
          rintro e w6 ⟨rfl, k6⟩
          have HK6 := hid (HBJ.out.keep.tr k6 (fun _ h => h))
          clear k6 HMG
          go_wp2
          go_ret
          exact ⟨rfl, HK6.out⟩

end Go.Proofs.YtkpaiaddikpdoaaGreatDoor

/- What the listed variables give a walk. -/

namespace Go.Proofs.YtkpaiaddikpdoaaGreatDoor

open Go.RowKit Go.Shelf

theorem laid_mem {P : Program} {w : World} : ∀ {l : List (String × DataW Unit)} {ps : List MemPlace}, DataW.LaidVars P w l ps → ∀ {n : String} {d : DataW Unit}, (n, d) ∈ l →
    ∃ g t cs fuel p, P.globalNamed n = some g ∧ (P.globals[g]?).map (·.type) = some t ∧ w.var? P n = some cs ∧ DataW.trod (fun _ => ()) P w 0 (fun _ => true) false fuel t cs.toList = some (d, p) ∧ ∀ x ∈ MemPlace.row ⟨g, 0, none⟩ cs.size ++ p, x ∈ ps
  | [], _, _, n, d, hm => by cases hm
  | (n', d') :: r, ps, h, n, d, hm => by
    obtain ⟨g, t, cs, fuel, p, q, h1, h2, h3, h4, h5, rfl⟩ := h
    rcases List.mem_cons.1 hm with e | hm
    · injection e with e1 e2
      subst e1 e2
      exact ⟨g, t, cs, fuel, p, h1, h2, h3, h4, fun x hx => List.mem_append.2 (.inl hx)⟩
    · obtain ⟨g', t', cs', fuel', p', k1, k2, k3, k4, k5⟩ := laid_mem h5 hm
      exact ⟨g', t', cs', fuel', p', k1, k2, k3, k4, fun x hx => List.mem_append.2 (.inr (k5 x hx))⟩

theorem Tryz.rowES : ∀ u, Tryz.prog.typeName? 3 u = some "*errors.errorString" → u = 187 :=
  typeName_ptr_named (nm := "errors.errorString") (by kernel_rfl) (by kernel_rfl) (by decide)

theorem Tryz.cellsES : Tryz.prog.cellsOf 206 = 1 := by kernel_rfl

theorem Tryz.cellsStr : Tryz.prog.cellsOf 9 = 1 := by kernel_rfl

set_option maxRecDepth 100000 in
/-- an error that errors.New made -/
theorem laid_sent {l : List (String × DataW Unit)} {W : World} {n : String} {text : List UInt8} {g : Nat} (h : laidMet Tryz.prog l W) (hm : (n, .iface "*errors.errorString" (.ptr (.agg [.lit (.string text)]))) ∈ l) (hg : Tryz.prog.globalNamed n = some g) (ht : (Tryz.prog.globals[g]?).map (·.type) = some 57) :
    ∃ (a : Addr) (s : ByteArray), W.cell? ⟨g, 0, none⟩ = some (.iface 187 (.pointer (some a))) ∧ W.cell? a = some (.string s) ∧ s.data.toList = text ∧ ∃ ca ta, W.heap[a.block]? = some (.cells ca ta (0, 0)) := by
  obtain ⟨ps, hv, -, hrows⟩ := h
  obtain ⟨g0, t0, cs0, f0, p0, hg0, ht0, hv0, hd0, hin⟩ := laid_mem hv hm
  obtain rfl := Option.some.inj (hg.symm.trans hg0)
  obtain rfl := Option.some.inj (ht.symm.trans ht0)
  obtain ⟨l0⟩ := cs0
  have ok0 : ∀ u v, l0 = [.iface u v] → Value.okWide Tryz.prog W .any 0 u v := fun u v e => by
    subst e
    exact (hrows g 0 (hin _ (by simp [MemPlace.row]))).2 u v (by simpa using World.var?_cell hg0 hv0 0)
  obtain ⟨a, s, rfl, hc, hs, -, hp⟩ := errorString_of_trod Tryz.underlying57 Tryz.rowES Tryz.underlying187 Tryz.underlying206 rfl rfl Tryz.underlying9 Tryz.cellsES Tryz.cellsStr hd0 ok0
  refine ⟨a, s, by simpa using World.var?_cell hg0 hv0 0, hc, hs, ?_⟩
  exact (hrows a.block a.off (hin _ (by rw [hp]; simp [MemPlace.row]))).1

theorem Tryz.gTurns : Tryz.prog.globalNamed "annals/stream.turns" = some 8 := by kernel_rfl

theorem Tryz.gTurnsT : (Tryz.prog.globals[8]?).map (·.type) = some 152 := by kernel_rfl

theorem Tryz.cellsCheck : Tryz.prog.cellsOf 82 = 1 := by kernel_rfl

theorem Tryz.cellsTurns : Tryz.prog.cellsOf 152 = 16 := by kernel_rfl

theorem Tryz.gType : Tryz.prog.globalNamed "errors.errorType" = some 7 := by kernel_rfl

theorem Tryz.rtypeT : (Tryz.prog.cutTypes.find? (·.1 == "internal/reflectlite.rtype")).map (·.2) = some 129 := by kernel_rfl

theorem Tryz.oneRow : ((List.range (318 - 100)).filter fun t => Tryz.prog.rowNamed t [101, 114, 114, 111, 114]) = [57] := by kernel_rfl

theorem Tryz.typesN : Tryz.prog.types.size = 318 - 100 := by kernel_rfl

/-- the table -/
theorem laid_table {l : List (String × DataW Unit)} {W : World} (h : laidMet Tryz.prog l W) (hm : ("annals/stream.turns", Lib.tabData .u32 (turnsL.map fun n : Nat => (n : Int))) ∈ l) : TurnsAt W := by
  obtain ⟨ps, hv, -, -⟩ := h
  obtain ⟨g0, t0, cs0, f0, p0, hg0, ht0, hv0, hd0, -⟩ := laid_mem hv hm
  obtain rfl := Option.some.inj (Tryz.gTurns.symm.trans hg0)
  obtain rfl := Option.some.inj (Tryz.gTurnsT.symm.trans ht0)
  have hc := Lib.cells_of_tab Tryz.underlying152 Tryz.underlying82 Tryz.cellsCheck Tryz.cellsTurns hd0
  intro i hi
  rw [World.var?_cell hg0 hv0 i, ← Array.getElem?_toList, hc]
  unfold turnAt
  rw [List.getElem?_map, List.getElem?_map]
  have hl : i < turnsL.length := hi
  rw [List.getElem?_eq_getElem hl, List.getD_eq_getElem?_getD, List.getElem?_eq_getElem hl]
  rfl

/-- the type of errors -/
theorem laid_type {W : World} {d : DataW Unit} (hd : d.handleName? = some [101, 114, 114, 111, 114]) (hf : d.funcsIn? = none) (h : handlesMet Tryz.prog [("errors.errorType", d)] W) : W.cell? ⟨7, 0, none⟩ = some (.iface 129 (.agg #[.pointer (some ⟨16, 57, none⟩)])) := by
  have h1 := h _ (List.mem_singleton.2 rfl)
  simp only [hf] at h1
  obtain ⟨name, u, ty, e1, e2, e3, e4, e5⟩ := h1
  obtain rfl := Option.some.inj (e1.symm.trans hd)
  obtain rfl := Option.some.inj (Tryz.rtypeT.symm.trans e2)
  have hm : ty ∈ (List.range (318 - 100)).filter fun t => Tryz.prog.rowNamed t [101, 114, 114, 111, 114] := List.mem_filter.2 ⟨List.mem_range.2 (by rw [← Tryz.typesN]; exact e3), e4⟩
  rw [Tryz.oneRow] at hm
  obtain rfl := List.mem_singleton.1 hm
  have hh : typeHandle Tryz.prog 57 = .pointer (some ⟨16, 57, none⟩) := by kernel_rfl
  rw [hh] at e5
  simpa using World.var?_cell Tryz.gType e5 0

end Go.Proofs.YtkpaiaddikpdoaaGreatDoor
