import Derived.Test.YtfcocbcihhdbkaaGreatDoorM20

/- The document's store: Between, sees, Get, Scan. -/
namespace Go.Proofs.YtfcocbcihhdbkaaGreatDoor
open Go.RowKit Go.Shelf

theorem isKeyR_any (s : ByteArray) (w : World) (hs : s.size ≤ maxLen) :
    Calls Tryz.prog 149 #[.string s] w fun e w' => e = .returned (.bool (keyB s)) ∧ w' = w := by
  unfold maxLen at hs
  go_enter Tryz.func149, Tryz.ntmps149
  go_wp2
  all_goals go_ret
  all_goals
    refine ⟨ret_bool ?_, rfl⟩
    unfold keyB
    rw [Bool.eq_iff_iff]
    simp
    omega

theorem isValueR_any (s : ByteArray) (w : World) (hs : s.size ≤ maxLen) :
    Calls Tryz.prog 150 #[.string s] w fun e w' => e = .returned (.bool (valB s)) ∧ w' = w := by
  unfold maxLen at hs
  go_enter Tryz.func150, Tryz.ntmps150
  go_wp2
  all_goals go_ret
  refine ⟨ret_bool ?_, rfl⟩
  unfold valB
  rw [Bool.eq_iff_iff]
  simp
  omega

theorem placedL_length (l : List RecB) (r : RecB) : (placedL l r).length ≤ l.length + 1 := by
  have := placeTo_length l r
  unfold placedL
  cases h : (placeTo l r).2 with
  | true => rw [h] at this; simpa using this
  | false => rw [h] at this; simp at this ⊢; omega

/-- does a version count between two states? -/
def inB (from_ to : Int) (v : RVer) : Bool := decide (from_ < v.state) && decide (v.state ≤ to)
def betweenL (all : List RVer) (from_ to : Int) : List RecB := (all.filter (inB from_ to)).foldl (fun l v => placedL l v.r) []

theorem betweenL_snoc (all : List RVer) (v : RVer) (from_ to : Int) : betweenL (all ++ [v]) from_ to = if inB from_ to v = true then placedL (betweenL all from_ to) v.r else betweenL all from_ to := by
  unfold betweenL
  rw [List.filter_append, List.foldl_append]
  cases h : inB from_ to v <;> simp [h]

theorem foldl_placed_length : ∀ (l : List RVer) (s : List RecB), (l.foldl (fun l v => placedL l v.r) s).length ≤ s.length + l.length
  | [], s => by simp
  | v :: l, s => by
    have h1 := foldl_placed_length l (placedL s v.r)
    have h2 := placedL_length s v.r
    simp only [List.foldl_cons, List.length_cons]
    omega

theorem betweenL_length (all : List RVer) (from_ to : Int) : (betweenL all from_ to).length ≤ all.length := by
  have := foldl_placed_length (all.filter (inB from_ to)) []
  have h2 := List.length_filter_le (inB from_ to) all
  unfold betweenL
  simp only [List.length_nil] at this
  omega

theorem take_next {α : Type} {l : List α} {k : Nat} {x : α} (hx : l[k]? = some x) : l.take (k + 1) = l.take k ++ [x] := by
  obtain ⟨hk', rfl⟩ := List.getElem?_eq_some_iff.1 hx
  exact List.take_succ_eq_append_getElem hk'

set_option maxRecDepth 100000 in
set_option maxHeartbeats 1000000 in
theorem between_any (R : RRep) (from_ to : Int) (w : World) (h : RefAt w R) (hl : R.all.length < 1000000000000) :
    Calls Tryz.prog 192 #[.pointer (some ⟨R.b, 0, none⟩), .int .i64 from_, .int .i64 to] w fun e w' => ∃ v, e = .returned v ∧ RecsMade w w' v (betweenL R.all from_ to) := by
  obtain ⟨oa, ca, hva, hm, sa⟩ := h.all.form
  have c0 : w.cell? ⟨R.b, 0, none⟩ = some (.slice oa R.all.length ca) := (h.cell 0).trans (by rw [← hva]; rfl)
  have HR := hid h.all
  rw [hva] at HR
  have SA := hid sa
  have hblt := h.blt
  unfold maxLen at hm
  obtain ⟨l, hle⟩ : ∃ l, l = R.all := ⟨_, rfl⟩
  rw [← hle] at c0 HR SA hm hl ⊢
  have HL := hid hl
  clear h hva hle sa
  generalize R.b = b at *
  go_enter Tryz.func192, Tryz.ntmps192
  go_wp2_with fail
  go_loopw [7, 8] (fun v i wr => ∃ k : Nat, k ≤ l.length ∧ i = .int .i64 k ∧ RecsMade w wr v (betweenL (l.take k) from_ to)) (fun _ i _ => l.length - (intOf i).toNat)
  case atStart => exact ⟨0, Nat.zero_le _, rfl, Made.nil (Keeps.refl _ _)⟩
  case round =>
    obtain ⟨k, hk, rfl, hM⟩ := hrel
    obtain ⟨ob, cb, rfl, -, -⟩ := hM.row.form
    have d0 := hM.keep.cell (p := ⟨b, 0, none⟩) c0 (fun h => h)
    have HM := hid hM
    clear hM
    by_cases hlt : k < l.length
    · obtain ⟨g, rfl⟩ := SA.out (by omega)
      obtain ⟨x, hx⟩ : ∃ x, l[k]? = some x := ⟨l[k], List.getElem?_eq_getElem hlt⟩
      obtain ⟨e0, e1, e2, e3, e4⟩ := ver_at HR.out HM.out.keep hx
      have HT := hid (show betweenL (l.take (k + 1)) from_ to = _ by rw [take_next hx, betweenL_snoc])
      have hbl := betweenL_length (l.take k) from_ to
      have hb2 := List.length_take_le k l
      obtain ⟨st, ⟨rk, rv, rg⟩, th⟩ := x
      have HPL := hid (placed_any _ (betweenL (l.take k) from_ to) ⟨rk, rv, rg⟩ wr HM.out.row (by have := HL.out; omega))
      simp only [RecB.val] at HPL e0 e1 e2 e3 e4
      generalize betweenL (l.take k) from_ to = out at *
      clear hx SA
      by_cases hin : from_ < st ∧ st ≤ to
      · have HS : Hid (betweenL (l.take (k + 1)) from_ to = placedL out ⟨rk, rv, rg⟩) := by show _ = _; rw [HT.out]; simp [inB, hin.1, hin.2]
        obtain ⟨hi1, hi2⟩ := hin
        clear HT
        go_wp2_with (go_at_call 90; go_must (refine (HPL.out).mono ?_; rintro e w1 ⟨v1, rfl, hM1⟩))
        exact ⟨⟨k + 1, by omega, by go_num, by rw [HS.out]; exact hM1.from HM.out.keep⟩, by simp only [intOf]; omega⟩
      · have HS : Hid (betweenL (l.take (k + 1)) from_ to = out) := by
          show _ = _
          rw [HT.out]
          have : (inB from_ to ⟨st, ⟨rk, rv, rg⟩, th⟩) = false := by
            rw [Bool.eq_false_iff]
            intro hc
            simp only [inB, Bool.and_eq_true, decide_eq_true_eq] at hc
            exact hin hc
          rw [this]
          rfl
        clear HT HPL
        by_cases hi1 : from_ < st
        · have hi2 : ¬ st ≤ to := fun h => hin ⟨hi1, h⟩
          clear hin
          go_wp2
          exact ⟨⟨k + 1, by omega, by go_num, by rw [HS.out]; exact HM.out⟩, by simp only [intOf]; omega⟩
        · clear hin
          go_wp2
          exact ⟨⟨k + 1, by omega, by go_num, by rw [HS.out]; exact HM.out⟩, by simp only [intOf]; omega⟩
    · have e : betweenL l from_ to = betweenL (l.take k) from_ to := by rw [List.take_of_length_le (by omega)]
      have HE := hid e
      clear e
      go_wp2
      go_ret
      rw [HE.out]
      exact ⟨_, rfl, HM.out⟩

/-- all that stands for a work -/
def seesL (all : List RVer) (began : Int) (writes : List RecB) : List RecB := standingL (writes.foldl placedL (betweenL all (-1) began))

theorem foldl_placed_length2 : ∀ (l s : List RecB), (l.foldl placedL s).length ≤ s.length + l.length
  | [], s => by simp
  | v :: l, s => by
    have h1 := foldl_placed_length2 l (placedL s v)
    have h2 := placedL_length s v
    simp only [List.foldl_cons, List.length_cons]
    omega

set_option maxRecDepth 100000 in
set_option maxHeartbeats 1000000 in
theorem sees_any (R : RRep) (id began : Int) (sl : Value) (ws : List RecB) (w : World) (h : RefAt w R) (hl : R.all.length < 100000000000) (hs : RecsAt w sl ws) (hsl : ws.length < 100000000000) :
    Calls Tryz.prog 186 #[.pointer (some ⟨R.b, 0, none⟩), .agg #[.int .i64 id, .int .i64 began, sl]] w fun e w' => ∃ v, e = .returned v ∧ RecsMade w w' v (seesL R.all began ws) := by
  obtain ⟨oa, ca, rfl, hm, sa⟩ := Row.form hs
  have hk0 : Keeps (fun _ => False) w (w.alloc (.cells #[.int .i64 id, .int .i64 began, .slice oa ws.length ca] 219)) := Keeps.alloc _ _ _
  have HB := hid (between_any R (-1) began _ (h.kept hk0 (fun _ _ h => h)) (by omega))
  have HBX := hid (heap_new w (.cells #[.int .i64 id, .int .i64 began, .slice oa ws.length ca] 219))
  have HS := hid (Row.kept hs hk0 (fun _ _ h => h))
  have hbl0 := betweenL_length R.all (-1) began
  obtain ⟨bt, hbt⟩ : ∃ bt, bt = betweenL R.all (-1) began := ⟨_, rfl⟩
  rw [← hbt] at HB hbl0
  have HBT := hid hbt
  have SA := hid sa
  have HL := hid (And.intro hl hsl)
  clear hbt
  unfold maxLen at hm
  clear h hs sa hl hsl
  go_enter Tryz.func186, Tryz.ntmps186
  go_wp2_with (go_at_call 192; go_must (refine (HB.out).mono ?_; rintro e w1 ⟨v1, rfl, hM1⟩))
  have HM1 := hid hM1
  clear hM1 HB
  go_loopw [5, 6] (fun v i wr => ∃ k : Nat, k ≤ ws.length ∧ i = .int .i64 k ∧ RecsMade (w.alloc (.cells #[.int .i64 id, .int .i64 began, .slice oa ws.length ca] 219)) wr v ((ws.take k).foldl placedL bt)) (fun _ i _ => ws.length - (intOf i).toNat)
  case atStart => exact ⟨0, Nat.zero_le _, rfl, HM1.out⟩
  case round =>
    obtain ⟨k, hk, rfl, hM⟩ := hrel
    obtain ⟨ob, cb, rfl, -, -⟩ := hM.row.form
    have hbx := (hM.keep.block w.heap.size (by simp) (fun h => h)).trans HBX.out
    have b2 := cell_of_heap hbx 2
    simp at b2
    have HM := hid hM
    have hfl := foldl_placed_length2 (ws.take k) bt
    have hb2 := List.length_take_le k ws
    clear hM hbx
    by_cases hlt : k < ws.length
    · obtain ⟨g, rfl⟩ := SA.out (by omega)
      obtain ⟨x, hx⟩ : ∃ x, ws[k]? = some x := ⟨ws[k], List.getElem?_eq_getElem hlt⟩
      obtain ⟨e0, e1, e2⟩ := rec_at HS.out HM.out.keep hx
      have HT := hid (show (ws.take (k + 1)).foldl placedL bt = placedL ((ws.take k).foldl placedL bt) x by rw [take_next hx, List.foldl_append]; rfl)
      obtain ⟨rk, rv, rg⟩ := x
      have HPL := hid (placed_any _ ((ws.take k).foldl placedL bt) ⟨rk, rv, rg⟩ wr HM.out.row (by have := HL.out; omega))
      simp only [RecB.val] at HPL e0 e1 e2
      generalize (ws.take k).foldl placedL bt = out at *
      clear hx SA
      go_wp2_with (go_at_call 90; go_must (refine (HPL.out).mono ?_; rintro e w2 ⟨v2, rfl, hM2⟩))
      exact ⟨⟨k + 1, by omega, by go_num, by rw [HT.out]; exact hM2.from HM.out.keep⟩, by simp only [intOf]; omega⟩
    · have e : seesL R.all began ws = standingL ((ws.take k).foldl placedL bt) := by unfold seesL; rw [← HBT.out, List.take_of_length_le (by omega)]
      have HE := hid e
      have HST := hid (standing_any _ _ wr HM.out.row (by have := HL.out; omega))
      clear e
      generalize (ws.take k).foldl placedL bt = out at *
      go_wp2_with (go_at_call 91; go_must (refine (HST.out).mono ?_; rintro e w2 ⟨v2, rfl, hM2⟩))
      go_ret
      rw [HE.out]
      exact ⟨_, rfl, (hM2.from HM.out.keep).from hk0⟩

end Go.Proofs.YtfcocbcihhdbkaaGreatDoor

/- The document's store: Get, Scan. -/
namespace Go.Proofs.YtfcocbcihhdbkaaGreatDoor
open Go.RowKit Go.Shelf

/-- what Get answers, of what a work sees -/
def getFrom : Option RecB → ByteArray × Int
  | some r => (r.value, 0)
  | none => (ByteArray.empty, 1)
def getOf (l : List RecB) (key : ByteArray) : ByteArray × Int := getFrom (hasL l key)

theorem seesL_length (all : List RVer) (began : Int) (ws : List RecB) : (seesL all began ws).length ≤ all.length + ws.length := by
  unfold seesL standingL
  have h1 := List.length_filter_le (fun r : RecB => !r.gone) (ws.foldl placedL (betweenL all (-1) began))
  have h2 := foldl_placed_length2 ws (betweenL all (-1) began)
  have h3 := betweenL_length all (-1) began
  omega

set_option maxRecDepth 100000 in
set_option maxHeartbeats 800000 in
theorem getR_none (R : RRep) (id : Int) (key : ByteArray) (w : World) (h : RefAt w R) (hl : R.works.length < 1000000000000) (hf : findL R.works id = none) :
    Calls Tryz.prog 126 #[.pointer (some ⟨R.b, 0, none⟩), .int .i64 id, .string key] w fun e w' => e = .returned (.tuple #[.string ByteArray.empty, .int .i64 1]) ∧ Keeps (fun _ => False) w w' := by
  have hfn := findR_any R id w h hl
  rw [hf] at hfn
  have HF := hid hfn
  clear hfn hf h
  simp only [idxZ] at HF
  go_enter Tryz.func126, Tryz.ntmps126
  go_wp2_with (go_at_call 184; go_must (refine (HF.out).mono ?_; rintro e w1 ⟨rfl, rfl⟩))
  go_ret2
  exact ⟨rfl, Keeps.refl _ _⟩

set_option maxRecDepth 100000 in
set_option maxHeartbeats 800000 in
theorem getR_some (R : RRep) (id : Int) (key : ByteArray) (k : Nat) (x : RWk) (w : World) (h : RefAt w R) (hl : R.works.length < 100000000000) (ha : R.all.length < 100000000000) (hf : findL R.works id = some k) (hx : R.works[k]? = some x) (hw : x.writes.length < 100000000000) (hk : key.size ≤ maxLen) :
    Calls Tryz.prog 126 #[.pointer (some ⟨R.b, 0, none⟩), .int .i64 id, .string key] w fun e w' => e = .returned (.tuple #[.string (if keyB key = true then getOf (seesL R.all x.began x.writes) key else (ByteArray.empty, 2)).1, .int .i64 (if keyB key = true then getOf (seesL R.all x.began x.writes) key else (ByteArray.empty, 2)).2]) ∧ Keeps (fun _ => False) w w' := by
  have hfn := findR_any R id w h (by omega)
  rw [hf] at hfn
  have HF := hid hfn
  simp only [idxZ] at HF
  have hxm : x ∈ R.works := List.mem_of_getElem? hx
  have hkl : k < R.works.length := (List.getElem?_eq_some_iff.1 hx).1
  obtain ⟨oa, ca, hva, hm, sa⟩ := h.works.form
  obtain ⟨g, rfl⟩ := sa (by omega)
  have c3 : w.cell? ⟨R.b, 3, none⟩ = some (.slice (some ⟨g, 0, none⟩) R.works.length ca) := (h.cell 3).trans (by rw [← hva]; rfl)
  have hrow := h.works
  rw [hva] at hrow
  obtain ⟨d0, d1, d2⟩ := wk_at hrow (Keeps.refl _ w) hx
  have HSE := hid (sees_any R x.id x.began x.sl x.writes w h ha (h.writes x hxm) hw)
  have hsl := seesL_length R.all x.began x.writes
  have HIK : Hid (∀ W, Calls Tryz.prog 149 #[.string key] W fun e w' => e = .returned (.bool (keyB key)) ∧ w' = W) := fun W => isKeyR_any key W hk
  unfold maxLen at hm
  obtain ⟨L, hL⟩ : ∃ L, L = seesL R.all x.began x.writes := ⟨_, rfl⟩
  rw [← hL] at HSE hsl ⊢
  obtain ⟨osl, csl, hosl, -, -⟩ := Row.form (h.writes x hxm)
  rw [hosl] at HSE d2
  clear hfn hf h hx hxm sa hva hrow hk hL hosl
  generalize x.began = bg at *
  generalize x.id = xi at *
  generalize x.writes.length = wl at *
  cases hkb : keyB key with
  | false =>
    rw [hkb] at HIK
    clear hkb HSE
    go_enter Tryz.func126, Tryz.ntmps126
    go_wp2_with (first
      | (go_at_call 184; go_must (refine (HF.out).mono ?_; rintro e w1 ⟨rfl, rfl⟩))
      | (go_at_call 149; go_must (refine (HIK.out _).mono ?_; rintro e w1 ⟨rfl, rfl⟩)))
    go_ret2
    exact ⟨rfl, Keeps.refl _ _⟩
  | true =>
    rw [hkb] at HIK
    simp only [if_true]
    clear hkb
    obtain ⟨q, hq⟩ : ∃ q, q = hasL L key := ⟨_, rfl⟩
    have HG : Hid (getOf L key = getFrom q) := by show _ = _; rw [hq]; rfl
    have HHAS : Hid (∀ v W, RecsAt W v L → Calls Tryz.prog 185 #[v, .string key] W fun e w' => e = .returned (.tuple #[(q.getD RecB.zero).val, .bool q.isSome]) ∧ Keeps (fun _ => False) W w') := fun v W hv => by rw [hq]; exact hasR_any v L key W hv (by omega)
    rw [HG.out]
    clear hq HG
    cases q with
    | none =>
      simp only [Option.getD_none, Option.isSome_none, RecB.val, RecB.zero] at HHAS
      go_enter Tryz.func126, Tryz.ntmps126
      go_wp2_with (first
        | (go_at_call 184; go_must (refine (HF.out).mono ?_; rintro e w1 ⟨rfl, rfl⟩))
        | (go_at_call 149; go_must (refine (HIK.out _).mono ?_; rintro e w1 ⟨rfl, rfl⟩))
        | (go_at_call 186; go_must (refine (HSE.out).mono ?_; rintro e w1 ⟨v1, rfl, hM1⟩; have HM1 := hid hM1; clear hM1))
        | (go_at_call 185; go_must (refine (HHAS.out _ _ HM1.out.row).mono ?_; rintro e w2 ⟨rfl, hk2⟩)))
      go_ret2
      exact ⟨rfl, (HM1.out.keep.tr hk2 (fun _ h => h)).al _⟩
    | some r =>
      obtain ⟨rk, rv, rg⟩ := r
      simp only [Option.getD_some, Option.isSome_some, RecB.val] at HHAS
      go_enter Tryz.func126, Tryz.ntmps126
      go_wp2_with (first
        | (go_at_call 184; go_must (refine (HF.out).mono ?_; rintro e w1 ⟨rfl, rfl⟩))
        | (go_at_call 149; go_must (refine (HIK.out _).mono ?_; rintro e w1 ⟨rfl, rfl⟩))
        | (go_at_call 186; go_must (refine (HSE.out).mono ?_; rintro e w1 ⟨v1, rfl, hM1⟩; have HM1 := hid hM1; clear hM1))
        | (go_at_call 185; go_must (refine (HHAS.out _ _ HM1.out.row).mono ?_; rintro e w2 ⟨rfl, hk2⟩)))
      go_ret2
      exact ⟨rfl, (HM1.out.keep.tr hk2 (fun _ h => h)).al _⟩

/-- the pairs of records -/
def pairsOf (l : List RecB) : List (ByteArray × ByteArray) := l.map (fun r => (r.key, r.value))
/-- a scan's pairs -/
def scanOf (l : List RecB) (from_ : ByteArray) (most : Int) : List (ByteArray × ByteArray) := takeM most (pairsOf (l.filter (fun r => !ltK r.key from_)))

theorem scanOf_snoc (l : List RecB) (r : RecB) (from_ : ByteArray) (most : Int) (hm : -9223372036854775808 ≤ most) : scanOf (l ++ [r]) from_ most = if ltK r.key from_ = false ∧ (most < 0 ∨ ((scanOf l from_ most).length : Int) < most) then scanOf l from_ most ++ [(r.key, r.value)] else scanOf l from_ most := by
  have _ := hm
  unfold scanOf
  rw [List.filter_append]
  cases h : ltK r.key from_ with
  | true => simp [h]
  | false =>
    simp only [h, List.filter_cons, Bool.not_false, if_true, List.filter_nil, true_and]
    generalize l.filter (fun r => !ltK r.key from_) = m
    unfold pairsOf takeM
    rw [List.map_append]
    generalize m.map (fun r => (r.key, r.value)) = z
    simp only [List.map_cons, List.map_nil]
    by_cases h0 : most < 0
    · simp [h0]
    · simp only [h0, if_false, false_or]
      rw [List.take_append]
      by_cases h1 : ((z.take most.toNat).length : Int) < most
      · rw [if_pos h1]
        have h2 : z.length < most.toNat := by rw [List.length_take] at h1; omega
        have h3 : most.toNat - z.length = (most.toNat - z.length - 1) + 1 := by omega
        rw [h3]
        simp
      · rw [if_neg h1]
        have h2 : most.toNat ≤ z.length := by rw [List.length_take] at h1; omega
        have h3 : most.toNat - z.length = 0 := by omega
        rw [h3]
        simp

theorem scanOf_length (l : List RecB) (from_ : ByteArray) (most : Int) : (scanOf l from_ most).length ≤ l.length := by
  unfold scanOf takeM pairsOf
  have := List.length_filter_le (fun r : RecB => !ltK r.key from_) l
  split
  · simpa using this
  · rw [List.length_take, List.length_map]; omega

abbrev PairsMade (w W : World) (v : Value) (l : List (ByteArray × ByteArray)) : Prop := Made 90 2 pairCells w W v l

set_option maxRecDepth 100000 in
set_option maxHeartbeats 800000 in
theorem scanR_none (R : RRep) (id : Int) (from_ : ByteArray) (most : Int) (w : World) (h : RefAt w R) (hl : R.works.length < 1000000000000) (hf : findL R.works id = none) :
    Calls Tryz.prog 140 #[.pointer (some ⟨R.b, 0, none⟩), .int .i64 id, .string from_, .int .i64 most] w fun e w' => e = .returned (.tuple #[.slice none 0 0, .int .i64 1]) ∧ Keeps (fun _ => False) w w' := by
  have hfn := findR_any R id w h hl
  rw [hf] at hfn
  have HF := hid hfn
  clear hfn hf h
  simp only [idxZ] at HF
  go_enter Tryz.func140, Tryz.ntmps140
  go_wp2_with (go_at_call 184; go_must (refine (HF.out).mono ?_; rintro e w1 ⟨rfl, rfl⟩))
  go_ret2
  exact ⟨rfl, Keeps.refl _ _⟩

set_option maxRecDepth 100000 in
set_option maxHeartbeats 800000 in
theorem scanR_text (R : RRep) (id : Int) (from_ : ByteArray) (most : Int) (k : Nat) (w : World) (h : RefAt w R) (hl : R.works.length < 1000000000000) (hf : findL R.works id = some k) (hs : 10 < from_.size) (hs2 : from_.size ≤ maxLen) :
    Calls Tryz.prog 140 #[.pointer (some ⟨R.b, 0, none⟩), .int .i64 id, .string from_, .int .i64 most] w fun e w' => e = .returned (.tuple #[.slice none 0 0, .int .i64 2]) ∧ Keeps (fun _ => False) w w' := by
  have hfn := findR_any R id w h hl
  rw [hf] at hfn
  have HF := hid hfn
  clear hfn hf h
  simp only [idxZ] at HF
  unfold maxLen at hs2
  have hd : decide (10 < (from_.size : Int)) = true := decide_eq_true (by omega)
  go_enter Tryz.func140, Tryz.ntmps140
  go_wp2_with (go_at_call 184; go_must (refine (HF.out).mono ?_; rintro e w1 ⟨rfl, rfl⟩))
  go_ret2
  exact ⟨rfl, Keeps.refl _ _⟩

set_option maxRecDepth 100000 in
set_option maxHeartbeats 2000000 in
theorem scanR_some (R : RRep) (id : Int) (from_ : ByteArray) (most : Int) (k : Nat) (x : RWk) (w : World) (h : RefAt w R) (hl : R.works.length < 100000000000) (ha : R.all.length < 100000000000) (hf : findL R.works id = some k) (hx : R.works[k]? = some x) (hw : x.writes.length < 100000000000) (hs : from_.size ≤ 10) (hm1 : -9223372036854775808 ≤ most) (hm2 : most ≤ 9223372036854775807) :
    Calls Tryz.prog 140 #[.pointer (some ⟨R.b, 0, none⟩), .int .i64 id, .string from_, .int .i64 most] w fun e w' => ∃ v, e = .returned (.tuple #[v, .int .i64 0]) ∧ PairsMade w w' v (scanOf (seesL R.all x.began x.writes) from_ most) := by
  have hfn := findR_any R id w h (by omega)
  rw [hf] at hfn
  have HF := hid hfn
  simp only [idxZ] at HF
  have hxm : x ∈ R.works := List.mem_of_getElem? hx
  have hkl : k < R.works.length := (List.getElem?_eq_some_iff.1 hx).1
  obtain ⟨oa, ca, hva, hm, sa⟩ := h.works.form
  obtain ⟨g, rfl⟩ := sa (by omega)
  have c3 : w.cell? ⟨R.b, 3, none⟩ = some (.slice (some ⟨g, 0, none⟩) R.works.length ca) := (h.cell 3).trans (by rw [← hva]; rfl)
  have hrow := h.works
  rw [hva] at hrow
  obtain ⟨d0, d1, d2⟩ := wk_at hrow (Keeps.refl _ w) hx
  have HSE := hid (sees_any R x.id x.began x.sl x.writes w h ha (h.writes x hxm) hw)
  have hsl := seesL_length R.all x.began x.writes
  unfold maxLen at hm
  obtain ⟨L, hL⟩ : ∃ L, L = seesL R.all x.began x.writes := ⟨_, rfl⟩
  rw [← hL] at HSE hsl ⊢
  obtain ⟨osl, csl, hosl, -, -⟩ := Row.form (h.writes x hxm)
  rw [hosl] at HSE d2
  have hdf : decide (10 < (from_.size : Int)) = false := decide_eq_false (by omega)
  obtain ⟨i0, hi, hz0, hz1, hz2⟩ := info_parts Tryz.infoPair
  have hLb : L.length < 1000000000000 := by omega
  have HL := hid hLb
  clear hfn hf h hx hxm sa hva hrow hL hosl hLb
  generalize x.began = bg at *
  generalize x.id = xi at *
  generalize x.writes.length = wl at *
  go_enter Tryz.func140, Tryz.ntmps140
  go_wp2_with (first
    | (go_at_call 184; go_must (refine (HF.out).mono ?_; rintro e w1 ⟨rfl, rfl⟩))
    | (go_at_call 186; go_must (refine (HSE.out).mono ?_; rintro e w1 ⟨v1, rfl, hM1⟩; obtain ⟨ol, cl, rfl, hlm, sl⟩ := hM1.row.form; have HM1 := hid hM1; clear hM1)))
  have SL := hid sl
  unfold maxLen at hlm
  clear sl HSE HF
  go_loopw [12, 13] (fun v i wr => ∃ k : Nat, k ≤ L.length ∧ i = .int .i64 k ∧ PairsMade w1 wr v (scanOf (L.take k) from_ most)) (fun _ i _ => L.length - (intOf i).toNat)
  case atStart => exact ⟨0, Nat.zero_le _, rfl, by have : scanOf (L.take 0) from_ most = [] := by simp [scanOf, pairsOf, takeM]
                                                   rw [this]; exact Made.nil (Keeps.refl _ _)⟩
  case round =>
    obtain ⟨k2, hk2, rfl, hM⟩ := hrel
    obtain ⟨ob, cb, rfl, -, -⟩ := hM.row.form
    have HM := hid hM
    clear hM
    by_cases hlt : k2 < L.length
    · obtain ⟨gl, rfl⟩ := SL.out (by omega)
      obtain ⟨y, hy⟩ : ∃ y, L[k2]? = some y := ⟨L[k2], List.getElem?_eq_getElem hlt⟩
      obtain ⟨e0, e1, e2⟩ := rec_at HM1.out.row HM.out.keep hy
      have HT := hid (show scanOf (L.take (k2 + 1)) from_ most = _ by rw [take_next hy, scanOf_snoc _ _ _ _ hm1])
      have hol := scanOf_length (L.take k2) from_ most
      have hb2 := List.length_take_le k2 L
      obtain ⟨rk, rv, rg⟩ := y
      simp only at e0 e1 e2
      generalize scanOf (L.take k2) from_ most = out at *
      have hge : ∀ W, (binOp BinOp.geq 9 (.string rk) (.string from_)).run Tryz.prog W = .ok (.bool (!ltK rk from_)) W := fun W => run_geq_str rk from_ W
      have HY := hid hy
      clear hy SL
      cases hq : ltK rk from_ with
      | true =>
        have HS : Hid (scanOf (L.take (k2 + 1)) from_ most = out) := by show _ = _; rw [HT.out]; simp [hq]
        rw [hq] at hge
        simp only [Bool.not_true] at hge
        clear HT hq
        go_wp2
        exact ⟨⟨k2 + 1, by omega, by go_num, by rw [HS.out]; exact HM.out⟩, by simp only [intOf]; omega⟩
      | false =>
        rw [hq] at hge
        simp only [Bool.not_false] at hge
        by_cases hc : most < 0 ∨ (out.length : Int) < most
        · have HS : Hid (scanOf (L.take (k2 + 1)) from_ most = out ++ [(rk, rv)]) := by show _ = _; rw [HT.out, if_pos ⟨hq, hc⟩]
          clear HT hq
          have hfin : ∀ (v' : Value) (w' : World), PairsMade w1 w' v' (out ++ [(rk, rv)]) → PairsMade w1 w' v' (scanOf (L.take (k2 + 1)) from_ most) := fun v' w' h => by rw [HS.out]; exact h
          have HFIN := hid hfin
          clear hfin HS
          by_cases hc0 : most < 0
          · clear hc
            go_wp2_with fail
            go_region_held3 (fun W => W.cell? ⟨gl, k2 * 3, none⟩ = some (.string rk) ∧ W.cell? ⟨gl, k2 * 3 + 1, none⟩ = some (.string rv)) (go_keep)
              ((refine step_append_row _ (by rfl) _ _ 55 (by rfl) 90 i0 _ 2 32 Tryz.underlying55 hi hz0 hz1 hz2 (by rfl) (.slice ob out.length cb) out.length _ (by rfl) (HM.out.row.kept ((Keeps.refl (fun _ => False) wr).al _).dr (fun _ _ h => h)) ⟨wr.heap.size, 0, none⟩ 1 1 [.string rk, .string rv] (by rfl) (by rfl) (news_arr wr #[.string rk, .string rv] _) (by simp [Value.oneCell']) (by have := HL.out; unfold maxLen; omega) (by have := HL.out; omega) ?_; intro v' w2 hown' hgrow _ hat; obtain ⟨g', cap', rfl⟩ := hown'.succ; have HN := hid (HM.out.push (a := (rk, rv)) ((Keeps.refl (fun _ => False) wr).al _).dr hown' hgrow hat); obtain ⟨r0, r1, r2⟩ := rec_at HM1.out.row HN.out.keep HY.out; clear hown' hgrow hat))
            go_wp2
            exact ⟨⟨k2 + 1, by omega, by go_num, HFIN.out _ _ (HN.out.slice (by simp))⟩, by simp only [intOf]; omega⟩
          · have hc1 : (out.length : Int) < most := by omega
            clear hc
            go_wp2_with fail
            go_region_held3 (fun W => W.cell? ⟨gl, k2 * 3, none⟩ = some (.string rk) ∧ W.cell? ⟨gl, k2 * 3 + 1, none⟩ = some (.string rv)) (go_keep)
              ((refine step_append_row _ (by rfl) _ _ 55 (by rfl) 90 i0 _ 2 32 Tryz.underlying55 hi hz0 hz1 hz2 (by rfl) (.slice ob out.length cb) out.length _ (by rfl) (HM.out.row.kept ((Keeps.refl (fun _ => False) wr).al _).dr (fun _ _ h => h)) ⟨wr.heap.size, 0, none⟩ 1 1 [.string rk, .string rv] (by rfl) (by rfl) (news_arr wr #[.string rk, .string rv] _) (by simp [Value.oneCell']) (by have := HL.out; unfold maxLen; omega) (by have := HL.out; omega) ?_; intro v' w2 hown' hgrow _ hat; obtain ⟨g', cap', rfl⟩ := hown'.succ; have HN := hid (HM.out.push (a := (rk, rv)) ((Keeps.refl (fun _ => False) wr).al _).dr hown' hgrow hat); obtain ⟨r0, r1, r2⟩ := rec_at HM1.out.row HN.out.keep HY.out; clear hown' hgrow hat))
            go_wp2
            exact ⟨⟨k2 + 1, by omega, by go_num, HFIN.out _ _ (HN.out.slice (by simp))⟩, by simp only [intOf]; omega⟩
        · have HS : Hid (scanOf (L.take (k2 + 1)) from_ most = out) := by show _ = _; rw [HT.out, if_neg (fun h => hc h.2)]
          have h1 : ¬ most < 0 := fun h => hc (.inl h)
          have h2 : ¬ (out.length : Int) < most := fun h => hc (.inr h)
          clear HT hq hc
          go_wp2
          exact ⟨⟨k2 + 1, by omega, by go_num, by rw [HS.out]; exact HM.out⟩, by simp only [intOf]; omega⟩
    · have e : scanOf L from_ most = scanOf (L.take k2) from_ most := by rw [List.take_of_length_le (by omega)]
      have HE := hid e
      clear e
      go_wp2
      go_ret2
      rw [HE.out]
      exact ⟨_, rfl, HM.out.from HM1.out.keep⟩

end Go.Proofs.YtfcocbcihhdbkaaGreatDoor

/- The document's store, written: Begin, over, Abort, Write, puts, clash, Commit. -/
namespace Go.Proofs.YtfcocbcihhdbkaaGreatDoor
open Go.RowKit Go.Shelf

/-- what lies in blocks of other types stays -/
theorem RefAt.rows {w w' : World} {R : RRep} (h : RefAt w R) (e : TypeId) (hk : Keeps (fun k => k = R.b ∨ TypeIs w k e) w w') :
    (e ≠ 152 → Row w' 152 5 R.va R.all.length (R.all.flatMap RVer.cells)) ∧
    (e ≠ 219 → Row w' 219 3 R.vw R.works.length (R.works.flatMap RWk.cells)) ∧
    (e ≠ 34 → ∀ x ∈ R.works, RecsAt w' x.sl x.writes) ∧
    (e ≠ 3 → Row w' 3 1 R.vp R.pins.length (R.pins.flatMap pinCells)) ∧
    (e ≠ 270 → Row w' 270 3 R.vc R.copies.length (R.copies.flatMap RCp.cells)) ∧
    (e ≠ 9 → ∀ x ∈ R.copies, Seg x.blks w' x.sl x.pieces ∧ ∀ k ∈ x.blks, TypeIs w' k 9) := by
  have hb : TypeIs w R.b 79 := ⟨_, h.top⟩
  have gen : ∀ {g : Nat} {t : TypeId}, TypeIs w g t → t ≠ 79 → e ≠ t → ¬ (g = R.b ∨ TypeIs w g e) := fun ht h1 h2 => by
    rintro (rfl | h3)
    · exact ht.ne h1 hb
    · exact h3.ne h2 ht
  refine ⟨fun hne => h.all.kept hk (fun g hg => gen (h.all.typeIs hg) (by decide) hne), fun hne => h.works.kept hk (fun g hg => gen (h.works.typeIs hg) (by decide) hne), fun hne x hx => Row.kept (h.writes x hx) hk (fun g hg => gen (Row.typeIs (h.writes x hx) hg) (by decide) hne),
    fun hne => h.pins.kept hk (fun g hg => gen (h.pins.typeIs hg) (by decide) hne), fun hne => h.copies.kept hk (fun g hg => gen (h.copies.typeIs hg) (by decide) hne), fun hne x hx => ?_⟩
  obtain ⟨h1, h2⟩ := h.pieces x hx
  exact ⟨h1.kept (fun k hk' => hk.block k (h2 k hk').lt (gen (h2 k hk') (by decide) hne)), fun k hk' => (h2 k hk').kept hk (gen (h2 k hk') (by decide) hne)⟩

/-- What a call leaves of the document's store: all else is as it was. -/
def RAfter (R R' : RRep) (w w' : World) : Prop := RefAt w' R' ∧ R'.b = R.b ∧ Keeps (· ∈ R.fp) w w' ∧ ∀ k ∈ R'.fp, k ∈ R.fp ∨ w.heap.size ≤ k

theorem RefAt.same {w w' : World} {R : RRep} (h : RefAt w R) (hk : Keeps (fun _ => False) w w') : RAfter R R w w' := ⟨h.kept hk (fun _ _ h => h), rfl, hk.mono (fun _ _ h => h.elim), fun _ hk => .inl hk⟩

theorem Tryz.infoWork : (Tryz.prog.info? 219).map (fun i => (i.zero, i.size, i.bytes)) = some (some (.agg #[.int .i64 0, .int .i64 0, .slice none 0 0]), 3, 40) := by kernel_rfl

/-- a list of works that a function makes becomes the store's -/
theorem RefAt.setWorks {w W : World} {R : RRep} {v : Value} {l : List RWk} (h : RefAt w R) (hk : Keeps (fun _ => False) w W) (hr : Row W 219 3 v l.length (l.flatMap RWk.cells)) (hown : ∀ g, v.ownBlock = some g → w.heap.size ≤ g) (hl : ∀ x ∈ l, x ∈ R.works) :
    RAfter R { R with vw := v, works := l } w (W.setCell ⟨R.b, 3, none⟩ v) := by
  have hb := (hk.block _ h.blt (fun h => h)).trans h.top
  have hkk : Keeps (fun k => k = R.b ∨ TypeIs w k 79) w (W.setCell ⟨R.b, 3, none⟩ v) := (hk.mono (fun _ _ h => h.elim)).tr (Keeps.setCell _ _ _) (fun _ h => .inl h)
  obtain ⟨r1, r2, r3, r4, r5, r6⟩ := h.rows _ hkk
  have hne : ∀ g, v.ownBlock = some g → g ≠ R.b := fun g hg e => by have := hown g hg; have := h.blt; omega
  refine ⟨⟨?_, r1 (by decide), hr.kept (Keeps.setCell _ _ _) (fun g hg e => hne g hg e), fun x hx => r3 (by decide) x (hl x hx), r4 (by decide), r5 (by decide), r6 (by decide)⟩, rfl, (hk.mono (fun _ _ h => h.elim)).tr (Keeps.setCell _ _ _) (fun k e => by have e' : k = R.b := e; rw [e']; simp [RRep.fp]), fun k hk' => ?_⟩
  · rw [heap_setCell_same hb]
    rfl
  · simp only [RRep.fp, List.mem_cons, List.mem_append, List.mem_flatMap, Option.mem_toList] at hk' ⊢
    rcases hk' with h1 | ((((h1 | h1) | h1) | h1) | ⟨x, hx, h1⟩) | h1
    · exact .inl (.inl h1)
    · exact .inl (.inr (.inl (.inl (.inl (.inl (.inl h1))))))
    · exact .inr (hown k h1)
    · exact .inl (.inr (.inl (.inl (.inl (.inr h1)))))
    · exact .inl (.inr (.inl (.inl (.inr h1))))
    · exact .inl (.inr (.inl (.inr ⟨x, hl x hx, h1⟩)))
    · exact .inl (.inr (.inr h1))

def overL (l : List RWk) (k : Nat) : List RWk := l.eraseIdx k

set_option maxRecDepth 100000 in
set_option maxHeartbeats 1000000 in
theorem over_any (R : RRep) (k : Nat) (w : World) (h : RefAt w R) (hl : R.works.length < 100000000000) (hk : k < R.works.length) :
    Calls Tryz.prog 187 #[.pointer (some ⟨R.b, 0, none⟩), .int .i64 k] w fun e w' => e = .returned (.tuple #[]) ∧ ∃ v, RAfter R { R with vw := v, works := R.works.eraseIdx k } w w' := by
  obtain ⟨oa, ca, hva, hm, sa⟩ := h.works.form
  obtain ⟨g, rfl⟩ := sa (by omega)
  have c3 : w.cell? ⟨R.b, 3, none⟩ = some (.slice (some ⟨g, 0, none⟩) R.works.length ca) := (h.cell 3).trans (by rw [← hva]; rfl)
  have hrow := h.works
  rw [hva] at hrow
  have HR := hid hrow
  have HH := hid h
  have hblt := h.blt
  have hform : ∀ x ∈ R.works, ∃ a n cap, x.sl = .slice a n cap := fun x hx => by
    obtain ⟨a, cap, e, _⟩ := Row.form (h.writes x hx)
    exact ⟨a, _, cap, e⟩
  have HFO := hid hform
  obtain ⟨i0, hi, hz0, hz1, hz2⟩ := info_parts Tryz.infoWork
  unfold maxLen at hm
  obtain ⟨l, hle⟩ : ∃ l, l = R.works := ⟨_, rfl⟩
  have HLE := hid hle
  rw [← hle] at c3 HR HFO hm hl hk
  have HL := hid hl
  clear h hva hle sa hrow hform
  have fz : ∀ W, Keeps (fun _ => False) w W → W.frozen? ⟨R.b, 3, none⟩ = false := fun W hW => (HH.out.kept hW (fun _ _ h => h)).frozen 3
  have HFZ := hid fz
  clear fz
  go_enter Tryz.func187, Tryz.ntmps187
  go_wp2_with fail
  go_loopw [4, 5] (fun v i wr => ∃ j : Nat, j ≤ l.length ∧ i = .int .i64 j ∧ Made 219 3 RWk.cells w wr v ((l.take j).eraseIdx k)) (fun _ i _ => l.length - (intOf i).toNat)
  case atStart => exact ⟨0, Nat.zero_le _, rfl, Made.nil (Keeps.refl _ _)⟩
  case round =>
    obtain ⟨j, hj, rfl, hM⟩ := hrel
    obtain ⟨ob, cb, rfl, -, -⟩ := hM.row.form
    have d3 := hM.keep.cell (p := ⟨R.b, 3, none⟩) c3 (fun h => h)
    have HM := hid hM
    clear hM
    by_cases hlt : j < l.length
    · obtain ⟨y, hy⟩ : ∃ y, l[j]? = some y := ⟨l[j], List.getElem?_eq_getElem hlt⟩
      obtain ⟨e0, e1, e2⟩ := wk_at HR.out HM.out.keep hy
      obtain ⟨ya, yn, yc, hys⟩ := HFO.out y (List.mem_of_getElem? hy)
      have hte := take_next hy
      have hol : ((l.take j).eraseIdx k).length ≤ j := Nat.le_trans (List.length_eraseIdx_le _ _) (List.length_take_le _ _)
      have hjl : (l.take j).length = j := by rw [List.length_take]; omega
      by_cases hjk : j = k
      · subst hjk
        have HS : Hid ((l.take (j + 1)).eraseIdx j = (l.take j).eraseIdx j) := by
          show _ = _
          rw [hte, List.eraseIdx_append_of_length_le (by omega), hjl, List.eraseIdx_of_length_le (l := l.take j) (by omega)]
          simp
        clear hte hy
        go_wp2
        exact ⟨⟨j + 1, by omega, by go_num, by rw [HS.out]; exact HM.out⟩, by simp only [intOf]; omega⟩
      · have HS : Hid ((l.take (j + 1)).eraseIdx k = (l.take j).eraseIdx k ++ [y]) := by
          show _ = _
          rw [hte]
          rcases Nat.lt_or_ge k j with h1 | h1
          · rw [List.eraseIdx_append_of_lt_length (by omega)]
          · rw [List.eraseIdx_append_of_length_le (by omega), hjl, List.eraseIdx_of_length_le (l := l.take j) (by omega), List.eraseIdx_of_length_le (by simp; omega)]
        have hne : ((j : Int) == (k : Int)) = false := beq_eq_false_iff_ne.2 (by omega)
        generalize (l.take j).eraseIdx k = out at *
        obtain ⟨yi, yb, ysl, yws⟩ := y
        simp only at hys e0 e1 e2
        subst hys
        clear hte hy
        go_wp2_with (first | (at_builtin; go_must (refine wpList_append_row _ rfl _ _ 76 rfl 219 i0 _ 3 40 Tryz.underlying76 hi hz0 hz1 hz2 rfl (.slice ob out.length cb) out.length _ rfl (HM.out.row.kept (Keeps.alloc (fun _ => False) wr _) (fun _ _ h => h)) ⟨wr.heap.size, 0, none⟩ 1 1 [.int .i64 yi, .int .i64 yb, .slice ya yn yc] rfl rfl (news_arr _ #[.int .i64 yi, .int .i64 yb, .slice ya yn yc] _) (by simp [Value.oneCell']) (by have := HL.out; unfold maxLen; omega) (by have := HL.out; omega) ?_; intro v' w1 hown' hgrow _ hat; obtain ⟨g1, c1, rfl⟩ := hown'.succ; have HN := hid (HM.out.push (a := ⟨yi, yb, .slice ya yn yc, yws⟩) (Keeps.alloc (fun _ => False) wr _) hown' hgrow hat); clear hown' hgrow hat)) | fail)
        exact ⟨⟨j + 1, by omega, by go_num, by rw [HS.out]; exact HN.out.slice (by simp)⟩, by simp only [intOf]; omega⟩
    · have e : l.eraseIdx k = (l.take j).eraseIdx k := by rw [List.take_of_length_le (by omega)]
      have HE := hid e
      have f3 := HFZ.out wr HM.out.keep
      clear e
      go_wp2
      go_end0
      refine ⟨rfl, .slice ob ((l.take j).eraseIdx k).length cb, ?_⟩
      have := HH.out.setWorks HM.out.keep HM.out.row HM.out.own (fun x hx => by
        rw [← HE.out, HLE.out] at hx
        exact List.mem_of_mem_eraseIdx hx)
      have e2 : (l.take j).eraseIdx k = R.works.eraseIdx k := by rw [← HE.out, HLE.out]
      rw [e2] at this ⊢
      exact this

end Go.Proofs.YtfcocbcihhdbkaaGreatDoor

/- The document's store: Begin, Abort. -/
namespace Go.Proofs.YtfcocbcihhdbkaaGreatDoor
open Go.RowKit Go.Shelf

/-- What a call leaves that writes lists of one type. -/
def RCh (e : TypeId) (R R' : RRep) (w w' : World) : Prop := RefAt w' R' ∧ R'.b = R.b ∧ Keeps (fun k => k = R.b ∨ (k ∈ R.fp ∧ TypeIs w k e)) w w' ∧ ∀ k ∈ R'.fp, k ∈ R.fp ∨ w.heap.size ≤ k

theorem RCh.after {e : TypeId} {R R' : RRep} {w w' : World} (h : RCh e R R' w w') : RAfter R R' w w' :=
  ⟨h.1, h.2.1, h.2.2.1.mono (fun k _ hk => by rcases hk with rfl | h; exact (by simp [RRep.fp]); exact h.1), h.2.2.2⟩

theorem RCh.trans {e : TypeId} {R R1 R2 : RRep} {w w1 w2 : World} (h : RCh e R R1 w w1) (h' : RCh e R1 R2 w1 w2) : RCh e R R2 w w2 := by
  obtain ⟨a1, a2, a3, a4⟩ := h
  obtain ⟨b1, b2, b3, b4⟩ := h'
  refine ⟨b1, b2.trans a2, a3.trans b3 (fun k hk hc => ?_), fun k hk => ?_⟩
  · rcases hc with rfl | ⟨h1, h2⟩
    · exact .inl a2
    · have h3 := (a4 k h1).resolve_right (by omega)
      refine Classical.byContradiction fun hn => hn (.inr ⟨h3, ?_⟩)
      obtain ⟨cur, h4⟩ := h2
      exact ⟨cur, (a3.block k hk hn).symm.trans h4⟩
  · rcases b4 k hk with h1 | h1
    · exact a4 k h1
    · exact .inr (Nat.le_trans a3.size h1)

theorem RefAt.ch {w w' : World} {R : RRep} {e : TypeId} (h : RefAt w R) (hk : Keeps (fun _ => False) w w') : RCh e R R w w' := ⟨h.kept hk (fun _ _ h => h), rfl, hk.mono (fun _ _ h => h.elim), fun _ hk => .inl hk⟩

theorem RAfter.trans {R R1 R2 : RRep} {w w1 w2 : World} (h : RAfter R R1 w w1) (h' : RAfter R1 R2 w1 w2) : RAfter R R2 w w2 := by
  obtain ⟨a1, a2, a3, a4⟩ := h
  obtain ⟨b1, b2, b3, b4⟩ := h'
  refine ⟨b1, b2.trans a2, a3.trans b3 (fun k hk hc => (a4 k hc).resolve_right (by omega)), fun k hk => ?_⟩
  rcases b4 k hk with h1 | h1
  · exact a4 k h1
  · exact .inr (Nat.le_trans a3.size h1)

theorem RAfter.from {R R' : RRep} {w w1 w2 : World} (h : RAfter R R' w1 w2) (hk : Keeps (fun _ => False) w w1) : RAfter R R' w w2 :=
  ⟨h.1, h.2.1, (hk.mono (T := (· ∈ R.fp)) (fun _ _ h => h.elim)).trans h.2.2.1 (fun _ _ h => h), fun k hk' => (h.2.2.2 k hk').imp id (fun h1 => Nat.le_trans hk.size h1)⟩

theorem RCh.from {e : TypeId} {R R' : RRep} {w w1 w2 : World} (h : RCh e R R' w1 w2) (hR : RefAt w R) (hk : Keeps (fun _ => False) w w1) : RCh e R R' w w2 := (hR.ch hk).trans h

/-- works that are kept, or new -/
theorem RefAt.putWorks {w W : World} {R : RRep} {v : Value} {l : List RWk} {n : Int} (h : RefAt w R) (hk : Keeps (fun k => k = R.b ∨ R.vw.ownBlock = some k) w W)
    (ht : W.heap[R.b]? = some (.cells (RRep.top { R with vw := v, works := l, begun := n }) 79 (0, 0)))
    (hr : Row W 219 3 v l.length (l.flatMap RWk.cells)) (hown : ∀ g, v.ownBlock = some g → R.vw.ownBlock = some g ∨ w.heap.size ≤ g)
    (hl : ∀ x ∈ l, x ∈ R.works ∨ (RecsAt W x.sl x.writes ∧ ∀ g, x.sl.ownBlock = some g → w.heap.size ≤ g)) :
    RCh 219 R { R with vw := v, works := l, begun := n } w W := by
  have hkc : Keeps (fun k => k = R.b ∨ (k ∈ R.fp ∧ TypeIs w k 219)) w W := hk.mono (fun k _ hc => by
    rcases hc with rfl | hc
    · exact .inl rfl
    · exact .inr ⟨R.mem_vw hc, h.works.typeIs hc⟩)
  obtain ⟨r1, r2, r3, r4, r5, r6⟩ := h.rows 219 (hkc.mono (fun k _ hc => hc.imp id And.right))
  refine ⟨⟨ht, r1 (by decide), hr, fun x hx => ?_, r4 (by decide), r5 (by decide), r6 (by decide)⟩, rfl, hkc, fun k hk' => ?_⟩
  · rcases hl x hx with h1 | h1
    · exact r3 (by decide) x h1
    · exact h1.1
  · simp only [RRep.fp, List.mem_cons, List.mem_append, List.mem_flatMap, Option.mem_toList] at hk' ⊢
    rcases hk' with h1 | ((((h1 | h1) | h1) | h1) | ⟨x, hx, h1⟩) | h1
    · exact .inl (.inl h1)
    · exact .inl (.inr (.inl (.inl (.inl (.inl (.inl h1))))))
    · rcases hown k h1 with h2 | h2
      · exact .inl (.inr (.inl (.inl (.inl (.inl (.inr h2))))))
      · exact .inr h2
    · exact .inl (.inr (.inl (.inl (.inl (.inr h1)))))
    · exact .inl (.inr (.inl (.inl (.inr h1))))
    · rcases hl x hx with h2 | h2
      · exact .inl (.inr (.inl (.inr ⟨x, h2, h1⟩)))
      · exact .inr (h2.2 k h1)
    · exact .inl (.inr (.inr h1))

def RRep.opened (R : RRep) (v : Value) : RRep := { R with vw := v, works := R.works ++ [⟨R.begun + 1, R.now, .slice none 0 0, []⟩], begun := R.begun + 1 }

theorem beginR_full (R : RRep) (w : World) (h : RefAt w R) (hl : 8 ≤ R.works.length) :
    Calls Tryz.prog 76 #[.pointer (some ⟨R.b, 0, none⟩)] w fun e w' => e = .returned (.tuple #[.int .i64 0, .int .i64 3]) ∧ w' = w := by
  obtain ⟨oa, ca, hva, hm, -⟩ := h.works.form
  have c3 : w.cell? ⟨R.b, 3, none⟩ = some (.slice oa R.works.length ca) := (h.cell 3).trans (by rw [← hva]; rfl)
  have hge : (8 : Int) ≤ R.works.length := by omega
  clear h hva
  go_enter Tryz.func76, Tryz.ntmps76
  go_wp2
  go_ret2
  exact ⟨rfl, rfl⟩

set_option maxRecDepth 100000 in
set_option maxHeartbeats 1000000 in
theorem beginR_any (R : RRep) (w : World) (h : RefAt w R) (hl : R.works.length < 8) (hb : 0 ≤ R.begun ∧ R.begun < 1000000000000) :
    Calls Tryz.prog 76 #[.pointer (some ⟨R.b, 0, none⟩)] w fun e w' => e = .returned (.tuple #[.int .i64 (R.begun + 1), .int .i64 0]) ∧ ∃ v, RCh 219 R (R.opened v) w w' := by
  obtain ⟨oa, ca, hva, hm, -⟩ := h.works.form
  have c3 : w.cell? ⟨R.b, 3, none⟩ = some (.slice oa R.works.length ca) := (h.cell 3).trans (by rw [← hva]; rfl)
  have c4 : w.cell? ⟨R.b, 4, none⟩ = some (.int .i64 R.begun) := h.cell 4
  have c1 : w.cell? ⟨R.b, 1, none⟩ = some (.int .i64 R.now) := h.cell 1
  have f4 := h.frozen 4
  have f3 := h.frozen 3
  have hlt : (R.works.length : Int) < 8 := by omega
  obtain ⟨i0, hi, hz0, hz1, hz2⟩ := info_parts Tryz.infoWork
  have HH := hid h
  have HV := hid hva
  have HL := hid hl
  have hblt := h.blt
  have HT1 : Hid ((w.setCell ⟨R.b, 4, none⟩ (.int .i64 (R.begun + 1))).heap[R.b]? = some (.cells (R.top.setIfInBounds 4 (.int .i64 (R.begun + 1))) 79 (0, 0))) := heap_setCell_same h.top _
  have HRow : Hid (Row (w.setCell ⟨R.b, 4, none⟩ (.int .i64 (R.begun + 1))) 219 3 (.slice oa R.works.length ca) R.works.length (R.works.flatMap RWk.cells)) := by
    rw [← hva]
    exact h.works.kept (Keeps.setCell _ _ _) (fun g hg e => (h.works.typeIs hg).ne (by decide) (show TypeIs w g 79 from ⟨_, (show g = R.b from e) ▸ h.top⟩))
  clear h hva hl
  go_enter Tryz.func76, Tryz.ntmps76
  go_wp2_with fail
  have HK1 : Hid (Keeps (fun k => k = R.b) w (w.setCell ⟨R.b, 4, none⟩ (.int .i64 (R.begun + 1)))) := hid (Keeps.setCell w ⟨R.b, 4, none⟩ _)
  generalize w.setCell ⟨R.b, 4, none⟩ (.int .i64 (R.begun + 1)) = w1 at *
  have d3 : w1.cell? ⟨R.b, 3, none⟩ = some (.slice oa R.works.length ca) := (cell_of_heap HT1.out 3).trans (by rw [← HV.out]; rfl)
  have d4 : w1.cell? ⟨R.b, 4, none⟩ = some (.int .i64 (R.begun + 1)) := cell_of_heap HT1.out 4
  have d1 : w1.cell? ⟨R.b, 1, none⟩ = some (.int .i64 R.now) := cell_of_heap HT1.out 1
  have e3 : w1.frozen? ⟨R.b, 3, none⟩ = false := frozen_of_heap HT1.out 3
  have hgrownB : ∀ W w2 : World, Keeps (fun _ => False) w1 W → W.grownBy w2 (Value.slice oa R.works.length ca).ownBlock → w2.heap[R.b]? = some (.cells (R.top.setIfInBounds 4 (.int .i64 (R.begun + 1))) 79 (0, 0)) := fun W w2 hk hg => by
    have hlt1 : R.b < w1.heap.size := (Array.getElem?_eq_some_iff.1 HT1.out).1
    rw [(Keeps.grown hg).block R.b (Nat.lt_of_lt_of_le hlt1 hk.size) (fun e => (HRow.out.typeIs e.symm).ne (e' := 79) (by decide) ⟨_, HT1.out⟩), hk.block _ hlt1 (fun h => h)]
    exact HT1.out
  have HGB := hid hgrownB
  clear hgrownB c3 c4 c1 f4 f3
  have hb1 : R.b < w1.heap.size := (Array.getElem?_eq_some_iff.1 HT1.out).1
  have p3 := (Keeps.alloc (fun _ => False) w1 (.cells #[.int .i64 (R.begun + 1), .int .i64 R.now, .slice none 0 0] 219)).cell (p := ⟨R.b, 3, none⟩) d3 (fun h => h)
  go_region_law ((refine step_append_row _ (by rfl) _ _ 76 (by rfl) 219 i0 _ 3 40 Tryz.underlying76 hi hz0 hz1 hz2 (by rfl) (.slice oa R.works.length ca) R.works.length _ (by rfl) (HRow.out.kept ((Keeps.refl (fun _ => False) w1).al _).dr (fun _ _ h => h)) ⟨w1.heap.size, 0, none⟩ 1 1 [.int .i64 (R.begun + 1), .int .i64 R.now, .slice none 0 0] (by rfl) (by rfl) (news_arr w1 #[.int .i64 (R.begun + 1), .int .i64 R.now, .slice none 0 0] _) (by simp [Value.oneCell']) (by have := HL.out; unfold maxLen; omega) (by have := HL.out; omega) ?_; intro v' w2 hown' hgrow _ hat; obtain ⟨g', cap', rfl⟩ := hown'.succ; have HB2 := hid (HGB.out _ _ ((Keeps.refl (fun _ => False) w1).al _).dr hgrow); have HK2 := hid (((Keeps.refl (fun _ => False) w1).al _).dr.mono (T := fun k => some k = Value.ownBlock (.slice oa R.works.length ca)) (fun _ _ h => h.elim) |>.tr (Keeps.grown hgrow) (fun _ h => h)); have HO := hid hown'; have HA := hid hat; have q3 : w2.cell? ⟨R.b, 3, none⟩ = some (.slice oa R.works.length ca) := (cell_of_heap HB2.out 3).trans (by rw [← HV.out]; rfl); have q4 : w2.cell? ⟨R.b, 4, none⟩ = some (.int .i64 (R.begun + 1)) := cell_of_heap HB2.out 4; have q1 : w2.cell? ⟨R.b, 1, none⟩ = some (.int .i64 R.now) := cell_of_heap HB2.out 1; have r3 : w2.frozen? ⟨R.b, 3, none⟩ = false := frozen_of_heap HB2.out 3; clear hown' hgrow hat))
  all_goals
    go_wp2
    go_ret2
    refine ⟨rfl, _, RefAt.putWorks (v := .slice (some ⟨g', 0, none⟩) (R.works.length + 1) cap') HH.out ?_ ?_ ?_ ?_ ?_⟩
    · exact (((HK1.out.mono (T := fun k => k = R.b ∨ R.vw.ownBlock = some k) (fun _ _ h => .inl h)).tr HK2.out (fun k h => .inr (by rw [HV.out]; exact h.symm))).tr (Keeps.setCell _ _ _) (fun k h => .inl h))
    · rw [heap_setCell_same HB2.out]
      rfl
    · have hr : Row (w2.setCell ⟨R.b, 3, none⟩ (.slice (some ⟨g', 0, none⟩) (R.works.length + 1) cap')) 219 3 (.slice (some ⟨g', 0, none⟩) (R.works.length + 1) cap') (R.works.length + 1) _ := HO.out.kept (Keeps.setCell _ _ _) (fun g hg e => (HO.out.typeIs hg).ne (e' := 79) (by decide) ⟨_, (show g = R.b from e) ▸ HB2.out⟩)
      simpa [RWk.cells] using hr
    · intro g hg
      rcases HA.out with e | e
      · left; rw [HV.out, ← e]; exact hg
      · right
        rw [hg] at e
        have e' : g = w1.heap.size + 1 := by simpa using e
        have := HK1.out.size
        omega
    · intro x hx
      rcases List.mem_append.1 hx with h | h
      · exact .inl h
      · have : x = ⟨R.begun + 1, R.now, .slice none 0 0, []⟩ := by simpa using h
        subst this
        exact .inr ⟨Row.nil _ _ _, fun g hg => by simp [Value.ownBlock] at hg⟩

end Go.Proofs.YtfcocbcihhdbkaaGreatDoor
