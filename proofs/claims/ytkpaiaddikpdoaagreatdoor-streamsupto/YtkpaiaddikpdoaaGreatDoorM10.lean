import Derived.Test.YtkpaiaddikpdoaaGreatDoorM09

/- annalsref: IsStream of what is none by its states or its number of records; Encode. -/

namespace Go.Proofs.YtkpaiaddikpdoaaGreatDoor

open Go.RowKit Go.Shelf

attribute [local go_sem] Oper.semAt_some

set_option maxRecDepth 100000 in
set_option maxHeartbeats 2000000 in
theorem refIs_bad (full : Bool) (a b : Int) (oa : Option Addr) (cap : Nat) (n : Nat) (w : World) (h : (fitB full a b && decide (n ≤ 1000)) = false) :
    Calls Tryz.prog 18 #[.agg #[.bool full, .int .i64 a, .int .i64 b, .slice oa n cap]] w fun e w' => e = .returned (.bool false) ∧ Keeps (fun _ => False) w w' := by
  by_cases h1 : a < 0
  · clear h
    go_enter Tryz.func18, Tryz.ntmps18
    go_wp2
    go_ret
    exact ⟨rfl, (Keeps.refl _ _).al _⟩
  by_cases h2 : b < 0
  · clear h
    go_enter Tryz.func18, Tryz.ntmps18
    go_wp2
    go_ret
    exact ⟨rfl, (Keeps.refl _ _).al _⟩
  by_cases h3 : a > 1000000000
  · clear h
    go_enter Tryz.func18, Tryz.ntmps18
    go_wp2
    go_ret
    exact ⟨rfl, (Keeps.refl _ _).al _⟩
  by_cases h4 : b > 1000000000
  · clear h
    go_enter Tryz.func18, Tryz.ntmps18
    go_wp2
    go_ret
    exact ⟨rfl, (Keeps.refl _ _).al _⟩
  by_cases h5 : (n : Int) > 1000
  · clear h
    go_enter Tryz.func18, Tryz.ntmps18
    go_wp2
    go_ret
    exact ⟨rfl, (Keeps.refl _ _).al _⟩
  have hn : n ≤ 1000 := by omega
  rw [decide_eq_true hn, Bool.and_true] at h
  have h6 : (full = true → a ≠ 0) ∧ (full = false → a ≥ b) := by
    unfold fitB stateB at h
    rw [decide_eq_true (show 0 ≤ a by omega), decide_eq_true (show a ≤ 1000000000 by omega), decide_eq_true (show 0 ≤ b by omega), decide_eq_true (show b ≤ 1000000000 by omega)] at h
    refine ⟨fun e h0 => ?_, fun e => ?_⟩
    · rw [e, h0] at h
      simp at h
    · rw [e] at h
      simp at h
      omega
  clear h hn
  cases full with
  | true =>
    have h7 := h6.1 rfl
    clear h6
    go_enter Tryz.func18, Tryz.ntmps18
    go_wp2
    go_ret
    exact ⟨rfl, (Keeps.refl _ _).al _⟩
  | false =>
    have h7 := h6.2 rfl
    clear h6
    go_enter Tryz.func18, Tryz.ntmps18
    go_wp2
    go_ret
    exact ⟨rfl, (Keeps.refl _ _).al _⟩

theorem refIs_any (full : Bool) (a b : Int) (oa : Option Addr) (cap : Nat) (l : List RecB) (w : World) (hr : RecIn w oa l) (hs : ∀ r ∈ l, r.key.size ≤ maxLen ∧ r.value.size ≤ maxLen) :
    Calls Tryz.prog 18 #[.agg #[.bool full, .int .i64 a, .int .i64 b, .slice oa l.length cap]] w fun e w' => e = .returned (.bool (judgeB full a b l)) ∧ Keeps (fun _ => False) w w' := by
  cases h : (fitB full a b && decide (l.length ≤ 1000)) with
  | false =>
    have e : judgeB full a b l = false := by unfold judgeB; rw [h]; rfl
    rw [e]
    exact refIs_bad full a b oa cap l.length w h
  | true =>
    rw [Bool.and_eq_true, decide_eq_true_eq] at h
    exact refIs_loop full a b oa cap l w hr h.2 hs h.1

end Go.Proofs.YtkpaiaddikpdoaaGreatDoor

/- annalsref: Encode. -/

namespace Go.Proofs.YtkpaiaddikpdoaaGreatDoor

open Go.RowKit Go.Shelf

attribute [local go_sem] Oper.semAt_some

theorem pieces_small {full : Bool} {a b : Nat} {l : List RecB} (ha : a ≤ 1000000000) (hb : b ≤ 1000000000) (hl : l.length ≤ 1000) (hs : Small l) : ∀ t ∈ piecesT full a b l, t.size ≤ 10000 := by
  intro t ht
  unfold piecesT at ht
  rcases List.mem_append.1 ht with ht | ht
  · exact piece_small ha hb hs t ht
  · rw [List.mem_singleton.1 ht, ofL_size]
    unfold tailL
    have n1 := numL_len 8 0 (by omega)
    have n2 := numL_len 8 l.length (by omega)
    simp only [List.length_append]
    have : ∀ c, (sumL c).length = 4 := fun _ => rfl
    rw [this]
    omega

theorem pieces_len (full : Bool) (a b : Nat) {l : List RecB} (hl : l.length ≤ 1000) : (piecesT full a b l).length ≤ 300 ∧ 1 ≤ (piecesT full a b l).length := by
  unfold piecesT
  rw [List.length_append, List.length_cons, blocksT_len]
  simp
  omega

set_option maxRecDepth 100000 in
set_option maxHeartbeats 2000000 in
theorem refEncode_bad (full : Bool) (a b : Int) (oa : Option Addr) (cap : Nat) (l : List RecB) (w : World) (hr : RecIn w oa l) (hs : ∀ r ∈ l, r.key.size ≤ maxLen ∧ r.value.size ≤ maxLen) (hj : judgeB full a b l = false) :
    Calls Tryz.prog 9 #[.agg #[.bool full, .int .i64 a, .int .i64 b, .slice oa l.length cap]] w fun e w' => e = .returned (.tuple #[.string ⟨#[]⟩, .int .i64 6]) ∧ Keeps (fun _ => False) w w' := by
  have ka := Keeps.alloc (fun _ => False) w (.cells #[.bool full, .int .i64 a, .int .i64 b, .slice oa l.length cap] 34)
  have HI := hid (refIs_any full a b oa cap l _ (hr.kept ka) hs)
  rw [hj] at HI
  clear hr hs hj ka
  go_enter Tryz.func9, Tryz.ntmps9
  go_wp2_with fail
  refine HI.out.mono ?_
  rintro e w1 ⟨rfl, k1⟩
  clear HI
  go_wp2
  go_ret2
  exact ⟨rfl, ((Keeps.refl _ w).al _).tr k1 (fun _ h => h)⟩

set_option maxRecDepth 100000 in
set_option maxHeartbeats 4000000 in
theorem refEncode_good (full : Bool) (a b : Nat) (oa : Option Addr) (cap : Nat) (l : List RecB) (w : World) (hr : RecIn w oa l) (hj : judgeB full a b l = true) :
    Calls Tryz.prog 9 #[.agg #[.bool full, .int .i64 (a : Nat), .int .i64 (b : Nat), .slice oa l.length cap]] w fun e w' => e = .returned (.tuple #[.string (ofL (streamL ⟨full, a, b, l.map RecB.rec_⟩)), .int .i64 0]) ∧ Keeps (fun _ => False) w w' := by
  obtain ⟨ha, hb, hl, hsm⟩ := judge_facts hj
  have ka := Keeps.alloc (fun _ => False) w (.cells #[.bool full, .int .i64 (a : Nat), .int .i64 (b : Nat), .slice oa l.length cap] 34)
  have HI := hid (refIs_any full a b oa cap l _ (hr.kept ka) (fun r hr => by have := hsm r hr; unfold maxLen; omega))
  rw [hj] at HI
  have HX := hid (heap_new w (.cells #[.bool full, .int .i64 (a : Nat), .int .i64 (b : Nat), .slice oa l.length cap] 34))
  have HP := hid (fun W (hW : Keeps (fun _ => False) w W) => refPieces_any full a b oa cap l W (hr.kept hW) hl hsm (by omega) (by omega))
  have HSE := hid (pieces_small (full := full) (a := a) (b := b) (by omega) (by omega) hl hsm)
  have hpl := pieces_len full a b hl
  have HRES := hid (pieces_all full a b l)
  obtain ⟨R, hR⟩ : ∃ R, R = ofL (streamL ⟨full, a, b, l.map RecB.rec_⟩) := ⟨_, rfl⟩
  rw [← hR] at HRES ⊢
  clear hR hr hj ha hb hl hsm ka
  generalize piecesT full a b l = L at *
  have HSZ : Hid (∀ k, k ≤ L.length → (catT (L.take k)).size ≤ 3000000) := fun k hk => by
    have h1 := catT_size_le (l := L) 10000 HSE.out k
    have : k * 10000 ≤ 300 * 10000 := Nat.mul_le_mul_right _ (by omega)
    omega
  have hLI : (L.length : Int) ≤ 300 := by omega
  have HL1 : Hid (1 ≤ L.length) := hpl.2
  clear hpl
  go_enter Tryz.func9, Tryz.ntmps9
  go_wp2_with fail
  refine HI.out.mono ?_
  rintro e w1 ⟨rfl, k1⟩
  have hx1 := (k1.block _ (Array.getElem?_eq_some_iff.1 HX.out).1 (fun h => h)).trans HX.out
  have x0 := cell_of_heap hx1 0
  have x1 := cell_of_heap hx1 1
  have x2 := cell_of_heap hx1 2
  have x3 := cell_of_heap hx1 3
  simp at x0 x1 x2 x3
  have HK1 := hid (((Keeps.refl (fun _ => False) w).al _).tr k1 (fun _ h => h))
  clear HI k1 hx1
  go_wp2_with fail
  refine (HP.out _ HK1.out).mono ?_
  rintro e w2 ⟨v2, rfl, hM⟩
  obtain ⟨o2, c2, rfl, -, sa⟩ := hM.row.form
  obtain ⟨g2, rfl⟩ := sa (by have := HL1.out; omega)
  have HM := hid hM
  clear hM x0 x1 x2 x3 HP
  go_wp2_with fail
  go_loopw [6, 7] (fun sv i wr => ∃ k : Nat, k ≤ L.length ∧ sv = .string (catT (L.take k)) ∧ i = .int .i64 k ∧ Keeps (fun _ => False) w2 wr) (fun _ i _ => L.length - (intOf i).toNat)
  case atStart => exact ⟨0, Nat.zero_le _, rfl, rfl, Keeps.refl _ _⟩
  case round =>
    obtain ⟨k, hk, rfl, rfl, kr⟩ := hrel
    have HKR := hid kr
    have hkI : (k : Int) ≤ L.length := by omega
    clear kr
    by_cases hkl : k < L.length
    · obtain ⟨t, ht⟩ : ∃ t, L[k]? = some t := ⟨L[k], List.getElem?_eq_getElem hkl⟩
      have c0 := txt_at HM.out.row HKR.out ht
      have s1 := HSZ.out k hk
      have s2 := HSE.out t (List.mem_of_getElem? ht)
      have HNX := hid (catT_take ht)
      have hklI : (k : Int) < L.length := by omega
      generalize catT (L.take k) = ct at *
      have hadd : ∀ W, (Op.stringOp .add ct t).run Tryz.prog W = .ok (.string (ct ++ t)) W := fun W => run_string_add_sum W _ _ (by omega)
      have HKL := hid hkl
      clear ht s1 s2 hkl hk
      go_wp2
      exact ⟨⟨k + 1, HKL.out, by rw [HNX.out], by go_num, HKR.out⟩, by simp only [intOf]; have := HKL.out; omega⟩
    · have hkn : ¬ ((k : Int) < L.length) := by omega
      have e : L.take k = L := List.take_of_length_le (by omega)
      rw [e, HRES.out]
      clear e hkl hk
      go_wp2
      go_ret2
      exact ⟨rfl, (HK1.out.tr HM.out.keep (fun _ h => h)).tr HKR.out (fun _ h => h)⟩

end Go.Proofs.YtkpaiaddikpdoaaGreatDoor

/- Texts of streams, read with the place of what is wrong first: pure. -/

namespace Go.Proofs.YtkpaiaddikpdoaaGreatDoor

/-- what reading comes to: how much was left where what is wrong begins; or what was read, and the rest -/
abbrev Rd (α : Type) : Type := Nat ⊕ (α × List UInt8)

abbrev Rd.bad {α : Type} (left : Nat) : Rd α := .inl left

abbrev Rd.ok {α : Type} (a : α) (rest : List UInt8) : Rd α := .inr (a, rest)

def Rd.bind {α β : Type} (x : Rd α) (f : α → List UInt8 → Rd β) : Rd β :=
  match x with
  | .inl k => .bad k
  | .inr (a, r) => f a r

theorem Rd.bind_ok {α β : Type} (a : α) (r : List UInt8) (f : α → List UInt8 → Rd β) : (Rd.ok a r).bind f = f a r := rfl

theorem Rd.bind_bad {α β : Type} (k : Nat) (f : α → List UInt8 → Rd β) : (Rd.bad k : Rd α).bind f = .bad k := rfl

def takeR (n : Nat) (l : List UInt8) : Rd (List UInt8) := if n ≤ l.length then .ok (l.take n) (l.drop n) else .bad l.length

def nrR (l : List UInt8) : Rd Nat :=
  match numAt l with
  | none => .bad l.length
  | some x => .ok x.1 (l.drop x.2)

def bndR (least most : Nat) (l : List UInt8) : Rd Nat := (nrR l).bind fun n r => if least ≤ n ∧ n ≤ most then .ok n r else .bad l.length

def valR (key : List UInt8) (size : Nat) (l : List UInt8) : Rd Rec :=
  if size = 0 then .ok ⟨key, [], true⟩ l else (takeR (size - 1) l).bind fun v r => .ok ⟨key, v, false⟩ r

def recR (ahead : List UInt8) (l : List UInt8) : Rd Rec :=
  (bndR 0 ahead.length l).bind fun c l1 => (bndR (1 - c) (10 - c) l1).bind fun m l2 => (takeR m l2).bind fun rest l3 =>
    (bndR 0 41 l3).bind fun s l4 => valR (ahead.take c ++ rest) s l4

def recsR : Nat → List UInt8 → List UInt8 → Rd (List Rec)
  | 0, _, l => .ok [] l
  | n + 1, ahead, l => (recR ahead l).bind fun r l1 => (recsR n r.key l1).bind fun x l2 => .ok (r :: x) l2

/-- behind a block's records: its check -/
def endR (l : List UInt8) (x : List Rec) (l2 : List UInt8) : Rd (List Rec) :=
  (takeR 4 l2).bind fun s l3 => if s = checkL (l.take (l.length - l2.length)) then .ok x l3 else .bad l2.length

/-- a block; no records: there are no more -/
def blockR (l : List UInt8) : Rd (List Rec) :=
  (bndR 0 4 l).bind fun n l1 => if n = 0 then .ok [] l1 else (recsR n [] l1).bind fun x l2 => endR l x l2

def blocksR : Nat → List Rec → List UInt8 → Rd (List Rec)
  | 0, acc, l => .ok acc l
  | f + 1, acc, l => (blockR l).bind fun b l1 => if b = [] then .ok acc l1 else blocksR f (acc ++ b) l1

def kindR (l : List UInt8) : Rd Bool :=
  (takeR 4 l).bind fun x r => if x = kindL true then .ok true r else if x = kindL false then .ok false r else .bad l.length

def tailR (n : Nat) (l : List UInt8) : Rd Unit :=
  (nrR l).bind fun m r => if m = n then (if r = [] then .ok () r else .bad r.length) else .bad l.length

def coreR (l : List UInt8) : Rd Str :=
  (kindR l).bind fun k l1 => (nrR l1).bind fun a l2 => (nrR l2).bind fun b l3 => (blocksR (l.length + 1) [] l3).bind fun x l4 =>
    (tailR x.length l4).bind fun _ l5 => .ok ⟨k, a, b, x⟩ l5

theorem takeR_append (a r : List UInt8) : takeR a.length (a ++ r) = .ok a r := by simp [takeR]

theorem nrR_num {m : Nat} (h : m < 34359738368) (r : List UInt8) : nrR (numL m ++ r) = .ok m r := by simp [nrR, numAt_num h]

theorem bndR_num {m least most : Nat} (h : m < 34359738368) (h1 : least ≤ m) (h2 : m ≤ most) (r : List UInt8) : bndR least most (numL m ++ r) = .ok m r := by simp [bndR, nrR_num h, h1, h2, Rd.bind]

theorem recR_rec {ahead : List UInt8} {r : Rec} (ha : ahead.length ≤ 10) (h : r.ok) (t : List UInt8) : recR ahead (recL ahead r ++ t) = .ok r t := by
  obtain ⟨h1, h2, h3, h4⟩ := h
  obtain ⟨c1, c2⟩ := common_le ahead r.key
  have c3 := common_take ahead r.key
  have e : (r.key.drop (common ahead r.key)).length = r.key.length - common ahead r.key := by simp
  have hk : ahead.take (common ahead r.key) ++ r.key.drop (common ahead r.key) = r.key := by rw [c3, List.take_append_drop]
  simp only [recR, recL, List.append_assoc]
  generalize common ahead r.key = c at *
  rw [bndR_num (by omega) (by omega) c1, Rd.bind_ok]
  rw [bndR_num (by omega) (by omega) (by omega), Rd.bind_ok]
  rw [← e, takeR_append, Rd.bind_ok]
  obtain ⟨key, value, gone⟩ := r
  cases gone with
  | true =>
    have hv : value = [] := h4 rfl
    subst hv
    simp only [tailOf, if_true]
    rw [bndR_num (by omega) (by omega) (by omega), Rd.bind_ok]
    simp only [valR, if_true]
    rw [hk]
  | false =>
    simp only [tailOf, Bool.false_eq_true, if_false, List.append_assoc]
    simp only at h3
    rw [bndR_num (by omega) (by omega) (by omega), Rd.bind_ok]
    simp only [valR]
    rw [if_neg (by omega), Nat.add_sub_cancel_left, takeR_append, Rd.bind_ok, hk]

theorem recsR_recs : ∀ (rs : List Rec) (ahead t : List UInt8), ahead.length ≤ 10 → (∀ r ∈ rs, r.ok) → recsR rs.length ahead (recsL ahead rs ++ t) = .ok rs t
  | [], ahead, t, _, _ => by simp [recsR, recsL]
  | r :: rs, ahead, t, ha, h => by
    have hr := h r (by simp)
    simp only [List.length_cons, recsR, recsL, List.append_assoc]
    rw [recR_rec ha hr, Rd.bind_ok, recsR_recs rs r.key t hr.2.1 (fun r hr => h r (by simp [hr])), Rd.bind_ok]

theorem blockR_block {rs : List Rec} (h0 : rs ≠ []) (h4 : rs.length ≤ 4) (h : ∀ r ∈ rs, r.ok) (t : List UInt8) : blockR (blockL rs ++ t) = .ok rs t := by
  have hl := List.length_pos_iff.2 h0
  simp only [blockR, blockL, blockB, List.append_assoc]
  rw [bndR_num (by omega) (by omega) h4, Rd.bind_ok]
  rw [if_neg (by omega), recsR_recs rs [] _ (by simp) h, Rd.bind_ok]
  simp only [endR]
  rw [← checkL_length (numL rs.length ++ recsL [] rs), takeR_append, Rd.bind_ok]
  rw [if_pos]
  congr 1
  have e : ∀ a b c : List UInt8, (a ++ (b ++ c)).length - c.length = (a ++ b).length := by intro a b c; simp; omega
  rw [e, ← List.append_assoc, List.take_left]

theorem blockR_end (t : List UInt8) : blockR (numL 0 ++ t) = .ok [] t := by
  simp only [blockR]
  rw [bndR_num (by omega) (by omega) (by omega), Rd.bind_ok]
  rfl

theorem blocksR_blocks : ∀ (f : Nat) (acc rs : List Rec) (t : List UInt8), rs.length < f → (∀ r ∈ rs, r.ok) → blocksR f acc (blocksL rs ++ (numL 0 ++ t)) = .ok (acc ++ rs) t
  | 0, _, _, _, h, _ => by omega
  | f + 1, acc, rs, t, hf, h => by
    by_cases h0 : rs = []
    · subst h0
      rw [blocksL_nil]
      simp only [List.nil_append, blocksR]
      rw [blockR_end, Rd.bind_ok, if_pos rfl]
      simp
    · have hl := List.length_pos_iff.2 h0
      have hne : rs.take 4 ≠ [] := by intro e; have := congrArg List.length e; rw [List.length_take, List.length_nil] at this; omega
      rw [blocksL_more h0]
      simp only [List.append_assoc, blocksR]
      rw [blockR_block hne (by simp; omega) (fun r hr => h r (List.mem_of_mem_take hr)), Rd.bind_ok, if_neg hne]
      rw [blocksR_blocks f (acc ++ rs.take 4) (rs.drop 4) t (by simp; omega) (fun r hr => h r (List.mem_of_mem_drop hr))]
      simp

theorem coreR_body {x : Str} (h : x.ok) : coreR (bodyL x) = .ok x [] := by
  obtain ⟨h1, h2, h3, h4⟩ := h
  have hb := blocksL_length _ x.recs (Nat.le_refl _)
  have hlen : x.recs.length < (bodyL x).length + 1 := by simp only [bodyL, List.length_append]; omega
  have ek : ∀ t, kindR (kindL x.full ++ t) = .ok x.full t := by
    intro t
    cases x.full <;> simp [kindR, kindL, takeR, Rd.bind]
  unfold coreR
  rw [show kindR (bodyL x) = .ok x.full (numL x.a ++ (numL x.b ++ (blocksL x.recs ++ (numL 0 ++ numL x.recs.length)))) by
    simp only [bodyL, headL, List.append_assoc]
    exact ek _]
  rw [Rd.bind_ok, nrR_num h1, Rd.bind_ok, nrR_num h2, Rd.bind_ok, blocksR_blocks _ _ _ _ hlen h4, Rd.bind_ok]
  have := nrR_num h3 []
  rw [List.append_nil] at this
  simp only [tailR, List.nil_append]
  rw [this]
  simp [Rd.bind]

/-- what is read, and how much is left -/
theorem nrR_ok {l : List UInt8} {n : Nat} {r : List UInt8} (h : nrR l = .ok n r) : n < 34359738368 ∧ ∃ k, 0 < k ∧ k ≤ 5 ∧ k ≤ l.length ∧ r = l.drop k := by
  unfold nrR at h
  cases hn : numAt l with
  | none => rw [hn] at h; cases h
  | some x =>
    rw [hn] at h
    simp only [Sum.inr.injEq, Prod.mk.injEq] at h
    obtain ⟨rfl, rfl⟩ := h
    obtain ⟨h1, h2, h3, h4⟩ := numAt_some hn
    exact ⟨h1, x.2, h2, h3, h4, rfl⟩

theorem nrR_bad {l : List UInt8} {k : Nat} (h : nrR l = .bad k) : k = l.length := by
  unfold nrR at h
  cases hn : numAt l with
  | none => rw [hn] at h; simp only [Sum.inl.injEq] at h; exact h.symm
  | some x => rw [hn] at h; cases h

theorem bndR_ok {least most : Nat} {l : List UInt8} {n : Nat} {r : List UInt8} (h : bndR least most l = .ok n r) : nrR l = .ok n r ∧ least ≤ n ∧ n ≤ most := by
  unfold bndR at h
  rcases hn : nrR l with k | ⟨m, r'⟩
  · rw [hn] at h; cases h
  · rw [hn, Rd.bind_ok] at h
    split at h
    · rename_i hb
      simp only [Sum.inr.injEq, Prod.mk.injEq] at h
      obtain ⟨rfl, rfl⟩ := h
      exact ⟨rfl, hb⟩
    · cases h

theorem bndR_bad {least most : Nat} {l : List UInt8} {k : Nat} (h : bndR least most l = .bad k) : k = l.length := by
  unfold bndR at h
  rcases hn : nrR l with k' | ⟨m, r'⟩
  · rw [hn, Rd.bind_bad] at h; simp only [Sum.inl.injEq] at h; rw [← h]; exact nrR_bad hn
  · rw [hn, Rd.bind_ok] at h
    split at h
    · cases h
    · simp only [Sum.inl.injEq] at h; exact h.symm

end Go.Proofs.YtkpaiaddikpdoaaGreatDoor

/- A reader: take. -/

namespace Go.Proofs.YtkpaiaddikpdoaaGreatDoor

open Go.RowKit Go.Shelf

/-- the reader at a place of its text -/
def RdAt (w : World) (rb : Nat) (text : ByteArray) (at_ count : Nat) (rv : Value) : Prop := w.heap[rb]? = some (.cells #[.string text, .int .i64 (at_ : Nat), .int .i64 (count : Nat), rv] 102 (0, 0))

/-- what is left of a text -/
def restL (text : ByteArray) (at_ : Nat) : List UInt8 := text.data.toList.drop at_

theorem restL_len (text : ByteArray) (at_ : Nat) : (restL text at_).length = text.size - at_ := by
  unfold restL ByteArray.size
  rw [List.length_drop, Array.length_toList]

/-- the errors that are no other check -/
def NoSum (g : Nat) : Prop := (1 ≤ g ∧ g ≤ 6) ∨ (9 ≤ g ∧ g ≤ 15)

def ErrsAt (w : World) : Prop := ∀ g, NoSum g → ErrAt w g

/-- a fault at a place -/
def Flt (w w' : World) (v : Value) (place : Nat) : Prop := ∃ b t u g, v = .iface 98 (.pointer (some ⟨b, 0, none⟩)) ∧ w.heap.size ≤ b ∧ w'.heap[b]? = some (.cells #[.int .i64 (place : Nat), .iface t u] 100 (0, 0)) ∧ NoSum g ∧ w.cell? ⟨g, 0, none⟩ = some (.iface t u)

/-- what a reading function leaves -/
def RdPost {α : Type} (enc : α → Value) (zero : Value) (rb : Nat) (text : ByteArray) (count : Nat) (rv : Value) (x : Rd α) (w : World) (e : Ending) (w' : World) : Prop := match x with
  | .inl left => (∃ v, e = .returned (.tuple #[zero, v]) ∧ Flt w w' v (text.size - left)) ∧ Keeps (· = rb) w w'
  | .inr (a, rest) => e = .returned (.tuple #[enc a, .nilIface]) ∧ RdAt w' rb text (text.size - rest.length) count rv ∧ Keeps (· = rb) w w'

theorem extract_rest (s : ByteArray) (i n : Nat) : s.extract i (i + n) = ofL ((restL s i).take n) := by
  unfold restL ofL
  apply ByteArray.ext
  apply Array.ext'
  simp [ByteArray.data_extract, Array.toList_extract, List.extract_eq_take_drop]

set_option maxRecDepth 100000 in
set_option maxHeartbeats 1000000 in
theorem take_any (rb : Nat) (text : ByteArray) (at_ count n : Nat) (rv : Value) (w : World) (h : RdAt w rb text at_ count rv) (hat : at_ ≤ text.size) (hts : text.size ≤ 1000000000000) (hn : n ≤ 1000000000000) (he : ErrsAt w) :
    Calls Tryz.prog 76 #[.pointer (some ⟨rb, 0, none⟩), .int .i64 (n : Nat)] w (RdPost (fun l => .string (ofL l)) (.string ⟨#[]⟩) rb text count rv (takeR n (restL text at_)) w) := by
  have c0 : w.cell? ⟨rb, 0, none⟩ = some (.string text) := cell_of_heap h 0
  have c1 : w.cell? ⟨rb, 1, none⟩ = some (.int .i64 (at_ : Nat)) := cell_of_heap h 1
  have f1 : w.frozen? ⟨rb, 1, none⟩ = false := frozen_of_heap h 1
  have HB := hid h
  have hlen := restL_len text at_
  by_cases hfit : n ≤ text.size - at_
  · have e : takeR n (restL text at_) = .ok ((restL text at_).take n) ((restL text at_).drop n) := by unfold takeR; rw [if_pos (by omega)]
    have hex := extract_rest text at_ n
    have hp : text.size - ((restL text at_).drop n).length = at_ + n := by rw [List.length_drop, hlen]; omega
    rw [e]
    have HF : Hid (RdAt (w.setCell ⟨rb, 1, none⟩ (.int .i64 ((at_ : Int) + n))) rb text (text.size - ((restL text at_).drop n).length) count rv) := by
      show _ = _
      rw [heap_setCell_same HB.out, hp]
      simp
    have HX := hid hex
    clear e hp hex hlen h he
    go_enter Tryz.func76, Tryz.ntmps76
    go_wp2
    go_region
    go_wp2
    go_region
    go_wp2
    go_ret2
    refine ⟨?_, HF.out, ((Keeps.setCell w ⟨rb, 1, none⟩ (.int .i64 ((at_ : Int) + n))).dr).dr⟩
    show _ = Ending.returned (.tuple #[.string (ofL ((restL text at_).take n)), .nilIface])
    rw [← HX.out]
    rfl
  · have e : takeR n (restL text at_) = .bad (restL text at_).length := by unfold takeR; rw [if_neg (by omega)]
    rw [e, hlen]
    obtain ⟨t, u, g10⟩ := he 10 (.inr (by omega))
    have hp : text.size - (text.size - at_) = at_ := by omega
    have HG := hid g10
    have HP := hid hp
    clear e hlen h he hp
    go_enter Tryz.func76, Tryz.ntmps76
    go_wp2
    go_region
    go_wp2
    go_region
    go_wp2
    go_ret2
    refine ⟨⟨_, rfl, _, t, u, 10, rfl, ?_, ?_, .inr (by omega), HG.out⟩, ?_⟩
    · simp
    · rw [HP.out]
      exact heap_new _ _
    · exact ((((Keeps.refl _ w).dr).dr).al _)

end Go.Proofs.YtkpaiaddikpdoaaGreatDoor

/- A reader: number. -/

namespace Go.Proofs.YtkpaiaddikpdoaaGreatDoor

open Go.RowKit Go.Shelf

theorem and127 {d : Nat} (hd : d < 256) : bits BinOp.and IntKind.u8 (d : Int) 127 = ((d % 128 : Nat) : Int) := by
  have h := bits_mask .u8 8 (by simp [IntKind.bits]) (fun n h0 h1 => wraps_u8 n h0 h1) 7 (by omega) (d : Int) (by omega) (by omega)
  simpa using h

/-- between two digits of a number -/
structure NumAt (rest : List UInt8) (k acc : Nat) : Prop where
  five : k ≤ 5
  len : k ≤ rest.length
  low : acc < 128 ^ k
  same : numAt rest = numFrom (5 - k) k acc (rest.drop k)

theorem NumAt.cut {rest : List UInt8} {k acc : Nat} (h : NumAt rest k acc) (hl : rest.length = k) : nrR rest = .bad rest.length := by
  unfold nrR
  rw [h.same, List.drop_eq_nil_of_le (by omega)]
  cases 5 - k <;> rfl

theorem NumAt.full {rest : List UInt8} {acc : Nat} (h : NumAt rest 5 acc) : nrR rest = .bad rest.length := by
  unfold nrR
  rw [h.same]
  rfl

theorem NumAt.digit {rest : List UInt8} {k acc : Nat} (h : NumAt rest k acc) (hk : k < 5) (hl : k < rest.length) :
    numAt rest = if rest[k].toNat < 128 then (if rest[k].toNat = 0 ∧ 0 < k then none else some (acc + rest[k].toNat * 128 ^ k, k + 1)) else numFrom (5 - (k + 1)) (k + 1) (acc + (rest[k].toNat - 128) * 128 ^ k) (rest.drop (k + 1)) := by
  rw [h.same, List.drop_eq_getElem_cons hl, show 5 - k = 5 - (k + 1) + 1 by omega]
  rfl

theorem NumAt.zero {rest : List UInt8} {k acc : Nat} (h : NumAt rest k acc) (hk : k < 5) (hl : k < rest.length) (hd : rest[k].toNat = 0) (h0 : 0 < k) : nrR rest = .bad rest.length := by
  unfold nrR
  rw [h.digit hk hl, if_pos (by omega), if_pos ⟨hd, h0⟩]

theorem NumAt.last {rest : List UInt8} {k acc : Nat} (h : NumAt rest k acc) (hk : k < 5) (hl : k < rest.length) (hd : rest[k].toNat < 128) (h0 : ¬ (rest[k].toNat = 0 ∧ 0 < k)) : nrR rest = .ok (acc + rest[k].toNat * 128 ^ k) (rest.drop (k + 1)) := by
  unfold nrR
  rw [h.digit hk hl, if_pos hd, if_neg h0]

theorem NumAt.next {rest : List UInt8} {k acc : Nat} (h : NumAt rest k acc) (hk : k < 5) (hl : k < rest.length) (hd : ¬ rest[k].toNat < 128) : NumAt rest (k + 1) (acc + (rest[k].toNat - 128) * 128 ^ k) := by
  refine ⟨by omega, hl, ?_, ?_⟩
  · have h1 := h.low
    have h2 : rest[k].toNat < 256 := UInt8.toNat_lt _
    have h3 : (rest[k].toNat - 128) * 128 ^ k ≤ 127 * 128 ^ k := Nat.mul_le_mul_right _ (by omega)
    rw [Nat.pow_succ]
    omega
  · rw [h.digit hk hl, if_neg hd]

end Go.Proofs.YtkpaiaddikpdoaaGreatDoor

/- A reader: number, walked. -/

namespace Go.Proofs.YtkpaiaddikpdoaaGreatDoor

open Go.RowKit Go.Shelf

theorem or_digit {k acc x : Nat} (h5 : k < 5) (ha : acc < 128 ^ k) (hx : x < 128) : bits BinOp.or IntKind.i64 (acc : Int) ((x * 128 ^ k : Nat) : Int) = ((acc + x * 128 ^ k : Nat) : Int) := by
  have e : 128 ^ k = 2 ^ (7 * k) := by rw [Nat.pow_mul]
  have h4 : 128 ^ k ≤ 128 ^ 4 := Nat.pow_le_pow_right (by omega) (by omega)
  have h6 : x * 128 ^ k ≤ 127 * 128 ^ 4 := Nat.mul_le_mul (by omega) h4
  have h := (bits_nat .i64 63 (by simp [IntKind.bits]) (fun n h0 h1 => by rw [IntKind.wrap_i64]; omega) acc (x * 128 ^ k) (by omega) (by omega)).2
  rw [h, e, Nat.mul_comm x, Nat.or_comm, ← Nat.two_pow_add_eq_or_of_lt (by rw [← e]; exact ha), Nat.add_comm]

theorem or_shift {k acc d : Nat} (h5 : k < 5) (ha : acc < 128 ^ k) : bits BinOp.or IntKind.i64 (acc : Int) (wrap64 ((d : Int) % 128 * 2 ^ (7 * k))) = ((acc + d % 128 * 128 ^ k : Nat) : Int) := by
  have e : 128 ^ k = 2 ^ (7 * k) := by rw [Nat.pow_mul]
  have h4 : 128 ^ k ≤ 128 ^ 4 := Nat.pow_le_pow_right (by omega) (by omega)
  have h6 : d % 128 * 128 ^ k ≤ 127 * 128 ^ 4 := Nat.mul_le_mul (by omega) h4
  have hw : ((d : Int) % 128 * 2 ^ (7 * k)) = ((d % 128 * 128 ^ k : Nat) : Int) := by
    rw [e]
    push_cast
    rfl
  rw [hw, IntWalk.wrap64_in _ (by omega)]
  exact or_digit h5 ha (by omega)

theorem restL_get {text : ByteArray} {at_ k : Nat} (h : k < (restL text at_).length) (h2 : at_ + k < text.size) : (restL text at_)[k] = text[at_ + k] := by
  simp only [restL, List.getElem_drop]
  rfl

/-- a fault, made where the world has only drawn -/
theorem rd_fault {α : Type} {enc : α → Value} {zero : Value} {rb count at_ g : Nat} {text : ByteArray} {rv : Value} {x : Rd α} {w wr wd : World} {t : TypeId} {u : Value} (hx : x = .bad (restL text at_).length) (hat : at_ ≤ text.size) (hg : NoSum g) (he : ErrsAt w) (hk : Keeps (fun _ => False) w wr) (hgr : wr.cell? ⟨g, 0, none⟩ = some (.iface t u)) (hd : Keeps (fun _ => False) wr wd) :
    RdPost enc zero rb text count rv x w (.returned (.tuple #[zero, .iface 98 (.pointer (some ⟨wd.heap.size, 0, none⟩))])) (wd.alloc (.cells #[.int .i64 (at_ : Int), .iface t u] 100)) := by
  subst hx
  have hp : text.size - (restL text at_).length = at_ := by rw [restL_len]; omega
  have h1 := hk.size
  have h2 := hd.size
  have hc : w.cell? ⟨g, 0, none⟩ = some (.iface t u) := by
    obtain ⟨t', u', h'⟩ := he g hg
    have := hk.cell h' (fun h => h)
    rw [this] at hgr
    rw [h']
    exact hgr
  refine ⟨⟨_, rfl, _, t, u, g, rfl, by omega, ?_, hg, hc⟩, ?_⟩
  · rw [hp]
    exact heap_new _ _
  · exact ((hk.tr hd (fun _ h => h)).al _).mono (fun _ _ h => h.elim)

theorem rd_done {α : Type} {enc : α → Value} {zero : Value} {rb count at_ n : Nat} {text : ByteArray} {rv v : Value} {x : Rd α} {a : α} {w wr wd : World} (hx : x = .ok a ((restL text at_).drop n)) (hat : at_ + n ≤ text.size) (hv : v = enc a) (hb : wr.heap[rb]? = some (.cells #[.string text, .int .i64 (at_ : Nat), .int .i64 (count : Nat), rv] 102 (0, 0))) (hk : Keeps (fun _ => False) w wr) (u : Value) (hu : u = .int .i64 ((at_ + n : Nat) : Int)) (hd : Keeps (fun _ => False) (wr.setCell ⟨rb, 1, none⟩ u) wd) :
    RdPost enc zero rb text count rv x w (.returned (.tuple #[v, .nilIface])) wd := by
  subst hx
  subst hv
  subst hu
  have hp : text.size - ((restL text at_).drop n).length = at_ + n := by rw [List.length_drop, restL_len]; omega
  have hs : (wr.setCell ⟨rb, 1, none⟩ (.int .i64 ((at_ + n : Nat) : Int))).heap[rb]? = some (.cells #[.string text, .int .i64 ((at_ + n : Nat) : Int), .int .i64 (count : Nat), rv] 102 (0, 0)) := by rw [heap_setCell_same hb]; simp
  refine ⟨rfl, ?_, ?_⟩
  · rw [hp]
    exact (hd.block rb (Array.getElem?_eq_some_iff.1 hs).1 (fun h => h)).trans hs
  · exact (hk.mono (fun _ _ h => h.elim)).trans ((Keeps.setCell wr ⟨rb, 1, none⟩ _).trans hd (fun _ _ h => h.elim)) (fun k _ e => e)

set_option maxRecDepth 100000 in
set_option maxHeartbeats 2000000 in
theorem rnumber_any (rb : Nat) (text : ByteArray) (at_ count : Nat) (rv : Value) (w : World) (h : RdAt w rb text at_ count rv) (hat : at_ ≤ text.size) (hts : text.size ≤ 1000000000000) (he : ErrsAt w) :
    Calls Tryz.prog 63 #[.pointer (some ⟨rb, 0, none⟩)] w (RdPost (fun n : Nat => .int .i64 (n : Int)) (.int .i64 0) rb text count rv (nrR (restL text at_)) w) := by
  have HB := hid h
  have HE := hid he
  have hlen := restL_len text at_
  have HI0 : Hid (NumAt (restL text at_) 0 0) := ⟨by omega, by omega, by simp, rfl⟩
  have HLN := hid hlen
  have htsI : (text.size : Int) ≤ 1000000000000 := by omega
  have HTS := hid hts
  clear h he hlen hts
  go_enter Tryz.func63, Tryz.ntmps63
  go_wp2_with fail
  go_loopw [4, 7] (fun z i wr => ∃ k acc : Nat, i = .int .i64 (k : Int) ∧ z = .int .i64 (acc : Int) ∧ NumAt (restL text at_) k acc ∧ Keeps (fun _ => False) w wr) (fun _ i _ => 5 - (intOf i).toNat)
  case atStart => exact ⟨0, 0, rfl, rfl, HI0.out, Keeps.refl _ _⟩
  case round =>
    obtain ⟨k, acc, rfl, rfl, hN, hk⟩ := hrel
    have hb : wr.heap[rb]? = _ := (hk.block rb (Array.getElem?_eq_some_iff.1 HB.out).1 (fun h => h)).trans HB.out
    have c0 : wr.cell? ⟨rb, 0, none⟩ = some (.string text) := cell_of_heap hb 0
    have c1 : wr.cell? ⟨rb, 1, none⟩ = some (.int .i64 (at_ : Nat)) := cell_of_heap hb 1
    have f1 : wr.frozen? ⟨rb, 1, none⟩ = false := frozen_of_heap hb 1
    have HBR := hid hb
    have h5 := hN.five
    have HK := hid hk
    have HN := hid hN
    obtain ⟨t11, u11, g11⟩ := (HE.out 11 (.inr (by omega))).kept hk
    obtain ⟨t10, u10, g10⟩ := (HE.out 10 (.inr (by omega))).kept hk
    clear hb hk hN
    by_cases hk5 : k < 5
    · by_cases hend : at_ + k = text.size
      · have HNR : Hid (nrR (restL text at_) = .bad (restL text at_).length) := HN.out.cut (by have := HLN.out; omega)
        have heq : ((at_ : Int) + (k : Int) == (text.size : Int)) = true := by
          rw [beq_iff_eq]
          omega
        clear HN
        go_wp2
        go_region
        go_wp2
        go_region
        go_wp2
        go_ret2
        exact rd_fault HNR.out hat (.inr (by omega)) HE.out HK.out g10 (((Keeps.refl _ _).dr).dr)
      · have hlt : at_ + k < text.size := by
          have h1 := HN.out.len
          have h2 := HLN.out
          omega
        have hne : ((at_ : Int) + (k : Int) == (text.size : Int)) = false := by
          rw [beq_eq_false_iff_ne]
          omega
        have hix : ∀ W, (Instr.index 9 (.string text) (.int .i64 ((at_ : Int) + (k : Int)))).run Tryz.prog W = .ok (.int .u8 (text[at_ + k].toNat : Nat)) W := fun W => by
          rw [run_index_string W 9 text .i64 _ Tryz.underlying9, dif_pos ⟨by omega, by omega⟩]
          have hn : ((at_ : Int) + (k : Int)).toNat = at_ + k := by omega
          simp only [hn]
        have hrl : k < (restL text at_).length := by have := HLN.out; omega
        have hget := restL_get hrl hlt
        have hZ := fun h1 h2 => HN.out.zero hk5 hrl h1 h2
        have hL := fun h1 h2 => HN.out.last hk5 hrl h1 h2
        have hX := fun h1 => HN.out.next hk5 hrl h1
        rw [hget] at hZ hL hX
        have hd : text[at_ + k].toNat < 256 := UInt8.toNat_lt _
        have HO := hid (or_shift (d := text[at_ + k].toNat) hk5 HN.out.low)
        have HZ := hid hZ
        have HL := hid hL
        have HX := hid hX
        have e1 := and127 hd
        have HA : Hid (at_ + (k + 1) ≤ text.size) := by show _ ≤ _; omega
        clear hget hrl hZ hL hX h5
        generalize text[at_ + k].toNat = d at *
        have hdI : (d : Int) < 256 := by omega
        by_cases h0 : d = 0
        · by_cases hk0 : 0 < k
          · have HNR := hid (HZ.out h0 hk0)
            have hk0I : (0 : Int) < k := by omega
            clear HZ HL HX HO HA
            subst h0
            go_wp2
            go_region
            go_wp2
            go_region
            go_wp2
            go_region
            go_wp2
            go_ret2
            exact rd_fault HNR.out hat (.inr (by omega)) HE.out HK.out g11 (((Keeps.refl _ _).dr).dr.dr)
          · have hk0I : ¬ (0 : Int) < k := by omega
            have HNR := hid (HL.out (by omega) (fun h => hk0 h.2))
            have HV : Hid (bits BinOp.or IntKind.i64 (acc : Int) 0 = ((acc + 0 * 128 ^ k : Nat) : Int)) := by
              have := HO.out
              rw [h0, show ((0 : Nat) : Int) % 128 * 2 ^ (7 * k) = 0 by simp, IntWalk.wrap64_in 0 (by omega)] at this
              show _ = _
              simpa using this
            clear HZ HL HX HO
            subst h0
            have e0 : bits BinOp.and IntKind.u8 0 127 = 0 := by simpa using e1
            clear e1
            go_wp2
            go_region
            go_wp2
            go_region
            go_wp2
            go_ret2
            exact rd_done HNR.out HA.out (by show Value.int .i64 _ = _; rw [HV.out]) HBR.out HK.out _ (congrArg _ (by omega)) (((Keeps.refl _ _).dr).dr)
        · by_cases h128 : d < 128
          · have HV : Hid (bits BinOp.or IntKind.i64 (acc : Int) (wrap64 ((d : Int) * 2 ^ (7 * k))) = ((acc + d * 128 ^ k : Nat) : Int)) := by
              have := HO.out
              rw [Nat.mod_eq_of_lt h128, show (d : Int) % 128 = d by omega] at this
              exact this
            have hm : d % 128 = d := Nat.mod_eq_of_lt h128
            have h128I : (d : Int) < 128 := by omega
            have h0I : ((d : Int) == 0) = false := by rw [beq_eq_false_iff_ne]; omega
            have HNR := hid (HL.out h128 (fun h => h0 h.1))
            have h0P : ¬ (d : Int) = 0 := by omega
            clear HZ HL HX HO
            go_wp2
            go_region
            go_wp2
            go_region
            go_wp2
            go_ret2
            exact rd_done HNR.out HA.out (by show Value.int .i64 _ = _; rw [HV.out]) HBR.out HK.out _ (congrArg _ (by omega)) (((Keeps.refl _ _).dr).dr)
          · have h128I : (128 : Int) ≤ d := by omega
            have HV : Hid (bits BinOp.or IntKind.i64 (acc : Int) (wrap64 ((d : Int) % 128 * 2 ^ (7 * k))) = ((acc + (d - 128) * 128 ^ k : Nat) : Int)) := by
              have := HO.out
              rw [show d % 128 = d - 128 by omega] at this
              exact this
            have HNX := hid (HX.out h128)
            clear HZ HL HX HO
            go_wp2
            go_region
            go_wp2
            go_region
            go_wp2
            exact ⟨⟨k + 1, acc + (d - 128) * 128 ^ k, by go_num, by rw [HV.out], HNX.out, HK.out.dr.dr⟩, by simp only [intOf]; omega⟩
    · obtain rfl : k = 5 := by omega
      have HNR := hid HN.out.full
      clear HN
      go_wp2
      go_region
      go_wp2
      go_ret2
      exact rd_fault HNR.out hat (.inr (by omega)) HE.out HK.out g11 ((Keeps.refl _ _).dr)

end Go.Proofs.YtkpaiaddikpdoaaGreatDoor

/- A reader: bounded. -/

namespace Go.Proofs.YtkpaiaddikpdoaaGreatDoor

open Go.RowKit Go.Shelf

theorem ErrsAt.kept {w w' : World} {S : Nat → Prop} (h : ErrsAt w) (hk : Keeps S w w') (hS : ∀ g, g < 16 → ¬ S g) : ErrsAt w' := fun g hg => by
  obtain ⟨t, u, hc⟩ := h g hg
  refine ⟨t, u, hk.cell hc (hS g ?_)⟩
  unfold NoSum at hg
  omega

theorem nrR_lt {l : List UInt8} {n : Nat} {r : List UInt8} (h : nrR l = .ok n r) : n < 34359738368 ∧ r.length < l.length := by
  unfold nrR at h
  split at h
  · cases h
  · rename_i x hx
    have := numAt_some hx
    cases h
    rw [List.length_drop]
    omega

/-- a fault further on -/
theorem Flt.on {w w1 w2 : World} {v : Value} {p : Nat} {S : Nat → Prop} (h : Flt w w1 v p) (hk : Keeps S w1 w2) (hS : ∀ k, w.heap.size ≤ k → ¬ S k) : Flt w w2 v p := by
  obtain ⟨b, t, u, g, h1, h2, h3, h4, h5⟩ := h
  exact ⟨b, t, u, g, h1, h2, (hk.block b (Array.getElem?_eq_some_iff.1 h3).1 (hS b h2)).trans h3, h4, h5⟩

set_option maxRecDepth 100000 in
set_option maxHeartbeats 2000000 in
theorem bounded_any (rb : Nat) (text : ByteArray) (at_ count least most : Nat) (rv : Value) (w : World) (h : RdAt w rb text at_ count rv) (hat : at_ ≤ text.size) (hts : text.size ≤ 1000000000000) (hrb : 16 ≤ rb) (he : ErrsAt w) :
    Calls Tryz.prog 77 #[.pointer (some ⟨rb, 0, none⟩), .int .i64 (least : Nat), .int .i64 (most : Nat)] w (RdPost (fun n : Nat => .int .i64 (n : Int)) (.int .i64 0) rb text count rv (bndR least most (restL text at_)) w) := by
  have c1 : w.cell? ⟨rb, 1, none⟩ = some (.int .i64 (at_ : Nat)) := cell_of_heap h 1
  have hn := rnumber_any rb text at_ count rv w h hat hts he
  have hlen := restL_len text at_
  rcases hx : nrR (restL text at_) with left | ⟨n, rest⟩
  · rw [hx] at hn
    have e : bndR least most (restL text at_) = .bad left := by unfold bndR; rw [hx]; rfl
    rw [e]
    have HN := hid hn
    clear hn h he hat hts hlen hx e hrb
    go_enter Tryz.func77, Tryz.ntmps77
    go_wp2_with (go_at_call 63; go_must (refine HN.out.mono ?_; rintro e w1 ⟨⟨v, rfl, hf⟩, k1⟩; obtain ⟨b, t, u, g, rfl, hf2⟩ := hf; have HF := hid hf2; have K1 := hid k1; clear hf2 k1))
    go_ret2
    exact ⟨⟨_, rfl, b, t, u, g, rfl, HF.out⟩, K1.out⟩
  · rw [hx] at hn
    by_cases hin : least ≤ n ∧ n ≤ most
    · have e : bndR least most (restL text at_) = .ok n rest := by
        unfold bndR
        rw [hx]
        show (if least ≤ n ∧ n ≤ most then _ else _) = _
        rw [if_pos hin]
      rw [e]
      have hi1 : ¬ (n : Int) < least := by omega
      have hi2 : ¬ (most : Int) < n := by omega
      have HN := hid hn
      clear hn h he hat hts hlen hx e hrb hin
      go_enter Tryz.func77, Tryz.ntmps77
      go_wp2_with (go_at_call 63; go_must (refine HN.out.mono ?_; rintro e w1 ⟨rfl, r1, k1⟩; have R1 := hid r1; have K1 := hid k1; clear r1 k1))
      go_ret2
      exact ⟨rfl, R1.out, K1.out⟩
    · have e : bndR least most (restL text at_) = .bad (restL text at_).length := by
        unfold bndR
        rw [hx]
        show (if least ≤ n ∧ n ≤ most then _ else _) = _
        rw [if_neg hin]
      rw [e, hlen]
      have hp : text.size - (text.size - at_) = at_ := by omega
      have HP := hid hp
      have HN := hid hn
      have HE := hid he
      have HG : Hid (∀ w1, Keeps (· = rb) w w1 → ErrsAt w1) := fun w1 k1 => he.kept k1 (fun g hg e => by have e' : g = rb := e; omega)
      have hfin : ∀ w1 wd t u, Keeps (· = rb) w w1 → Keeps (fun _ => False) w1 wd → w1.cell? ⟨15, 0, none⟩ = some (.iface t u) → RdPost (fun n : Nat => .int .i64 (n : Int)) (.int .i64 0) rb text count rv (.bad (text.size - at_)) w (.returned (.tuple #[.int .i64 0, .iface 98 (.pointer (some ⟨wd.heap.size, 0, none⟩))])) (wd.alloc (.cells #[.int .i64 (at_ : Int), .iface t u] 100)) := fun w1 wd t u k1 k2 hc => by
        have h1 := k1.size
        have h2 := k2.size
        have hc0 : w.cell? ⟨15, 0, none⟩ = some (.iface t u) := by
          obtain ⟨t', u', h'⟩ := HE.out 15 (by unfold NoSum; omega)
          have := k1.cell h' (fun e => by have e' : (15 : Nat) = rb := e; omega)
          rw [this] at hc
          rw [h']
          exact hc
        refine ⟨⟨_, rfl, _, t, u, 15, rfl, by omega, ?_, (by unfold NoSum; omega), hc0⟩, ?_⟩
        · rw [HP.out]
          exact heap_new _ _
        · exact (k1.trans k2 (fun _ _ h => h.elim)).al _
      have HFIN := hid hfin
      have hor : (n : Int) < least ∨ (¬ (n : Int) < least ∧ (most : Int) < n) := by omega
      clear hn h he hat hts hlen hx e hrb hp hfin hin
      rcases hor with h1 | ⟨h1, h2⟩
      · go_enter Tryz.func77, Tryz.ntmps77
        go_wp2_with (go_at_call 63; go_must (refine HN.out.mono ?_; rintro e w1 ⟨rfl, r1, k1⟩; obtain ⟨t, u, g15⟩ := HG.out w1 k1 15 (by unfold NoSum; omega); have R1 := hid r1; have K1 := hid k1; clear r1 k1))
        go_region
        go_wp2
        go_ret2
        exact HFIN.out w1 _ t u K1.out ((Keeps.refl _ _).dr) g15
      · go_enter Tryz.func77, Tryz.ntmps77
        go_wp2_with (go_at_call 63; go_must (refine HN.out.mono ?_; rintro e w1 ⟨rfl, r1, k1⟩; obtain ⟨t, u, g15⟩ := HG.out w1 k1 15 (by unfold NoSum; omega); have R1 := hid r1; have K1 := hid k1; clear r1 k1))
        go_region
        go_wp2
        go_ret2
        exact HFIN.out w1 _ t u K1.out ((Keeps.refl _ _).dr) g15

end Go.Proofs.YtkpaiaddikpdoaaGreatDoor

/- A reader: kind. -/

namespace Go.Proofs.YtkpaiaddikpdoaaGreatDoor

open Go.RowKit Go.Shelf

theorem ofL_ne {a : List UInt8} {b : Array UInt8} (h : a ≠ b.toList) : ((ofL a).toList == (⟨b⟩ : ByteArray).toList) = false := by
  refine (Lib.bytes_beq_false_iff _ _).2 (fun e => h ?_)
  have := congrArg (fun x : ByteArray => x.data.toList) e
  exact this

/-- a fault that is made behind a call -/
theorem rd_fault2 {α : Type} {enc : α → Value} {zero : Value} {rb count place left g : Nat} {text : ByteArray} {rv : Value} {w w1 wd : World} {t : TypeId} {u : Value} (hp : text.size - left = place) (hg : NoSum g) (hrb : 16 ≤ rb) (he : ErrsAt w) (k1 : Keeps (· = rb) w w1) (hc : w1.cell? ⟨g, 0, none⟩ = some (.iface t u)) (k2 : Keeps (fun _ => False) w1 wd) :
    RdPost enc zero rb text count rv (.bad left) w (.returned (.tuple #[zero, .iface 98 (.pointer (some ⟨wd.heap.size, 0, none⟩))])) (wd.alloc (.cells #[.int .i64 (place : Int), .iface t u] 100)) := by
  have h1 := k1.size
  have h2 := k2.size
  have hc0 : w.cell? ⟨g, 0, none⟩ = some (.iface t u) := by
    obtain ⟨t', u', h'⟩ := he g hg
    have hlt : g < 16 := by unfold NoSum at hg; omega
    have := k1.cell h' (fun e => by have e' : g = rb := e; omega)
    rw [this] at hc
    rw [h']
    exact hc
  refine ⟨⟨_, rfl, _, t, u, g, rfl, by omega, ?_, hg, hc0⟩, ?_⟩
  · rw [hp]
    exact heap_new _ _
  · exact (k1.trans k2 (fun _ _ h => h.elim)).al _

set_option maxRecDepth 100000 in
set_option maxHeartbeats 2000000 in
theorem kind_any (rb : Nat) (text : ByteArray) (count : Nat) (rv : Value) (w : World) (h : RdAt w rb text 0 count rv) (hts : text.size ≤ 1000000000000) (hrb : 16 ≤ rb) (he : ErrsAt w) :
    Calls Tryz.prog 62 #[.pointer (some ⟨rb, 0, none⟩)] w (RdPost (fun b : Bool => .bool b) (.bool false) rb text count rv (kindR (restL text 0)) w) := by
  have hn := take_any rb text 0 count 4 rv w h (Nat.zero_le _) hts (by omega) he
  have hlen := restL_len text 0
  rcases hx : takeR 4 (restL text 0) with left | ⟨y, rest⟩
  · rw [hx] at hn
    have e : kindR (restL text 0) = .bad left := by unfold kindR; rw [hx]; rfl
    rw [e]
    have HN := hid hn
    clear hn h he hts hlen hx e hrb
    go_enter Tryz.func62, Tryz.ntmps62
    go_wp2_with (go_at_call 76; go_must (refine HN.out.mono ?_; rintro e w1 ⟨⟨v, rfl, hf⟩, k1⟩; obtain ⟨b, t, u, g, rfl, hf2⟩ := hf; have HF := hid hf2; have K1 := hid k1; clear hf2 k1))
    go_ret2
    exact ⟨⟨_, rfl, b, t, u, g, rfl, HF.out⟩, K1.out⟩
  · rw [hx] at hn
    have e : kindR (restL text 0) = if y = kindL true then .ok true rest else if y = kindL false then .ok false rest else .bad (restL text 0).length := by unfold kindR; rw [hx]; rfl
    rw [e]
    by_cases h1 : y = kindL true
    · rw [if_pos h1]
      rw [h1] at hn
      have hn' : Calls Tryz.prog 76 #[.pointer (some ⟨rb, 0, none⟩), .int .i64 4] w fun e w' => e = .returned (.tuple #[.string ⟨#[65, 78, 78, 70]⟩, .nilIface]) ∧ RdAt w' rb text (text.size - rest.length) count rv ∧ Keeps (· = rb) w w' := hn
      have HN := hid hn'
      clear hn hn' h he hts hlen hx e hrb h1
      go_enter Tryz.func62, Tryz.ntmps62
      go_wp2_with (go_at_call 76; go_must (refine HN.out.mono ?_; rintro e w1 ⟨rfl, r1, k1⟩; have R1 := hid r1; have K1 := hid k1; clear r1 k1))
      go_ret2
      exact ⟨rfl, R1.out, K1.out⟩
    · rw [if_neg h1]
      by_cases h2 : y = kindL false
      · rw [if_pos h2]
        rw [h2] at hn
        have hn' : Calls Tryz.prog 76 #[.pointer (some ⟨rb, 0, none⟩), .int .i64 4] w fun e w' => e = .returned (.tuple #[.string ⟨#[65, 78, 78, 68]⟩, .nilIface]) ∧ RdAt w' rb text (text.size - rest.length) count rv ∧ Keeps (· = rb) w w' := hn
        have HN := hid hn'
        clear hn hn' h he hts hlen hx e hrb h1 h2
        go_enter Tryz.func62, Tryz.ntmps62
        go_wp2_with (go_at_call 76; go_must (refine HN.out.mono ?_; rintro e w1 ⟨rfl, r1, k1⟩; have R1 := hid r1; have K1 := hid k1; clear r1 k1))
        go_ret2
        exact ⟨rfl, R1.out, K1.out⟩
      · rw [if_neg h2, hlen]
        have b1 : ((ofL y).toList == (⟨#[65, 78, 78, 70]⟩ : ByteArray).toList) = false := ofL_ne h1
        have b2 : ((ofL y).toList == (⟨#[65, 78, 78, 68]⟩ : ByteArray).toList) = false := ofL_ne h2
        have hn' : Calls Tryz.prog 76 #[.pointer (some ⟨rb, 0, none⟩), .int .i64 4] w fun e w' => e = .returned (.tuple #[.string (ofL y), .nilIface]) ∧ RdAt w' rb text (text.size - rest.length) count rv ∧ Keeps (· = rb) w w' := hn
        have HN := hid hn'
        have HG : Hid (∀ w1, Keeps (· = rb) w w1 → ErrsAt w1) := fun w1 k1 => he.kept k1 (fun g hg e => by have e' : g = rb := e; omega)
        have HE := hid he
        have hp : text.size - (text.size - 0) = 0 := by omega
        have HP := hid hp
        have HRB := hid hrb
        clear hn hn' h he hts hlen hx e hrb h1 h2 hp
        generalize ofL y = z at *
        have d1 : (z.toList == [65, 78, 78, 70]) = false := by
          have e : (⟨#[65, 78, 78, 70]⟩ : ByteArray).toList = [65, 78, 78, 70] := by simp
          rwa [e] at b1
        have d2 : (z.toList == [65, 78, 78, 68]) = false := by
          have e : (⟨#[65, 78, 78, 68]⟩ : ByteArray).toList = [65, 78, 78, 68] := by simp
          rwa [e] at b2
        have q1 : ¬ z.toList = [65, 78, 78, 70] := fun e => by rw [e] at d1; simp at d1
        have q2 : ¬ z.toList = [65, 78, 78, 68] := fun e => by rw [e] at d2; simp at d2
        clear b1 b2
        go_enter Tryz.func62, Tryz.ntmps62
        go_wp2_with (go_at_call 76; go_must (refine HN.out.mono ?_; rintro e w1 ⟨rfl, r1, k1⟩; obtain ⟨t, u, g9⟩ := HG.out w1 k1 9 (by unfold NoSum; omega); have R1 := hid r1; have K1 := hid k1; clear r1 k1))
        go_region
        go_wp2
        go_ret2
        exact rd_fault2 HP.out (by unfold NoSum; omega) HRB.out HE.out K1.out g9 ((Keeps.refl _ _).dr)

end Go.Proofs.YtkpaiaddikpdoaaGreatDoor
