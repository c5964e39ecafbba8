import Derived.Test.YtkpaiaddikpdoaaGreatDoorM12
import Derived.Laws.ResultCell

/- Read: what it leaves; a text whose check is another. -/

namespace Go.Proofs.YtkpaiaddikpdoaaGreatDoor

open Go.RowKit Go.Shelf

/-- what comes of a text -/
abbrev RdO : Type := Option (Nat ⊕ Str)

abbrev RdO.sum : RdO := none

abbrev RdO.bad (place : Nat) : RdO := some (.inl place)

abbrev RdO.ok (s : Str) : RdO := some (.inr s)

def judgeS (s : Str) : Bool := judgeB s.full s.a s.b (s.recs.map recB)

def readO (t : List UInt8) : RdO :=
  if t.length < 4 then .sum
  else if t.drop (t.length - 4) = checkL (t.take (t.length - 4)) then
    match coreR (t.take (t.length - 4)) with
    | .inl left => .bad (t.length - 4 - left)
    | .inr (s, _) => if judgeS s = true ∧ streamL s = t then .ok s else .bad 0
  else .sum

/-- the fault of the check at the end -/
def SumF (w w' : World) (v : Value) : Prop := ∃ b t u, v = .iface 98 (.pointer (some ⟨b, 0, none⟩)) ∧ w.heap.size ≤ b ∧ w'.heap[b]? = some (.cells #[.int .i64 0, .iface t u] 100 (0, 0)) ∧ w.cell? ⟨0, 0, none⟩ = some (.iface t u)

/-- what Read leaves -/
def ReadPost (x : RdO) (w : World) (e : Ending) (w' : World) : Prop := (match x with
  | none => ∃ v, e = .returned (.tuple #[strZ, v]) ∧ SumF w w' v
  | some (.inl p) => ∃ v, e = .returned (.tuple #[strZ, v]) ∧ Flt w w' v p
  | some (.inr s) => ∃ oa cap, e = .returned (.tuple #[.agg #[.bool s.full, .int .i64 (s.a : Nat), .int .i64 (s.b : Nat), .slice oa s.recs.length cap], .nilIface]) ∧ Row w' 31 3 (.slice oa s.recs.length cap) s.recs.length (recCs (s.recs.map recB)) ∧ ∀ g, (Value.slice oa s.recs.length cap).ownBlock = some g → w.heap.size ≤ g) ∧ Keeps (fun _ => False) w w'

theorem sum_post {w wz : World} {b : Nat} {t : TypeId} {u : Value} (hs : w.cell? ⟨0, 0, none⟩ = some (.iface t u)) (hb : w.heap.size ≤ b) (hz : wz.heap[b]? = some (.cells #[.int .i64 0, .iface t u] 100 (0, 0))) (hk : Keeps (fun _ => False) w wz) :
    ReadPost .sum w (.returned (.tuple #[strZ, .iface 98 (.pointer (some ⟨b, 0, none⟩))])) wz := ⟨⟨_, rfl, b, t, u, rfl, hb, hz, hs⟩, hk⟩

set_option maxRecDepth 100000 in
set_option maxHeartbeats 2000000 in
theorem read_short (text : ByteArray) (w : World) (t : TypeId) (u : Value) (h4 : text.size < 4) (hs : w.cell? ⟨0, 0, none⟩ = some (.iface t u)) :
    Calls Tryz.prog 20 #[.string text] w (ReadPost .sum w) := by
  have k0 := Keeps.alloc (fun _ => False) w (.cells #[.bool false, .int .i64 0, .int .i64 0, .slice none 0 0] 34)
  have g0 := k0.cell hs (fun h => h)
  have hneg : (text.size : Int) - 4 < 0 := by omega
  have hge : -4 ≤ (text.size : Int) - 4 := by omega
  have HS := hid hs
  clear hs h4 k0
  go_enter Tryz.func20, Tryz.ntmps20
  go_wp2
  go_region
  go_wp2
  go_region
  go_wp2
  refine bodyPost_ret (v := .tuple #[strZ, .iface 98 (.pointer (some ⟨w.heap.size + 1, 0, none⟩))]) ?_ rfl ?_
  · unfold strZ
    rw [results_cell_tmp rfl]
    go_simp
  · exact sum_post HS.out (by omega) (by have := heap_new (w.alloc (.cells #[.bool false, .int .i64 0, .int .i64 0, .slice none 0 0] 34)) (.cells #[.int .i64 0, .iface t u] 100); rw [World.size_alloc] at this; exact this) (((((Keeps.refl (fun _ => False) w).al _).al _).dr).dr)

/-- a cell that gets what it has -/
theorem set_same {w : World} {b i : Nat} {c : Array Value} {e : TypeId} {fz : Nat × Nat} {v : Value} (h : w.heap[b]? = some (.cells c e fz)) (hv : c[i]? = some v) : w.setCell ⟨b, i, none⟩ v = w := by
  have he : (w.setCell ⟨b, i, none⟩ v).heap = w.heap := by
    apply Array.ext_getElem?
    intro k
    unfold World.setCell
    rw [Array.getElem?_modify]
    by_cases hk : b = k
    · subst hk
      rw [if_pos rfl, h]
      simp only [Option.map_some, Option.isSome_none, Bool.false_eq_true, if_false, Option.some.injEq, Obj.cells.injEq, and_true]
      apply Array.ext_getElem?
      intro j
      rw [Array.getElem?_setIfInBounds]
      by_cases hj : i = j
      · subst hj
        obtain ⟨hl, -⟩ := Array.getElem?_eq_some_iff.1 hv
        rw [if_pos rfl, if_pos hl, hv]
      · rw [if_neg hj]
    · rw [if_neg hk]
  show ({ w with heap := (w.setCell ⟨b, i, none⟩ v).heap } : World) = w
  rw [he]

theorem extract_take (s : ByteArray) (n : Nat) : (s.extract 0 n).data.toList = s.data.toList.take n := by
  have := extract_rest s 0 n
  simp only [Nat.zero_add] at this
  rw [this]
  rfl

set_option maxRecDepth 100000 in
set_option maxHeartbeats 2000000 in
theorem read_sum (text : ByteArray) (w : World) (t : TypeId) (u : Value) (h4 : 4 ≤ text.size) (hts : text.size ≤ 10000000000) (hs : w.cell? ⟨0, 0, none⟩ = some (.iface t u)) (ht : TurnsAt w) (hne : text.data.toList.drop (text.data.toList.length - 4) ≠ checkL (text.data.toList.take (text.data.toList.length - 4))) :
    Calls Tryz.prog 20 #[.string text] w (ReadPost .sum w) := by
  have k0 := Keeps.alloc (fun _ => False) w (.cells #[.bool false, .int .i64 0, .int .i64 0, .slice none 0 0] 34)
  have hlen : text.data.toList.length = text.size := rfl
  rw [hlen] at hne
  obtain ⟨n, hn⟩ : ∃ n : Nat, text.size = n + 4 := ⟨text.size - 4, by omega⟩
  have hsub : (text.size : Int) - 4 = (n : Int) := by omega
  have hck : ∀ W, Keeps (fun _ => False) w W → Calls Tryz.prog 45 #[.string (text.extract 0 n)] W fun e w' => e = .returned (.string (ofL (checkL (text.data.toList.take n)))) ∧ Keeps (fun _ => False) W w' := fun W hW => by
    have := checkOf_any (text.extract 0 n) W (by rw [ByteArray.size_extract]; unfold maxLen; omega) (ht.kept hW (fun h => h))
    rwa [extract_take text n] at this
  have hnb : ((text.extract n text.size).toList == (ofL (checkL (text.data.toList.take n))).toList) = false := (Lib.bytes_beq_false_iff _ _).2 (fun e => hne (by
    have := congrArg (fun x : ByteArray => x.data.toList) e
    rw [extract_drop text n] at this
    rw [show text.size - 4 = n by omega]
    exact this))
  have HS := hid hs
  have HC := hid hck
  have hnI : (n : Int) ≤ 10000000000 := by omega
  have hnS : (n : Int) ≤ text.size := by omega
  have hz0 : 0 < w.heap.size := by
    rcases Nat.eq_zero_or_pos w.heap.size with h0 | h
    · simp [World.cell?, h0] at hs
    · exact h
  have hz1 : ¬ w.heap.size = 0 := by omega
  have hz2 : ¬ 0 = w.heap.size := by omega
  have HN := hid hn
  have g0 := k0.cell hs (fun h => h)
  clear hck hne hs ht hts h4 hlen hn
  generalize ofL (checkL (text.data.toList.take n)) = ck at *
  go_enter Tryz.func20, Tryz.ntmps20
  go_wp2
  go_region_held3 (fun _ => True) (go_keep) (first | (go_at_call 45; refine (HC.out _ (((Keeps.refl (fun _ => False) w).al _).dr)).mono ?_; rintro e w2 ⟨rfl, k2⟩; have hk2 := ((((Keeps.refl (fun _ => False) w).al _).dr).tr k2 (fun _ h => h)); have g2 := hk2.cell HS.out (fun h => h); have D2 := (k2.block w.heap.size (by simp) (fun h => h)).trans (heap_new w _); have d0 := cell_of_heap D2 0; have d1 := cell_of_heap D2 1; have d2 := cell_of_heap D2 2; have d3 := cell_of_heap D2 3; have f0 := frozen_of_heap D2 0; have f1 := frozen_of_heap D2 1; have f2 := frozen_of_heap D2 2; have f3 := frozen_of_heap D2 3; simp at d0 d1 d2 d3; have HZ : Hid (w.heap.size < w2.heap.size) := (by have := k2.size; simp at this; show _ < _; omega); have HK2 := hid hk2; have D3 := ((Keeps.alloc (fun _ => False) w2 (.cells #[.int .i64 0, .iface t u] 100)).block w.heap.size HZ.out (fun h => h)).trans D2; have a0 := cell_of_heap D3 0; have a1 := cell_of_heap D3 1; have a2 := cell_of_heap D3 2; have a3 := cell_of_heap D3 3; have b0 := frozen_of_heap D3 0; have b1 := frozen_of_heap D3 1; have b2 := frozen_of_heap D3 2; have b3 := frozen_of_heap D3 3; have s0 := set_same D2 (i := 0) (v := .bool false) rfl; have s1 := set_same D2 (i := 1) (v := .int .i64 0) rfl; have s2 := set_same D2 (i := 2) (v := .int .i64 0) rfl; have s3 := set_same D2 (i := 3) (v := .slice none 0 0) rfl; have t0 := set_same D3 (i := 0) (v := .bool false) rfl; have t1 := set_same D3 (i := 1) (v := .int .i64 0) rfl; have t2 := set_same D3 (i := 2) (v := .int .i64 0) rfl; have t3 := set_same D3 (i := 3) (v := .slice none 0 0) rfl; simp at a0 a1 a2 a3; clear k2 hk2 D2 g0 D3))
  go_wp2
  go_region
  all_goals
    go_wp2
    refine bodyPost_ret (v := .tuple #[strZ, .iface 98 (.pointer (some ⟨w2.heap.size, 0, none⟩))]) ?_ rfl ?_
    · unfold strZ
      rw [results_cell_tmp rfl]
      go_simp
    · exact sum_post HS.out (Nat.le_of_lt HZ.out) (heap_new w2 _) (HK2.out.al _).dr

end Go.Proofs.YtkpaiaddikpdoaaGreatDoor

/- Read: a text whose check is right. -/

namespace Go.Proofs.YtkpaiaddikpdoaaGreatDoor

open Go.RowKit Go.Shelf

theorem flat_three : ∀ (l : List RecB) (k r : Nat) (hk : k < l.length), r < 3 → (recCs l)[k * 3 + r]? = (l[k].cells)[r]?
  | [], k, r, hk, _ => absurd hk (by simp)
  | x :: l, 0, r, _, hr => by
    show (x.cells ++ recCs l)[0 * 3 + r]? = _
    rw [List.getElem?_append_left (by rw [RecB.len]; omega)]
    simp
  | x :: l, k + 1, r, hk, hr => by
    show (x.cells ++ recCs l)[(k + 1) * 3 + r]? = _
    rw [List.getElem?_append_right (by rw [RecB.len]; omega), RecB.len, show (k + 1) * 3 + r - 3 = k * 3 + r by omega]
    exact flat_three l k r (by simpa using hk) hr

theorem RecIn.ofRow {w : World} {oa : Option Addr} {cap : Nat} {l : List RecB} (h : Row w 31 3 (.slice oa l.length cap) l.length (recCs l)) : RecIn w oa l := fun i hi => by
  obtain ⟨n, hn⟩ : ∃ n, l.length = n + 1 := ⟨l.length - 1, by omega⟩
  have h' := h
  rw [hn] at h'
  obtain ⟨g, cap', e⟩ := h'.succ
  have e1 : oa = some ⟨g, 0, none⟩ := by injection e
  subst e1
  refine ⟨g, 0, rfl, ?_, ?_, ?_⟩
  · rw [Nat.zero_add]
    refine (h.cellAt (i * 3) (by omega)).trans ?_
    have := flat_three l i 0 hi (by omega)
    rw [Nat.add_zero] at this
    rw [this]
    rfl
  · rw [Nat.zero_add]
    refine (h.cellAt (i * 3 + 1) (by omega)).trans ?_
    rw [flat_three l i 1 hi (by omega)]
    rfl
  · rw [Nat.zero_add]
    refine (h.cellAt (i * 3 + 2) (by omega)).trans ?_
    rw [flat_three l i 2 hi (by omega)]
    rfl

def coreO (t : List UInt8) (x : Rd Str) : RdO := match x with
  | .inl left => .bad (t.length - 4 - left)
  | .inr (s, _) => if judgeS s = true ∧ streamL s = t then .ok s else .bad 0

theorem size16 {w : World} (he : ErrsAt w) : 16 ≤ w.heap.size := by
  obtain ⟨t, u, h⟩ := he 15 (.inr (by omega))
  exact World.block_lt_of_cell? _ _ h

/-- records that were read are small -/
theorem recR_small {ahead l l' : List UInt8} {r : Rec} (ha : ahead.length ≤ 10) (h : recR ahead l = .ok r l') : r.key.length ≤ 10 ∧ r.value.length ≤ 40 := by
  have hp : Place (ofL l) l := place_rest (text := ofL l) (at_ := 0) (Nat.zero_le _)
  obtain ⟨-, h1, h2, -⟩ := recR_fits ha hp h
  exact ⟨h1, h2⟩

theorem recsR_small : ∀ (n : Nat) (ahead l l' : List UInt8) (x : List Rec), ahead.length ≤ 10 → recsR n ahead l = .ok x l' → ∀ r ∈ x, r.key.length ≤ 10 ∧ r.value.length ≤ 40
  | 0, ahead, l, l', x, _, h => by
    rw [recsR] at h
    cases h
    simp
  | n + 1, ahead, l, l', x, ha, h => by
    rw [recsR] at h
    obtain ⟨r, l1, h1, h⟩ := bind_eq_ok h
    obtain ⟨y, l2, h2, h⟩ := bind_eq_ok h
    cases h
    have hr := recR_small ha h1
    intro r' hr'
    rcases List.mem_cons.1 hr' with rfl | hm
    · exact hr
    · exact recsR_small n _ _ _ _ hr.1 h2 r' hm

theorem blockR_small {l l' : List UInt8} {x : List Rec} (h : blockR l = .ok x l') : ∀ r ∈ x, r.key.length ≤ 10 ∧ r.value.length ≤ 40 := by
  unfold blockR at h
  obtain ⟨n, l1, h1, h⟩ := bind_eq_ok h
  by_cases hn : n = 0
  · rw [if_pos hn] at h
    cases h
    simp
  · rw [if_neg hn] at h
    obtain ⟨y, l2, h2, h⟩ := bind_eq_ok h
    unfold endR at h
    obtain ⟨z, l3, h3, h⟩ := bind_eq_ok h
    split at h
    · cases h
      exact recsR_small n [] _ _ _ (by simp) h2
    · cases h

theorem blocksR_small : ∀ (f : Nat) (acc : List Rec) (l l' : List UInt8) (x : List Rec), (∀ r ∈ acc, r.key.length ≤ 10 ∧ r.value.length ≤ 40) → blocksR f acc l = .ok x l' → ∀ r ∈ x, r.key.length ≤ 10 ∧ r.value.length ≤ 40
  | 0, acc, l, l', x, ha, h => by
    rw [blocksR] at h
    cases h
    exact ha
  | f + 1, acc, l, l', x, ha, h => by
    rw [blocksR] at h
    obtain ⟨b, l1, h1, h⟩ := bind_eq_ok h
    have hb := blockR_small h1
    by_cases he : b = []
    · subst he
      simp at h
      obtain ⟨rfl, -⟩ := h
      exact ha
    · have h' : blocksR f (acc ++ b) l1 = .ok x l' := by simpa [he] using h
      exact blocksR_small f _ _ _ _ (fun r hr => (List.mem_append.1 hr).elim (ha r) (hb r)) h'

theorem coreR_small {l l' : List UInt8} {s : Str} (h : coreR l = .ok s l') : ∀ r ∈ s.recs, r.key.length ≤ 10 ∧ r.value.length ≤ 40 := by
  unfold coreR at h
  obtain ⟨k, l1, -, h⟩ := bind_eq_ok h
  obtain ⟨a, l2, -, h⟩ := bind_eq_ok h
  obtain ⟨b, l3, -, h⟩ := bind_eq_ok h
  obtain ⟨x, l4, h4, h⟩ := bind_eq_ok h
  obtain ⟨_, l5, -, h⟩ := bind_eq_ok h
  cases h
  exact blocksR_small _ [] _ _ _ (by simp) h4

/-- an empty stream lies there -/
def ResZ (w : World) (q : Nat) : Prop := w.heap[q]? = some (.cells #[.bool false, .int .i64 0, .int .i64 0, .slice none 0 0] 34 (0, 0))

theorem ResZ.facts {w : World} {q : Nat} (h : ResZ w q) : w.cell? ⟨q, 0, none⟩ = some (.bool false) ∧ w.cell? ⟨q, 1, none⟩ = some (.int .i64 0) ∧ w.cell? ⟨q, 2, none⟩ = some (.int .i64 0) ∧ w.cell? ⟨q, 3, none⟩ = some (.slice none 0 0) ∧ w.frozen? ⟨q, 0, none⟩ = false ∧ w.frozen? ⟨q, 1, none⟩ = false ∧ w.frozen? ⟨q, 2, none⟩ = false ∧ w.frozen? ⟨q, 3, none⟩ = false ∧ w.setCell ⟨q, 0, none⟩ (.bool false) = w ∧ w.setCell ⟨q, 1, none⟩ (.int .i64 0) = w ∧ w.setCell ⟨q, 2, none⟩ (.int .i64 0) = w ∧ w.setCell ⟨q, 3, none⟩ (.slice none 0 0) = w :=
  ⟨cell_of_heap h 0, cell_of_heap h 1, cell_of_heap h 2, cell_of_heap h 3, frozen_of_heap h 0, frozen_of_heap h 1, frozen_of_heap h 2, frozen_of_heap h 3, set_same h rfl, set_same h rfl, set_same h rfl, set_same h rfl⟩

theorem ResZ.kept {S : Nat → Prop} {w w' : World} {q : Nat} (h : ResZ w q) (hk : Keeps S w w') (hS : ¬ S q) : ResZ w' q := (hk.block q (Array.getElem?_eq_some_iff.1 h).1 hS).trans h

theorem Flt.back {w w3 w4 wz : World} {v : Value} {p : Nat} (hf : Flt w3 w4 v p) (he : ErrsAt w) (k : Keeps (fun _ => False) w w3) (kz : Keeps (fun _ => False) w4 wz) : Flt w wz v p := by
  obtain ⟨b, t, u, g, h1, h2, h3, h4, h5⟩ := hf
  refine ⟨b, t, u, g, h1, Nat.le_trans k.size h2, (kz.block b (Array.getElem?_eq_some_iff.1 h3).1 (fun h => h)).trans h3, h4, ?_⟩
  obtain ⟨t', u', h'⟩ := he g h4
  have := k.cell h' (fun h => h)
  rw [this] at h5
  rw [h']
  exact h5

theorem recB_rec (r : Rec) : (recB r).rec_ = r := rfl

theorem take_all {l : List Rec} (h : ((l.map recB).take 1001).length ≤ 1000) : (l.map recB).take 1001 = l.map recB := by
  refine List.take_of_length_le ?_
  rw [List.length_take] at h
  omega

theorem recs_back (l : List Rec) : (l.map recB).map RecB.rec_ = l := by
  rw [List.map_map]
  exact List.map_id' l

set_option maxRecDepth 100000 in
set_option maxHeartbeats 4000000 in
theorem read_core (text : ByteArray) (w : World) (h4 : 4 ≤ text.size) (hts : text.size ≤ 10000000000) (he : ErrsAt w) (ht : TurnsAt w) (heq : text.data.toList.drop (text.data.toList.length - 4) = checkL (text.data.toList.take (text.data.toList.length - 4))) :
    Calls Tryz.prog 20 #[.string text] w (ReadPost (coreO text.data.toList (coreR (text.data.toList.take (text.data.toList.length - 4)))) w) := by
  have h16 := size16 he
  have hlen : text.data.toList.length = text.size := rfl
  rw [hlen] at heq ⊢
  obtain ⟨n, hn⟩ : ∃ n : Nat, text.size = n + 4 := ⟨text.size - 4, by omega⟩
  have hsub : (text.size : Int) - 4 = (n : Int) := by omega
  rw [show text.size - 4 = n by omega] at heq ⊢
  have hck : ∀ W, Keeps (fun _ => False) w W → Calls Tryz.prog 45 #[.string (text.extract 0 n)] W fun e w' => e = .returned (.string (text.extract n text.size)) ∧ Keeps (fun _ => False) W w' := fun W hW => by
    have := checkOf_any (text.extract 0 n) W (by rw [ByteArray.size_extract]; unfold maxLen; omega) (ht.kept hW (fun h => h))
    rw [extract_take text n, ← heq, ← extract_drop text n] at this
    exact this
  have HC := hid hck
  have hnI : (n : Int) ≤ 10000000000 := by omega
  have hnS : (n : Int) ≤ text.size := by omega
  have HN := hid hn
  have HE := hid he
  have HT := hid ht
  have H16 := hid h16
  have HX : Hid ((text.extract 0 n).data.toList = text.data.toList.take n) := extract_take text n
  have HXS : Hid ((text.extract 0 n).size = n) := by show _ = _; rw [ByteArray.size_extract]; omega
  obtain ⟨res, hres⟩ : ∃ res, res = coreO text.data.toList (coreR (text.data.toList.take n)) := ⟨_, rfl⟩
  rw [← hres]
  have HR := hid hres
  clear hck heq he ht hts h4 hlen hn h16 hres
  go_enter Tryz.func20, Tryz.ntmps20
  go_wp2
  go_region_held3 (fun _ => True) (go_keep) (first | (go_at_call 45; refine (HC.out _ (((Keeps.refl (fun _ => False) w).al _).dr)).mono ?_; rintro e w2 ⟨rfl, k2⟩; have hk2 := ((((Keeps.refl (fun _ => False) w).al _).dr).tr k2 (fun _ h => h)); have D2 := hid ((k2.block w.heap.size (by simp) (fun h => h)).trans (heap_new w _)); have HZ : Hid (w.heap.size < w2.heap.size) := (by have := k2.size; simp at this; show _ < _; omega); have HK2 := hid hk2; clear k2 hk2))
  have HRS : Hid (Calls Tryz.prog 46 #[.pointer (some ⟨w2.heap.size, 0, none⟩)] (w2.alloc (.cells #[.string (text.extract 0 n), .int .i64 0, .int .i64 0, .slice none 0 0] 102)) (StPost w2.heap.size w2.heap.size (text.extract 0 n) (coreR (text.data.toList.take n)) (w2.alloc (.cells #[.string (text.extract 0 n), .int .i64 0, .int .i64 0, .slice none 0 0] 102)))) := by
    have hz := HZ.out
    have h16 := H16.out
    have hxs := HXS.out
    have hL : (text.extract 0 n).data.toList.length = (text.extract 0 n).size := rfl
    have := rstream_any w2.heap.size w2.heap.size (text.extract 0 n) (w2.alloc (.cells #[.string (text.extract 0 n), .int .i64 0, .int .i64 0, .slice none 0 0] 102)) ⟨none, 0, ⟨place_rest (text := text.extract 0 n) (at_ := 0) (Nat.zero_le _), by unfold RdAt; rw [hL, Nat.sub_self]; exact heap_new w2 _, HE.out.kept (HK2.out.al _) (fun _ _ h => h)⟩, Row.nil _ _ _, fun g h => by cases h⟩ (by omega) (by simp) (by omega) (by omega) (HT.out.kept (HK2.out.al _) (fun h => h))
    rw [HX.out] at this
    exact this
  have HD3 : Hid (ResZ (w2.alloc (.cells #[.string (text.extract 0 n), .int .i64 0, .int .i64 0, .slice none 0 0] 102)) w.heap.size) := ResZ.kept D2.out ((Keeps.refl (fun _ => False) w2).al _) (fun h => h)
  have HK3 : Hid (Keeps (fun _ => False) w (w2.alloc (.cells #[.string (text.extract 0 n), .int .i64 0, .int .i64 0, .slice none 0 0] 102))) := HK2.out.al _
  have HZ3 : Hid (∀ k w4, k < w2.heap.size → ¬ RdrS w2.heap.size w2.heap.size w4 k) := fun k w4 hk e => by
    rcases e with e | ⟨e, -⟩
    · have e' : k = w2.heap.size := e
      omega
    · have e' : w2.heap.size ≤ k := e
      omega
  go_wp2_with fail
  refine HRS.out.mono ?_
  clear HRS
  rcases hx : coreR (text.data.toList.take n) with left | ⟨st, rest⟩
  · rintro e w4 ⟨⟨v, rfl, b, t, u, g, rfl, hf⟩, k4⟩
    have er : res = .bad (text.data.toList.length - 4 - left) := by rw [HR.out, hx]; rfl
    subst er
    clear HR
    have hd4 := HD3.out.kept k4 (HZ3.out _ _ HZ.out)
    have hd5 := hd4.kept ((Keeps.refl (fun _ => False) w4).al (.cells #[.bool false, .int .i64 0, .int .i64 0, .slice none 0 0] 34)) (fun h => h)
    obtain ⟨a0, a1, a2, a3, b0, b1, b2, b3, s0, s1, s2, s3⟩ := hd5.facts
    have HF : Hid (Flt (w2.alloc (.cells #[.string (text.extract 0 n), .int .i64 0, .int .i64 0, .slice none 0 0] 102)) w4 (.iface 98 (.pointer (some ⟨b, 0, none⟩))) ((text.extract 0 n).size - left)) := ⟨b, t, u, g, rfl, hf⟩
    have HK4 : Hid (Keeps (fun _ => False) w w4) := HK3.out.trans k4 (fun i hi e => absurd e (HZ3.out i _ (Nat.lt_trans hi HZ.out)))
    clear hf k4 hd4 hd5
    unfold strZ
    go_wp2
    refine bodyPost_ret (v := .tuple #[strZ, .iface 98 (.pointer (some ⟨b, 0, none⟩))]) ?_ rfl ?_
    · unfold strZ
      rw [results_cell_tmp rfl]
      go_simp
    · refine ⟨⟨_, rfl, ?_⟩, HK4.out.al _⟩
      have h1 := HF.out.back HE.out HK3.out ((Keeps.refl (fun _ => False) w4).al (.cells #[.bool false, .int .i64 0, .int .i64 0, .slice none 0 0] 34))
      rw [HXS.out] at h1
      have h2 := HN.out
      rw [show text.data.toList.length - 4 - left = n - left by show text.size - 4 - left = _; omega]
      exact h1
  · rintro e w4 ⟨oa, cap, rfl, row4, k4, own4⟩
    have hsm := coreR_small hx
    have HRO : Hid (res = coreO text.data.toList (.ok st rest)) := by show _ = _; rw [HR.out, hx]
    clear HR
    have HSM : Hid (∀ r ∈ (st.recs.map recB).take 1001, r.key.size ≤ maxLen ∧ r.value.size ≤ maxLen) := fun r hr => by
      obtain ⟨r', hr', rfl⟩ := List.mem_map.1 (List.mem_of_mem_take hr)
      obtain ⟨h1, h2⟩ := hsm r' hr'
      have e1 : (recB r').key.size = r'.key.length := ofL_size _
      have e2 : (recB r').value.size = r'.value.length := ofL_size _
      unfold maxLen
      omega
    have HD4 := hid (HD3.out.kept k4 (HZ3.out _ _ HZ.out))
    have HK4 : Hid (Keeps (fun _ => False) w w4) := HK3.out.trans k4 (fun i hi e => absurd e (HZ3.out i _ (Nat.lt_trans hi HZ.out)))
    have HRW := hid row4
    have HOW : Hid (∀ g, (Value.slice oa 0 cap).ownBlock = some g → w.heap.size ≤ g) := fun g hg => Nat.le_trans (Nat.le_of_lt HZ.out) (own4 g ((own_len oa _ 0 cap).trans hg))
    have HTA : Hid (((st.recs.map recB).take 1001).length ≤ 1000 → (st.recs.map recB).take 1001 = st.recs.map recB) := fun h => take_all h
    have HLB : Hid (((st.recs.map recB).take 1001).length ≤ 1001) := List.length_take_le _ _
    clear hsm row4 k4 hx own4
    generalize hl : (st.recs.map recB).take 1001 = l at *
    obtain ⟨w5, hw5⟩ : ∃ w5, w5 = w4.alloc (.cells #[.bool st.full, .int .i64 (st.a : Nat), .int .i64 (st.b : Nat), .slice oa l.length cap] 34) := ⟨_, rfl⟩
    have HW5 := hid hw5
    have k5 : Keeps (fun _ => False) w4 w5 := by rw [hw5]; exact (Keeps.refl _ _).al _
    have HD5 := hid (HD4.out.kept k5 (fun h => h))
    have HK5 := hid (HK4.out.tr k5 (fun _ h => h))
    have HR5 := hid (HRW.out.kept k5 (fun _ _ h => h))
    clear hw5 k5 HRW HD4 HK4
    have HRC : Hid (l.length ≤ cap ∧ cap ≤ maxLen) := by
      rcases HR5.out.2 with ⟨e, e'⟩ | ⟨g, c', cur, e, -, h1, h2, -⟩
      · injection e with e1 e2 e3
        exact ⟨by omega, by unfold maxLen; omega⟩
      · injection e with e1 e2 e3
        subst e3
        exact ⟨h1, h2⟩
    have HJE : Hid (∀ g, 2 ≤ g → g ≤ 6 → ErrAt w5 g) := fun g h1 h2 => (HE.out.kept HK5.out (fun _ _ h => h)) g (by unfold NoSum; omega)
    have HZ5 : Hid (w.heap.size < w5.heap.size) := (Array.getElem?_eq_some_iff.1 HD5.out).1
    cases hj : judgeB st.full st.a st.b l with
    | false =>
      have HWR := hid (write_bad st.full st.a st.b oa cap l w5 (RecIn.ofRow HR5.out) (by have := HLB.out; unfold maxLen; omega) HSM.out HJE.out hj)
      have er : res = .bad 0 := by
        rw [HRO.out]
        show (if _ then _ else _) = _
        refine if_neg (fun h => ?_)
        have h1 := h.1
        unfold judgeS at h1
        have h2 := judge_facts h1
        rw [← HTA.out (by rw [← hl, List.length_take]; have := h2.2.2.1; omega), hj] at h1
        cases h1
      subst er
      clear hl HTA hj HSM HRO
      go_wp2_with fail
      rw [← HW5.out]
      refine HWR.out.mono ?_
      rintro e w6 ⟨⟨t, v, hv, rfl⟩, k6⟩
      have hd6 := HD5.out.kept k6 (fun h => h)
      have hd7 := hd6.kept ((Keeps.refl (fun _ => False) w6).al (.cells #[.int .i64 0, .iface t v] 100)) (fun h => h)
      obtain ⟨a0, a1, a2, a3, b0, b1, b2, b3, s0, s1, s2, s3⟩ := hd7.facts
      have HV := hid hv
      have HK6 := hid (HK5.out.tr k6 (fun _ h => h))
      clear hv k6 hd6 hd7 HWR
      go_wp2
      refine bodyPost_ret (v := .tuple #[strZ, .iface 98 (.pointer (some ⟨w6.heap.size, 0, none⟩))]) ?_ rfl ?_
      · unfold strZ
        rw [results_cell_tmp rfl]
        go_simp
      · obtain ⟨g, hg, hc⟩ := HV.out
        have hn : NoSum g := (by unfold NoSum; have := hg.1; have := hg.2; omega)
        refine ⟨⟨_, rfl, w6.heap.size, t, v, g, rfl, HK6.out.size, heap_new w6 _, hn, ?_⟩, HK6.out.al _⟩
        obtain ⟨t', u', h'⟩ := HE.out g hn
        have := HK5.out.cell h' (fun h => h)
        rw [this] at hc
        rw [h']
        exact hc
    | true =>
      have hjf := judge_facts hj
      have hll := HTA.out hjf.2.2.1
      have HST : Hid (streamL ⟨st.full, st.a, st.b, l.map RecB.rec_⟩ = streamL st) := by show _ = _; rw [hll, recs_back]
      have HWR := hid (write_good st.full st.a st.b oa cap l w5 (RecIn.ofRow HR5.out) HRC.out.1 HRC.out.2 HJE.out (HT.out.kept HK5.out (fun h => h)) hj)
      rw [HST.out] at HWR
      by_cases hq : streamL st = text.data.toList
      · have er : res = .ok st := by
          rw [HRO.out]
          show (if _ then _ else _) = _
          refine if_pos ⟨?_, hq⟩
          unfold judgeS
          rw [← hll]
          exact hj
        have HLL : Hid (l.length = st.recs.length ∧ st.recs.map recB = l) := ⟨by rw [hll, List.length_map], hll.symm⟩
        subst er
        have HWQ : Hid (ofL (streamL st) = text) := by show _ = _; rw [hq, ofL_self]
        clear hl hll hjf HTA hj HSM HRO HST hq HLB
        go_wp2_with fail
        rw [← HW5.out]
        refine HWR.out.mono ?_
        rintro e w6 ⟨e1, k6⟩
        have e2 : e = .returned (.tuple #[.string text, .nilIface]) := by
          have e3 : e = .returned (.tuple #[.string (ofL (streamL st)), .nilIface]) := e1
          rw [e3, HWQ.out]
        subst e2
        have hd6 := HD5.out.kept k6 (fun h => h)
        obtain ⟨a0, a1, a2, a3, b0, b1, b2, b3, -, -, -, -⟩ := hd6.facts
        have hx6 : w6.heap[w4.heap.size]? = some (.cells #[.bool st.full, .int .i64 (st.a : Nat), .int .i64 (st.b : Nat), .slice oa l.length cap] 34 (0, 0)) := (k6.block _ (by rw [HW5.out]; simp) (fun h => h)).trans (by rw [HW5.out]; exact heap_new w4 _)
        have x0 := cell_of_heap hx6 0
        have x1 := cell_of_heap hx6 1
        have x2 := cell_of_heap hx6 2
        have x3 := cell_of_heap hx6 3
        simp at x0 x1 x2 x3
        have HR6 := hid (HR5.out.kept k6 (fun _ _ h => h))
        have HD6 := hid hd6
        have HK6 := hid (HK5.out.tr k6 (fun _ h => h))
        clear e1 k6 hd6 hx6 HWR
        generalize hlen : l.length = len at *
        go_wp2
        refine bodyPost_ret (v := .tuple #[.agg #[.bool st.full, .int .i64 (st.a : Nat), .int .i64 (st.b : Nat), .slice oa len cap], .nilIface]) ?_ rfl ?_
        · rw [results_cell_tmp rfl]
          go_simp
        · refine ⟨⟨oa, cap, ?_, ?_, fun g hg => HOW.out g ((own_len oa 0 _ cap).trans hg)⟩, HK6.out.trans (four_set w6 w.heap.size _ _ _ _) (fun k hk e => by have e' : k = w.heap.size := e; omega)⟩
          · rw [← HLL.out.1]
          · rw [HLL.out.2, ← HLL.out.1]
            exact HR6.out.kept (four_set w6 w.heap.size _ _ _ _) (fun i hi e => (HR6.out.typeIs hi).ne (e' := 34) (by decide) ⟨_, (show i = w.heap.size from e) ▸ HD6.out⟩)
      · have er : res = .bad 0 := by rw [HRO.out]; exact if_neg (fun h => hq h.2)
        subst er
        have hne : ((ofL (streamL st)).toList == text.toList) = false := (Lib.bytes_beq_false_iff _ _).2 (fun e => hq (by have := congrArg (fun x : ByteArray => x.data.toList) e; exact this))
        obtain ⟨ag, hag⟩ : ∃ ag, ag = ofL (streamL st) := ⟨_, rfl⟩
        rw [← hag] at hne
        have HAG := hid hag
        clear hl hll hjf HTA hj HSM HRO HST hq HLB hag
        go_wp2_with fail
        rw [← HW5.out]
        refine HWR.out.mono ?_
        rintro e w6 ⟨e1, k6⟩
        have e2 : e = .returned (.tuple #[.string ag, .nilIface]) := by rw [HAG.out]; exact e1
        subst e2
        obtain ⟨t, v, hg⟩ := HE.out 1 (by unfold NoSum; omega)
        have HG := hid hg
        have hd6 := HD5.out.kept k6 (fun h => h)
        have hd7 := hd6.kept ((Keeps.refl (fun _ => False) w6).al (.cells #[.int .i64 0, .iface t v] 100)) (fun h => h)
        obtain ⟨a0, a1, a2, a3, b0, b1, b2, b3, s0, s1, s2, s3⟩ := hd6.facts
        obtain ⟨c0, c1, c2, c3, f0, f1, f2, f3, r0, r1, r2, r3⟩ := hd7.facts
        have HK6 := hid (HK5.out.tr k6 (fun _ h => h))
        have g6 := HK6.out.cell hg (fun h => h)
        clear e1 k6 hd6 hd7 HWR hg
        go_wp2
        go_region
        all_goals
          go_wp2
          refine bodyPost_ret (v := .tuple #[strZ, .iface 98 (.pointer (some ⟨w6.heap.size, 0, none⟩))]) ?_ rfl ?_
          · unfold strZ
            rw [results_cell_tmp rfl]
            go_simp
          · exact ⟨⟨_, rfl, w6.heap.size, t, v, 1, rfl, HK6.out.size, heap_new w6 _, (by unfold NoSum; omega), HG.out⟩, (HK6.out.al _).dr⟩

theorem read_any (text : ByteArray) (w : World) (hts : text.size ≤ 10000000000) (hs : ErrAt w 0) (he : ErrsAt w) (ht : TurnsAt w) :
    Calls Tryz.prog 20 #[.string text] w (ReadPost (readO text.data.toList) w) := by
  obtain ⟨t, u, hs⟩ := hs
  have hlen : text.data.toList.length = text.size := rfl
  unfold readO
  by_cases h4 : text.data.toList.length < 4
  · rw [if_pos h4]
    exact read_short text w t u h4 hs
  · rw [if_neg h4]
    by_cases hq : text.data.toList.drop (text.data.toList.length - 4) = checkL (text.data.toList.take (text.data.toList.length - 4))
    · rw [if_pos hq]
      exact read_core text w (by omega) hts he ht hq
    · rw [if_neg hq]
      exact read_sum text w t u (by omega) hts hs ht hq

end Go.Proofs.YtkpaiaddikpdoaaGreatDoor

/- annalsref: a scan: wrong, take. -/

namespace Go.Proofs.YtkpaiaddikpdoaaGreatDoor

open Go.RowKit Go.Shelf

attribute [local go_sem] Oper.semAt_some

/-- a scan: its text, how far it is, the place of what is wrong -/
def ScAt (w : World) (sb : Nat) (text : ByteArray) (at_ : Nat) (bad : Int) : Prop := w.heap[sb]? = some (.cells #[.string text, .int .i64 (at_ : Nat), .int .i64 bad] 68 (0, 0))

/-- nothing is wrong so far; what is left -/
def ScL (w : World) (sb : Nat) (text : ByteArray) (l : List UInt8) : Prop := Place text l ∧ ScAt w sb text (text.size - l.length) (-1)

/-- something is wrong -/
def ScBad (w : World) (sb : Nat) (text : ByteArray) (p : Nat) : Prop := ∃ at_, at_ ≤ text.size ∧ ScAt w sb text at_ (p : Nat)

theorem ScAt.facts {w : World} {sb : Nat} {text : ByteArray} {at_ : Nat} {bad : Int} (h : ScAt w sb text at_ bad) : w.cell? ⟨sb, 0, none⟩ = some (.string text) ∧ w.cell? ⟨sb, 1, none⟩ = some (.int .i64 (at_ : Nat)) ∧ w.cell? ⟨sb, 2, none⟩ = some (.int .i64 bad) ∧ w.frozen? ⟨sb, 1, none⟩ = false ∧ w.frozen? ⟨sb, 2, none⟩ = false :=
  ⟨cell_of_heap h 0, cell_of_heap h 1, cell_of_heap h 2, frozen_of_heap h 1, frozen_of_heap h 2⟩

theorem ScAt.kept {S : Nat → Prop} {w w' : World} {sb : Nat} {text : ByteArray} {at_ : Nat} {bad : Int} (h : ScAt w sb text at_ bad) (hk : Keeps S w w') (hS : ¬ S sb) : ScAt w' sb text at_ bad := (hk.block sb (Array.getElem?_eq_some_iff.1 h).1 hS).trans h

theorem ScAt.wrong {w : World} {sb : Nat} {text : ByteArray} {at_ : Nat} {bad : Int} (h : ScAt w sb text at_ bad) (p : Nat) : ScAt (w.setCell ⟨sb, 2, none⟩ (.int .i64 (p : Nat))) sb text at_ (p : Nat) := by
  have := heap_setCell_same (i := 2) h (.int .i64 (p : Nat))
  unfold ScAt
  simpa using this

theorem ScAt.moved {w : World} {sb : Nat} {text : ByteArray} {at_ : Nat} {bad : Int} (h : ScAt w sb text at_ bad) (p : Nat) : ScAt (w.setCell ⟨sb, 1, none⟩ (.int .i64 (p : Nat))) sb text p bad := by
  have := heap_setCell_same (i := 1) h (.int .i64 (p : Nat))
  unfold ScAt
  simpa using this

theorem wrong_good (sb : Nat) (text : ByteArray) (at_ p : Nat) (w : World) (h : ScAt w sb text at_ (-1)) :
    Calls Tryz.prog 27 #[.pointer (some ⟨sb, 0, none⟩), .int .i64 (p : Nat)] w fun e w' => e = .returned (.tuple #[]) ∧ ScAt w' sb text at_ (p : Nat) ∧ Keeps (· = sb) w w' := by
  obtain ⟨c0, c1, c2, f1, f2⟩ := h.facts
  have HW := hid (h.wrong p)
  clear h
  go_enter Tryz.func27, Tryz.ntmps27
  go_wp2
  go_end0
  exact ⟨rfl, HW.out, Keeps.setCell w ⟨sb, 2, none⟩ _⟩

theorem wrong_bad (sb : Nat) (text : ByteArray) (at_ q : Nat) (p : Int) (w : World) (h : ScAt w sb text at_ (q : Nat)) :
    Calls Tryz.prog 27 #[.pointer (some ⟨sb, 0, none⟩), .int .i64 p] w fun e w' => e = .returned (.tuple #[]) ∧ w' = w := by
  obtain ⟨c0, c1, c2, f1, f2⟩ := h.facts
  have hq : ¬ ((q : Int) < 0) := by omega
  clear h
  go_enter Tryz.func27, Tryz.ntmps27
  go_wp2
  go_end0
  exact ⟨rfl, rfl⟩

end Go.Proofs.YtkpaiaddikpdoaaGreatDoor

/- annalsref: a scan: take. -/

namespace Go.Proofs.YtkpaiaddikpdoaaGreatDoor

open Go.RowKit Go.Shelf

attribute [local go_sem] Oper.semAt_some

set_option maxRecDepth 100000 in
set_option maxHeartbeats 2000000 in
theorem scTake_bad (sb : Nat) (text : ByteArray) (p : Nat) (n : Int) (w : World) (h : ScBad w sb text p) :
    Calls Tryz.prog 24 #[.pointer (some ⟨sb, 0, none⟩), .int .i64 n] w fun e w' => e = .returned (.string ⟨#[]⟩) ∧ ScBad w' sb text p ∧ Keeps (fun _ => False) w w' := by
  obtain ⟨at_, hat, h⟩ := h
  obtain ⟨c0, c1, c2, f1, f2⟩ := h.facts
  have hq : ¬ ((p : Int) < 0) := by omega
  have dq : decide ((p : Int) < 0) = false := decide_eq_false hq
  have HH := hid h
  have HAT := hid hat
  clear h hat
  go_enter Tryz.func24, Tryz.ntmps24
  go_wp2_with fail
  go_region
  go_wp2
  go_ret
  exact ⟨rfl, ⟨at_, HAT.out, HH.out.kept (Keeps.refl (fun _ => False) w).dr (fun h => h)⟩, (Keeps.refl (fun _ => False) w).dr⟩

set_option maxRecDepth 100000 in
set_option maxHeartbeats 2000000 in
theorem scTake_any (sb : Nat) (text : ByteArray) (l : List UInt8) (n : Nat) (w : World) (h : ScL w sb text l) (hts : text.size ≤ 1000000000000) (hn : n ≤ 1000000000000) :
    Calls Tryz.prog 24 #[.pointer (some ⟨sb, 0, none⟩), .int .i64 (n : Nat)] w fun e w' => (match takeR n l with
      | .inr (x, r) => e = .returned (.string (ofL x)) ∧ ScL w' sb text r
      | .inl k => e = .returned (.string ⟨#[]⟩) ∧ ScBad w' sb text (text.size - k)) ∧ Keeps (· = sb) w w' := by
  obtain ⟨hp, h⟩ := h
  have hll := hp.len
  obtain ⟨at_, hat⟩ : ∃ at_, at_ = text.size - l.length := ⟨_, rfl⟩
  rw [← hat] at h
  obtain ⟨c0, c1, c2, f1, f2⟩ := h.facts
  have hatI : (at_ : Int) ≤ text.size := by omega
  have htsI : (text.size : Int) ≤ 1000000000000 := by omega
  have hnI : (n : Int) ≤ 1000000000000 := by omega
  have hw1 : IntKind.i64.wrap ((at_ : Int) + n) = (at_ : Int) + n := IntWalk.i64_in _ ⟨by omega, by omega⟩
  have HH := hid h
  have HP := hid hp
  have HAT := hid hat
  by_cases hf : n ≤ l.length
  · have e : takeR n l = .ok (l.take n) (l.drop n) := by unfold takeR; rw [if_pos hf]
    have hle : ¬ ((at_ : Int) + n > text.size) := by omega
    have hle2 : (at_ : Int) + n ≤ text.size := by omega
    have hcast : ((at_ + n : Nat) : Int) = (at_ : Int) + n := Int.natCast_add ..
    have hm : ScAt (w.setCell ⟨sb, 1, none⟩ (.int .i64 ((at_ : Int) + n))) sb text (at_ + n) (-1) := by
      have := h.moved (at_ + n)
      rw [hcast] at this
      exact this
    obtain ⟨m0, m1, m2, -, -⟩ := hm.facts
    rw [hcast] at m1
    have HM := hid hm
    have hw2 : IntKind.i64.wrap ((at_ : Int) + n - n) = (at_ : Int) := by rw [IntWalk.i64_in ((at_ : Int) + n - n) ⟨by omega, by omega⟩]; omega
    have HEX : Hid (text.extract at_ (at_ + n) = ofL (l.take n)) := by
      show _ = _
      rw [extract_rest, hat, ← hp]
    have HSL : Hid (ScL (w.setCell ⟨sb, 1, none⟩ (.int .i64 ((at_ : Int) + n))) sb text (l.drop n)) := by
      refine ⟨hp.drop n, ?_⟩
      rw [List.length_drop, show text.size - (l.length - n) = at_ + n by omega]
      exact hm
    rw [e]
    clear h hp hat hf e hll hts hn hm hcast
    go_enter Tryz.func24, Tryz.ntmps24
    go_wp2_with fail
    go_region
    go_upto_region 6 with (fail)
    go_region
    go_wp2
    go_ret
    refine ⟨⟨?_, HSL.out.1, HSL.out.2.kept ((Keeps.refl (fun _ => False) _).dr.dr) (fun h => h)⟩, ?_⟩
    · rw [← HEX.out]
      rfl
    · exact ((Keeps.setCell w ⟨sb, 1, none⟩ _).dr).dr
  · have e : takeR n l = .bad l.length := by unfold takeR; rw [if_neg hf]
    have hgt : (at_ : Int) + n > text.size := by omega
    rw [e]
    have HW := hid (fun W (hW : Keeps (fun _ => False) w W) => wrong_good sb text at_ at_ W (h.kept hW (fun h => h)))
    have HPL : Hid (text.size - l.length = at_ ∧ at_ ≤ text.size) := ⟨hat.symm, by omega⟩
    clear h hp hat hf e hll hts hn
    go_enter Tryz.func24, Tryz.ntmps24
    go_wp2_with fail
    go_region
    go_wp2_with fail
    refine (HW.out _ (Keeps.refl (fun _ => False) w).dr).mono ?_
    rintro e w1 ⟨rfl, h1, k1⟩
    obtain ⟨d0, d1, d2, -, -⟩ := h1.facts
    have hge : (at_ : Int) ≥ 0 := by omega
    have H1 := hid h1
    have HK1 := hid ((Keeps.drew (· = sb) w).tr k1 (fun _ h => h))
    clear c0 c1 c2 f1 f2 h1 k1 HW
    go_wp2
    go_ret
    exact ⟨⟨rfl, at_, HPL.out.2, by rw [HPL.out.1]; exact H1.out⟩, HK1.out⟩

end Go.Proofs.YtkpaiaddikpdoaaGreatDoor

/- annalsref: a scan: number. -/

namespace Go.Proofs.YtkpaiaddikpdoaaGreatDoor

open Go.RowKit Go.Shelf

attribute [local go_sem] Oper.semAt_some

set_option maxRecDepth 100000 in
set_option maxHeartbeats 2000000 in
theorem scNum_bad (sb : Nat) (text : ByteArray) (p : Nat) (lo hi : Int) (w : World) (h : ScBad w sb text p) :
    Calls Tryz.prog 25 #[.pointer (some ⟨sb, 0, none⟩), .int .i64 lo, .int .i64 hi] w fun e w' => e = .returned (.int .i64 lo) ∧ w' = w := by
  obtain ⟨at_, hat, h⟩ := h
  obtain ⟨c0, c1, c2, f1, f2⟩ := h.facts
  have hq : ¬ ((p : Int) < 0) := by omega
  have HW := hid (fun q => wrong_bad sb text at_ p q w h)
  clear h hat
  go_enter Tryz.func25, Tryz.ntmps25
  go_wp2_with fail
  refine wp_loop_rounds 1 ?_
  rw [rounds_succ]
  go_wp2_with fail
  refine (HW.out _).mono ?_
  rintro e w1 ⟨rfl, rfl⟩
  go_wp2
  go_ret
  exact ⟨rfl, rfl⟩

end Go.Proofs.YtkpaiaddikpdoaaGreatDoor
