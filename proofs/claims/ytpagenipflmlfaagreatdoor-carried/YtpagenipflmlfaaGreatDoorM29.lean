import Derived.Test.YtpagenipflmlfaaGreatDoorM28
import Derived.Laws.IdiomStrings

/- What stands at a state, and how a copying tells it: pure. -/

namespace Go.Proofs.YtpagenipflmlfaaGreatDoor

open Go.RowKit Go.Shelf

theorem pair_nil (vers : ByteArray → List Ver) (s : Int) (k : ByteArray) : pairOf [] vers s k = if standsB (atVer (vers k) s) = true then some (k, ((atVer (vers k) s).getD Ver.zero).value) else none := rfl

theorem pair_some {vers : ByteArray → List Ver} {s : Int} {k : ByteArray} (h : (pairOf [] vers s k).isSome = true) : vers k ≠ [] := fun e => by
  rw [pair_nil, e] at h
  simp [atVer, upN, standsB] at h

theorem pairs_wrote {A : Gst} (h : Gok A) {s : Int} (hs : s ≤ A.now) (key val : ByteArray) (gone : Bool) : (A.wrote1 key val gone).pairs s = A.pairs s := by
  have ef : pairOf [] (A.wrote1 key val gone).vers s = pairOf [] A.vers s := funext fun k => by
    have e : atVer ((A.wrote1 key val gone).vers k) s = atVer (A.vers k) s := by
      simp only [Gst.wrote1]
      split
      · exact at_more (h.rising k) (by simp; omega)
      · rfl
    rw [pair_nil, pair_nil, e]
  unfold Gst.pairs
  rw [ef]
  refine filterMap_rises (insK_rises h.rises key) h.rises (fun k hk => ?_) (fun k hk => (h.keys k).2 (pair_some hk))
  exact (insK_mem _ _ _).2 (.inr ((h.keys k).2 (pair_some hk)))

/-- a pair as a record -/
def recP (p : ByteArray × ByteArray) : RecB := ⟨p.1, p.2, false⟩

theorem below_none (ks : List ByteArray) : below ks ByteArray.empty = 0 := by
  unfold below
  cases ks with
  | nil => rfl
  | cons k r =>
    have : ltK k ByteArray.empty = false := ltK_empty k
    simp [this]

theorem tell_full (A : Gst) (s : Int) : tellL A.keys A.vers (Cop.new true 0 s) = (A.pairs s).map recP := by
  unfold tellL Gst.pairs
  have e0 : (Cop.new true 0 s).next = ByteArray.empty := rfl
  rw [e0, below_none, List.drop_zero, List.map_filterMap]
  congr 1
  funext k
  rw [pair_nil]
  unfold tellOf
  have e1 : (Cop.new true 0 s).to = s := rfl
  rw [e1]
  cases hv : atVer (A.vers k) s with
  | none => simp [tellV, standsB]
  | some v =>
    obtain ⟨vs, vv, vg⟩ := v
    cases vg <;> simp [tellV, tellsB, standsB, Cop.new, recP]

/-! ### a copying goes on -/

theorem lt_snoc0 : ∀ (k a : List UInt8), (k < a ++ [0]) ↔ ¬ (a < k)
  | [], [] => by simp
  | c :: k, [] => by
    have h0 : ¬ c < 0 := by simp
    simp [List.cons_lt_cons_iff]
  | [], x :: a => by simp
  | c :: k, x :: a => by
    have ih := lt_snoc0 k a
    rw [List.cons_append, List.cons_lt_cons_iff, List.cons_lt_cons_iff, ih]
    constructor
    · rintro (h | ⟨e, h⟩) (h2 | ⟨e2, h2⟩)
      · exact absurd (UInt8.lt_trans h h2) (UInt8.lt_irrefl _)
      · rw [e2] at h
        exact UInt8.lt_irrefl _ h
      · rw [e] at h2
        exact UInt8.lt_irrefl _ h2
      · exact h h2
    · intro h
      by_cases hc : c < x
      · exact .inl hc
      · by_cases hx : x < c
        · exact absurd (.inl hx) h
        · have e : c = x := UInt8.le_antisymm (UInt8.not_lt.1 hx) (UInt8.not_lt.1 hc)
          exact .inr ⟨e, fun h2 => h (.inr ⟨e.symm, h2⟩)⟩

theorem ltK_snoc (k a : ByteArray) : (!ltK k (a ++ ⟨#[0]⟩)) = ltK a k := by
  rw [Bool.eq_iff_iff, ltK_iff]
  have e : (a ++ (⟨#[0]⟩ : ByteArray)).data.toList = a.data.toList ++ [0] := by simp [ByteArray.data_append]
  have h := lt_snoc0 k.data.toList a.data.toList
  rw [← e, ← ltK_iff] at h
  cases hb : ltK k (a ++ ⟨#[0]⟩) with
  | false =>
    rw [hb] at h
    simp only [Bool.not_false, true_iff]
    exact Classical.not_not.1 (fun hn => by have := h.2 hn; cases this)
  | true =>
    rw [hb] at h
    simp only [Bool.not_true, Bool.false_eq_true, false_iff]
    exact h.1 rfl

theorem filterMap_filter {f : ByteArray → Option RecB} (hf : ∀ k r, f k = some r → r.key = k) (p : ByteArray → Bool) : ∀ ks : List ByteArray, (ks.filter p).filterMap f = (ks.filterMap f).filter (fun r => p r.key)
  | [] => rfl
  | k :: ks => by
    have ih := filterMap_filter hf p ks
    cases hk : f k with
    | none => cases hp : p k <;> simp [hp, hk, ih]
    | some r =>
      have e := hf k r hk
      cases hp : p k <;> simp [hp, hk, ih, e]

theorem tellOf_key {x : Cop} {vers : ByteArray → List Ver} {k : ByteArray} {r : RecB} (h : tellOf x vers k = some r) : r.key = k := by
  unfold tellOf at h
  cases hv : atVer (vers k) x.to with
  | none => rw [hv] at h; cases h
  | some v =>
    rw [hv] at h
    cases ht : tellsB x v with
    | true =>
      simp only [tellV, ht, if_true, Option.some.injEq] at h
      rw [← h]
    | false =>
      simp only [tellV, ht] at h
      cases h

/-- what is left to tell: of all of it, what is not below the next key -/
theorem tell_next {keys : List ByteArray} (hr : Rises keys) (vers : ByteArray → List Ver) (x : Cop) : tellL keys vers x = (tellL keys vers (Cop.new x.full x.from' x.to)).filter (fun r => !ltK r.key x.next) := by
  unfold tellL
  have e0 : (Cop.new x.full x.from' x.to).next = ByteArray.empty := rfl
  rw [drop_below hr, e0, below_none, List.drop_zero, filterMap_filter (fun k r h => tellOf_key h)]
  rfl

theorem tell_rises {keys : List ByteArray} (hr : Rises keys) (vers : ByteArray → List Ver) (x : Cop) : Rises ((tellL keys vers x).map RecB.key) := by
  have key : ∀ ks : List ByteArray, ((ks.filterMap (tellOf x vers)).map RecB.key).Sublist ks := fun ks => by
    induction ks with
    | nil => exact List.Sublist.refl _
    | cons k ks ih =>
      cases hk : tellOf x vers k with
      | none => simp only [List.filterMap_cons, hk]; exact ih.cons _
      | some r =>
        have e := tellOf_key hk
        simp only [List.filterMap_cons, hk, List.map_cons, e]
        exact ih.cons_cons _
  unfold tellL
  exact (hr.sublist (List.drop_sublist _ _)).sublist (key _)

theorem rest_last {L : List RecB} (hr : Rises (L.map RecB.key)) {n : Nat} (h0 : 0 < n) (hn : n ≤ L.length) : L.filter (fun r => !ltK r.key ((L[n - 1]'(by omega)).key ++ ⟨#[0]⟩)) = L.drop n := by
  have hlt : ∀ i j (hi : i < L.length) (hj : j < L.length), i < j → ltK L[i].key L[j].key = true := fun i j hi hj hij => by
    have := List.pairwise_iff_getElem.1 hr i j (by simpa using hi) (by simpa using hj) hij
    simpa using this
  obtain ⟨q, hq⟩ : ∃ q, q = (L[n - 1]'(by omega)).key := ⟨_, rfl⟩
  rw [← hq]
  conv => lhs; rw [← List.take_append_drop n L]
  rw [List.filter_append]
  have e1 : (L.take n).filter (fun r => !ltK r.key (q ++ ⟨#[0]⟩)) = [] := by
    rw [List.filter_eq_nil_iff]
    intro r hr'
    obtain ⟨i, hi, rfl⟩ := List.mem_iff_getElem.1 hr'
    rw [List.length_take] at hi
    rw [List.getElem_take, ltK_snoc]
    rw [hq]
    by_cases e : i = n - 1
    · subst e
      rw [ltK_irrefl]
      simp
    · intro hc
      have := ltK_trans (hlt i (n - 1) (by omega) (by omega) (by omega)) hc
      rw [ltK_irrefl] at this
      cases this
  have e2 : (L.drop n).filter (fun r => !ltK r.key (q ++ ⟨#[0]⟩)) = L.drop n := by
    rw [List.filter_eq_self]
    intro r hr'
    obtain ⟨i, hi, rfl⟩ := List.mem_iff_getElem.1 hr'
    rw [List.length_drop] at hi
    rw [List.getElem_drop, ltK_snoc, hq]
    exact hlt _ _ _ _ (by omega)
  rw [e1, e2, List.nil_append]

/-- a copying that has told i pieces, T -/
structure CopAt (L : List RecB) (full : Bool) (a b : Nat) (i : Nat) (T : List UInt8) (x : Cop) : Prop where
  full_ : x.full = full
  from_ : x.from' = a
  to_ : x.to = b
  first : i = 0 → T = [] ∧ x = Cop.new full a b
  headed : 0 < i → x.headed = true
  less : 0 < i → 4 * (i - 1) < L.length + 4
  text : 0 < i → T ++ blocksL ((L.drop (4 * (i - 1))).map RecB.rec_) = headL full a b ++ blocksL (L.map RecB.rec_)
  sum : 0 < i → x.sum = (ovL 0 T : Nat)
  count : 0 < i → x.count = (min (4 * (i - 1)) L.length : Nat)
  rest : 0 < i → L.filter (fun r => !ltK r.key x.next) = L.drop (4 * (i - 1))

theorem cop_first (L : List RecB) (full : Bool) (a b : Nat) : CopAt L full a b 0 [] (Cop.new full a b) :=
  ⟨rfl, rfl, rfl, fun _ => ⟨rfl, rfl⟩, fun h => absurd h (by omega), fun h => absurd h (by omega), fun h => absurd h (by omega), fun h => absurd h (by omega), fun h => absurd h (by omega), fun h => absurd h (by omega)⟩

theorem blocksL_cons {rs : List Rec} (h : rs ≠ []) : blocksL rs = blockL (rs.take 4) ++ blocksL (rs.drop 4) := by
  rw [blocksL_more h]

theorem stream_told (full : Bool) (a b : Nat) (rs : List Rec) : streamL ⟨full, a, b, rs⟩ = (headL full a b ++ blocksL rs) ++ tailL (ovL 0 (headL full a b ++ blocksL rs)) rs.length := by
  unfold streamL bodyL tailL checkL
  simp only
  rw [← List.append_assoc (headL full a b), ovL_append (headL full a b ++ blocksL rs), List.append_assoc]

/-- its next piece -/
theorem cop_step {L : List RecB} {full : Bool} {a b i : Nat} {T : List UInt8} {x : Cop} (h : CopAt L full a b i T x) (hr : Rises (L.map RecB.key)) :
    ((goX x ((L.filter (fun r => !ltK r.key x.next)).take 4)).2.1 = false ∧ CopAt L full a b (i + 1) (T ++ (goX x ((L.filter (fun r => !ltK r.key x.next)).take 4)).1) (goX x ((L.filter (fun r => !ltK r.key x.next)).take 4)).2.2) ∨
    ((goX x ((L.filter (fun r => !ltK r.key x.next)).take 4)).2.1 = true ∧ T ++ (goX x ((L.filter (fun r => !ltK r.key x.next)).take 4)).1 = streamL ⟨full, a, b, L.map RecB.rec_⟩) := by
  cases i with
  | zero =>
    obtain ⟨rfl, rfl⟩ := h.first rfl
    left
    have e : goX (Cop.new full a b) ((L.filter (fun r => !ltK r.key (Cop.new full a b).next)).take 4) = (headL full a b, false, { Cop.new full a b with headed := true, sum := (ovL 0 (headL full a b) : Nat) }) := by
      unfold goX
      rw [if_pos (show (Cop.new full a b).headed = false from rfl)]
      rfl
    rw [e]
    refine ⟨rfl, rfl, rfl, rfl, fun h => absurd h (by omega), fun _ => rfl, fun _ => by simp, fun _ => by simp, fun _ => by simp, fun _ => by simp [Cop.new], fun _ => ?_⟩
    simp only [Cop.new, Nat.zero_add, Nat.sub_self, Nat.mul_zero, List.drop_zero]
    rw [List.filter_eq_self]
    intro r _
    have : ltK r.key ByteArray.empty = false := ltK_empty _
    simp [this]
  | succ i =>
    have h1 := h.headed (by omega)
    have h2 := h.less (by omega)
    have h3 := h.text (by omega)
    have h4 := h.sum (by omega)
    have h5 := h.count (by omega)
    have h6 := h.rest (by omega)
    rw [Nat.add_sub_cancel] at h2 h3 h5 h6
    rw [h6]
    unfold goX
    rw [if_neg (by rw [h1]; simp)]
    by_cases hd : L.length ≤ 4 * i
    · right
      have e : L.drop (4 * i) = [] := List.drop_eq_nil_of_le hd
      rw [e, List.take_nil, if_pos rfl]
      refine ⟨rfl, ?_⟩
      rw [e] at h3
      simp only [List.map_nil] at h3
      have e0 : blocksL [] = [] := by rw [blocksL_nil]
      rw [e0, List.append_nil] at h3
      have e5 : min (4 * i) L.length = L.length := by omega
      rw [stream_told, ← h3, List.length_map, h4, h5, e5]
      rfl
    · left
      have hne : (L.drop (4 * i)).take 4 ≠ [] := fun e => by
        have := congrArg List.length e
        simp at this
        omega
      rw [if_neg hne]
      have hlen : ((L.drop (4 * i)).take 4).length = min 4 (L.length - 4 * i) := by simp
      have hlast : ((L.drop (4 * i)).take 4).getLast? = L[min (4 * (i + 1)) L.length - 1]? := by
        rw [List.getLast?_eq_getElem?, hlen, List.getElem?_take, if_pos (by omega), List.getElem?_drop]
        congr 1
        omega
      have hl2 : min (4 * (i + 1)) L.length - 1 < L.length := by omega
      rw [hlast, List.getElem?_eq_getElem hl2]
      refine ⟨rfl, h.full_, h.from_, h.to_, fun h => absurd h (by omega), fun _ => h1, fun _ => by rw [Nat.add_sub_cancel]; omega, fun _ => ?_, fun _ => ?_, fun _ => ?_, fun _ => ?_⟩
      · rw [Nat.add_sub_cancel, ← h3, List.append_assoc]
        congr 1
        have hne2 : (L.drop (4 * i)).map RecB.rec_ ≠ [] := fun e => by
          have := congrArg List.length e
          simp at this
          omega
        rw [blocksL_cons hne2, ← List.map_take, ← List.map_drop, List.drop_drop]
        rfl
      · simp only [h4]
        rw [ovL_append]
        simp
      · simp only [h5, hlen]
        rw [Nat.add_sub_cancel]
        omega
      · rw [Nat.add_sub_cancel]
        simp only [Option.map_some, Option.getD_some]
        by_cases h8 : 4 * (i + 1) ≤ L.length
        · have := rest_last hr (n := 4 * (i + 1)) (by omega) h8
          have e : min (4 * (i + 1)) L.length - 1 = 4 * (i + 1) - 1 := by omega
          simp only [e]
          exact this
        · have := rest_last hr (n := L.length) (by omega) (Nat.le_refl _)
          have e : min (4 * (i + 1)) L.length - 1 = L.length - 1 := by omega
          simp only [e]
          rw [this, List.drop_length, List.drop_eq_nil_of_le (by omega)]

end Go.Proofs.YtpagenipflmlfaaGreatDoor

/- Streams that are written and read again: pure (out of F5, for seats without Told). -/

namespace Go.Proofs.YtpagenipflmlfaaGreatDoor

open Go.RowKit Go.Shelf

theorem rec_recB (r : RecB) : recB r.rec_ = r := by
  obtain ⟨k, v, g⟩ := r
  show RecB.mk (ofL k.data.toList) (ofL v.data.toList) g = _
  rw [ofL_self, ofL_self]

theorem recs_recB (l : List RecB) : (l.map RecB.rec_).map recB = l := by
  rw [List.map_map]
  have : (recB ∘ RecB.rec_) = id := funext fun r => rec_recB r
  rw [this, List.map_id]

/-- what judge lets by can be read again -/
theorem judge_ok {full : Bool} {a b : Nat} {l : List RecB} (h : judgeB full a b l = true) : Str.ok ⟨full, a, b, l.map RecB.rec_⟩ := by
  obtain ⟨h1, h2, h3, -⟩ := judge_facts h
  refine ⟨by show a < _; omega, by show b < _; omega, by show (l.map RecB.rec_).length < _; rw [List.length_map]; omega, fun r hr => ?_⟩
  obtain ⟨x, hx, rfl⟩ := List.mem_map.1 hr
  obtain ⟨k, hk, rfl⟩ := List.mem_iff_getElem.1 hx
  unfold judgeB at h
  simp only [Bool.and_eq_true] at h
  have h4 := okTo_mono (show k + 1 ≤ l.length by omega) h.2
  rw [okTo_next hk, Bool.and_eq_true] at h4
  have h5 := h4.2
  unfold okRec at h5
  simp only [Bool.and_eq_true] at h5
  obtain ⟨⟨⟨h6, h7⟩, -⟩, h8⟩ := h5
  simp [keyB] at h6
  simp [valB] at h7
  refine ⟨by show 1 ≤ l[k].key.size; omega, by show l[k].key.size ≤ 10; omega, by show l[k].value.size ≤ 40; omega, fun hg => ?_⟩
  have hg' : l[k].gone = true := hg
  rw [hg'] at h8
  cases he : l[k].value.toList.isEmpty with
  | false => rw [he] at h8; simp at h8
  | true =>
    show l[k].value.data.toList = []
    have h9 := List.isEmpty_iff.1 he
    rw [ByteArray.toList_eq] at h9
    exact h9

theorem stream_split (x : Str) : (streamL x).length = (bodyL x).length + 4 ∧ (streamL x).take (bodyL x).length = bodyL x ∧ (streamL x).drop (bodyL x).length = checkL (bodyL x) := by
  unfold streamL
  refine ⟨by rw [List.length_append, checkL_length], by simp, by simp⟩

theorem read_self {full : Bool} {a b : Nat} {l : List RecB} (h : judgeB full a b l = true) : readO (streamL ⟨full, a, b, l.map RecB.rec_⟩) = .ok ⟨full, a, b, l.map RecB.rec_⟩ := by
  obtain ⟨h1, h2, h3⟩ := stream_split ⟨full, a, b, l.map RecB.rec_⟩
  unfold readO
  rw [if_neg (by omega), show (streamL ⟨full, a, b, l.map RecB.rec_⟩).length - 4 = (bodyL ⟨full, a, b, l.map RecB.rec_⟩).length by omega, h2, h3, if_pos rfl, coreR_body (judge_ok h)]
  show (if _ then _ else _) = _
  refine if_pos ⟨?_, rfl⟩
  show judgeB full a b ((l.map RecB.rec_).map recB) = true
  rw [recs_recB]
  exact h

/-- what judge lets by, record by record -/
theorem judge_at {full : Bool} {a b : Int} {l : List RecB} (h : judgeB full a b l = true) {k : Nat} (hk : k < l.length) : okRec full (aheadB l k) l[k] = true := by
  unfold judgeB at h
  simp only [Bool.and_eq_true] at h
  have h4 := okTo_mono (show k + 1 ≤ l.length by omega) h.2
  rw [okTo_next hk, Bool.and_eq_true] at h4
  exact h4.2

theorem judge_rises {full : Bool} {a b : Int} {l : List RecB} (h : judgeB full a b l = true) : Rises (l.map RecB.key) := by
  have step : ∀ j (hj : j + 1 < l.length), ltK l[j].key l[j + 1].key = true := fun j hj => by
    have := judge_at h hj
    unfold okRec at this
    simp only [Bool.and_eq_true] at this
    have h2 := this.1.2
    rwa [ahead_next (by omega)] at h2
  have all : ∀ d i (hd : i + (d + 1) < l.length), ltK l[i].key l[i + (d + 1)].key = true := fun d => by
    induction d with
    | zero => exact fun i hd => step i hd
    | succ d ih => exact fun i hd => ltK_trans (ih i (by omega)) (step (i + (d + 1)) hd)
  unfold Rises
  rw [List.pairwise_iff_getElem]
  intro i j hi hj hij
  simp only [List.length_map] at hi hj
  rw [List.getElem_map, List.getElem_map]
  have := all (j - i - 1) i (by omega)
  have e : i + (j - i - 1 + 1) = j := by omega
  simp only [e] at this
  exact this

theorem judge_mem {full : Bool} {a b : Int} {l : List RecB} (h : judgeB full a b l = true) : ∀ r ∈ l, keyB r.key = true ∧ valB r.value = true ∧ (full = true → r.gone = false) := fun r hr => by
  obtain ⟨k, hk, rfl⟩ := List.mem_iff_getElem.1 hr
  have := judge_at h hk
  unfold okRec at this
  simp only [Bool.and_eq_true] at this
  refine ⟨this.1.1.1, this.1.1.2, fun hf => ?_⟩
  have h2 := this.2
  rw [hf] at h2
  simpa using h2

end Go.Proofs.YtpagenipflmlfaaGreatDoor

/- Restore. -/

namespace Go.Proofs.YtpagenipflmlfaaGreatDoor

open Go.RowKit Go.Shelf

/-- a store that a full stream tells -/
def Gst.told (l : List RecB) (to : Int) : Gst := ⟨to, to, 0, [], [], 0, [], l.map RecB.key, fun k => if memB (l.map RecB.key) k then [verR l to k] else []⟩

theorem told_keys {b : Nat} {ks : List ByteArray} {ver : ByteArray → Ver} {Rn : Rep} (h : Grew (Rep.zero b) ks ver Rn) (hr : Rises ks) : Rn.keys = ks ∧ versOf Rn.hist = fun k => if memB ks k then [ver k] else [] := by
  have hv : versOf Rn.hist = fun k => if memB ks k then [ver k] else [] := funext fun k => by
    rw [h.vers]
    have e : versOf (Rep.zero b).hist k = [] := rfl
    rw [e]
    rfl
  refine ⟨rises_ext h.tied.rises hr (fun k => ?_), hv⟩
  have hvk := congrFun hv k
  constructor
  · intro hk
    have h1 : (look Rn.hist k).isSome = true := by rw [← h.tied.keys]; exact (memB_iff _ _).2 hk
    obtain ⟨x, hx⟩ := Option.isSome_iff_exists.1 h1
    have h2 := h.tied.filled _ (look_mem hx)
    have h3 : versOf Rn.hist k = x.vers := by unfold versOf; rw [hx]; rfl
    cases hm : memB ks k with
    | true => exact (memB_iff _ _).1 hm
    | false =>
      simp only [hm] at hvk
      exact absurd (h3.symm.trans hvk) h2
  · intro hk
    refine keys_of_vers h.tied ?_
    rw [hvk]
    simp only [(memB_iff _ _).2 hk, if_true]
    simp

theorem none_mem {α : Type} {P : α → Prop} {l : List α} (h : l = []) : ∀ p ∈ l, P p := fun p hp => (by rw [h] at hp; cases hp)

theorem told_inv {w : World} {b : Nat} {l : List RecB} {to : Nat} {Rn : Rep} (hs : StoreAt w { Rn with now := (to : Nat), floor := (to : Nat) }) (h : Grew (Rep.zero b) (l.map RecB.key) (verR l (to : Nat)) Rn) (hj : judgeB true 0 (to : Nat) l = true) : GInv 1000 w { Rn with now := (to : Nat), floor := (to : Nat) } ∧ Rep.gst { Rn with now := (to : Nat), floor := (to : Nat) } = Gst.told l (to : Nat) ∧ Rn.sb = b := by
  have hr := judge_rises hj
  obtain ⟨hk, hv⟩ := told_keys h hr
  have hm := judge_mem hj
  obtain ⟨-, hto, hl, -⟩ := judge_facts hj
  have hsame := h.same
  have e1 : Rn.works = [] := by rw [hsame]; rfl
  have e2 : Rn.pins = [] := by rw [hsame]; rfl
  have e3 : Rn.copyings = [] := by rw [hsame]; rfl
  have e4 : Rn.started = 0 := by rw [hsame]; rfl
  have e5 : Rn.begun = 0 := by rw [hsame]; rfl
  have e6 : Rn.sb = b := by rw [hsame]; rfl
  have hn := hist_nodup hs.past
  have hver : ∀ k, k ∈ l.map RecB.key → keyB k = true ∧ valB (verR l (to : Nat) k).value = true ∧ (verR l (to : Nat) k).state = (to : Nat) := fun k hk' => by
    obtain ⟨r, hr', rfl⟩ := List.mem_map.1 hk'
    obtain ⟨j, hj', rfl⟩ := List.mem_iff_getElem.1 hr'
    rw [verR_at hr hj']
    have := hm _ (List.getElem_mem hj')
    exact ⟨this.1, this.2.1, rfl⟩
  have hall : ∀ p ∈ Rn.hist, p.2.vers = [verR l (to : Nat) p.1] ∧ p.1 ∈ l.map RecB.key := fun p hp => by
    have h2 := h.tied.filled p hp
    have h3 := (vers_of_mem hn hp).2
    have h4 := congrFun hv p.1
    have h5 : versOf Rn.hist p.1 = p.2.vers := h3
    rw [h5] at h4
    cases hmm : memB (l.map RecB.key) p.1 with
    | true => simp only [hmm, if_true] at h4; exact ⟨h4, (memB_iff _ _).1 hmm⟩
    | false => simp only [hmm] at h4; exact absurd h4 h2
  have hps : Rep.pinSum { Rn with now := (to : Nat), floor := (to : Nat) } ≤ (1000 : Nat) := by show (Rn.pins.map (·.2)).sum ≤ _; rw [e2]; simp
  have hst0 : 0 ≤ Rn.started ∧ Rn.started ≤ (1000 : Nat) := by rw [e4]; omega
  refine ⟨⟨hs, ?_, ⟨h.tied.rises, h.tied.keys, h.tied.filled⟩, by show (0 : Int) ≤ (to : Nat); omega, by show Rn.begun ≤ (1000 : Nat); rw [e5]; omega, by show Rn.keys.length ≤ 1000; rw [hk, List.length_map]; exact hl, ?_, none_mem e2, hps, hst0, none_mem e3, by show Rn.copyings.length ≤ 4; rw [e3]; simp⟩, ?_, e6⟩
  · refine ⟨⟨by show (0 : Int) ≤ (to : Nat); omega, hto.2⟩, by show 0 ≤ Rn.begun ∧ Rn.begun ≤ 1000000000000000; rw [e5]; omega, by show Rn.works.length ≤ 8; rw [e1]; simp, none_mem e1, none_mem e1, none_mem e1, none_mem e1, fun p hp => ?_, fun p hp v hv' => ?_, h.tied.filled, fun p hp => (hver _ (hall p hp).2).1, fun p hp v hv' => ?_, ?_, ?_⟩
    · rw [(hall p hp).1]
      exact List.pairwise_singleton _ _
    · rw [(hall p hp).1] at hv'
      have e : v = verR l (to : Nat) p.1 := by simpa using hv'
      rw [e, (hver _ (hall p hp).2).2.2]
      exact ⟨by omega, Int.le_refl _⟩
    · rw [(hall p hp).1] at hv'
      have e : v = verR l (to : Nat) p.1 := by simpa using hv'
      rw [e]
      exact (hver _ (hall p hp).2).2.1
    · exact h.tied.rises.imp (fun {a b} hab => (ltK_iff a b).1 hab)
    · intro k
      show k ∈ Rn.keys ↔ ∃ x, look Rn.hist k = some x
      rw [← memB_iff, h.tied.keys]
      exact Option.isSome_iff_exists
  · show (Rn.keys.map (fun k => (versOf Rn.hist k).length)).sum ≤ 1000
    have := sum_const_le (fun k => (versOf Rn.hist k).length) 1 Rn.keys (fun k _ => by rw [hv]; simp only; split <;> simp)
    have e : Rn.keys.length ≤ 1000 := by rw [hk, List.length_map]; exact hl
    omega
  · show (⟨(to : Nat), (to : Nat), Rn.begun, Rn.works.map _, Rn.pins, Rn.started, Rn.copyings, Rn.keys, versOf Rn.hist⟩ : Gst) = _
    rw [e1, e2, e3, e4, e5, hk, hv]
    rfl

/-- what Restore leaves -/
def RestPost (x : RdO) (w : World) (e : Ending) (w' : World) : Prop := (match x with
  | some (.inr s) => if s.full = true then ∃ b F, e = .returned (.tuple #[.pointer (some ⟨b, 0, none⟩), .int .i64 0]) ∧ GSt 1000 w' b (Gst.told (s.recs.map recB) (s.b : Nat)) F ∧ ∀ k ∈ F, w.heap.size ≤ k
      else e = .returned (.tuple #[.pointer none, .int .i64 6])
  | _ => e = .returned (.tuple #[.pointer none, .int .i64 6])) ∧ Keeps (fun _ => False) w w'

theorem read_judge {t : List UInt8} {s : Str} (h : readO t = .ok s) : judgeB s.full s.a s.b (s.recs.map recB) = true := by
  unfold readO at h
  split at h
  · cases h
  · split at h
    · split at h
      · cases h
      · rename_i s2 _ _
        split at h
        · rename_i h2
          cases h
          exact h2.1
        · cases h
    · cases h

set_option maxRecDepth 100000 in
set_option maxHeartbeats 4000000 in
theorem restore_any (text : ByteArray) (w : World) (hts : text.size ≤ 10000000000) (hg : Glob w) :
    Calls Tryz.prog 10 #[.string text] w (RestPost (readO text.data.toList) w) := by
  have HD := hid (decode_any text w hts hg)
  have HJ := hid (fun s (h : readO text.data.toList = .ok s) => read_judge h)
  generalize readO text.data.toList = res at *
  clear hts hg
  rcases res with _ | p | s
  · go_enter Tryz.func10, Tryz.ntmps10
    go_wp2_with fail
    refine HD.out.mono ?_
    rintro e w1 ⟨rfl, k1⟩
    unfold strZ
    go_wp2
    go_ret2
    exact ⟨rfl, k1.al _⟩
  · go_enter Tryz.func10, Tryz.ntmps10
    go_wp2_with fail
    refine HD.out.mono ?_
    rintro e w1 ⟨rfl, k1⟩
    unfold strZ
    go_wp2
    go_ret2
    exact ⟨rfl, k1.al _⟩
  · have hj := HJ.out s rfl
    obtain ⟨full, a, b, recs⟩ := s
    simp only at hj
    cases full with
    | false =>
      go_enter Tryz.func10, Tryz.ntmps10
      go_wp2_with fail
      refine HD.out.mono ?_
      rintro e w1 ⟨⟨oa, cap, rfl, row, own⟩, k1⟩
      simp only
      clear hj HJ HD row own
      generalize recs.length = n at *
      go_wp2
      go_ret2
      exact ⟨rfl, k1.al _⟩
    | true =>
      have ha : a = 0 := by
        unfold judgeB fitB at hj
        simp at hj
        omega
      subst ha
      obtain ⟨-, hto, hl, -⟩ := judge_facts hj
      have hrs := judge_rises hj
      have HJG := hid hj
      have hln : (recs.map recB).length = recs.length := List.length_map ..
      generalize hrb : recs.map recB = l at *
      have HRB := hid hrb
      clear HJ hj hrb
      go_enter Tryz.func10, Tryz.ntmps10
      go_wp2_with fail
      refine HD.out.mono ?_
      rintro e w1 ⟨⟨oa, cap, rfl, row, own⟩, k1⟩
      simp only at row own ⊢
      rw [HRB.out, ← hln] at row
      rw [← hln] at own ⊢
      have hrow : RecIn w1 oa l := RecIn.ofRow row
      have hob : ∀ ad, oa = some ad → ad.block < w1.heap.size := fun ad e => by
        rcases row.2 with ⟨h1, -⟩ | ⟨g', cap', cur, h1, h2, -⟩
        · injection h1 with h1; rw [e] at h1; cases h1
        · injection h1 with h1
          rw [e] at h1
          cases h1
          exact (Array.getElem?_eq_some_iff.1 h2).1
      have HRI := hid hrow
      have HOB := hid hob
      have HK1 := hid k1
      clear row own k1 HD hrow hob hln
      go_wp2_with fail
      refine (new_any _).mono ?_
      rintro e w3 ⟨rfl, hS3, k3⟩
      have k13 : Keeps (fun _ => False) w1 w3 := (((Keeps.refl (fun _ => False) w1).al _).al _).tr k3 (fun _ h => h)
      have hbx : w3.heap[w1.heap.size]? = some (.cells #[.bool true, .int .i64 0, .int .i64 (b : Nat), .slice oa l.length cap] 84 (0, 0)) := (k3.block w1.heap.size (by simp; omega) (fun h => h)).trans ((Below.heap_alloc _ _ _ (by simp)).trans (heap_new w1 _))
      have hch : Chg w3 (w1.heap.size + 1) [] [w1.heap.size + 1] := (chg_new w1 (.cells #[.bool true, .int .i64 0, .int .i64 (b : Nat), .slice oa l.length cap] 84)).kept k3 (fun _ _ h => h)
      obtain ⟨sb, hsb⟩ : ∃ sb, ((w1.alloc (.cells #[.bool true, .int .i64 0, .int .i64 (b : Nat), .slice oa l.length cap] 84)).alloc (.cells #[.slice none 0 0] 69)).heap.size = sb := ⟨_, rfl⟩
      have hsz : sb = w1.heap.size + 2 := by rw [← hsb]; simp
      rw [hsb] at hS3 ⊢
      have x0 := cell_of_heap hbx 0
      have x1 := cell_of_heap hbx 1
      have x2 := cell_of_heap hbx 2
      have x3 := cell_of_heap hbx 3
      simp at x0 x1 x2 x3
      have hw13 := HK1.out.size
      have HF := hid (follow_any (Rep.zero sb) (w1.heap.size + 1) [w1.heap.size + 1] true 0 b oa cap l w3 hS3 (good_zero sb) (tied_zero sb) hch (fun k hk hf => by simp at hk; simp [Rep.zero, Rep.fp, Rep.fpWorks, Rep.fpPast, pcOf, Value.ownBlock] at hf; omega) (by simp [Rep.zero]) hl (HRI.out.kept k13) (fun ad e => by have := HOB.out ad e; refine ⟨fun hf => ?_, fun hf => ?_⟩; (simp [Rep.zero, Rep.fp, Rep.fpWorks, Rep.fpPast, pcOf, Value.ownBlock] at hf; omega); (simp at hf; omega)) hrs)
      have e0 : (Rep.zero sb).sb = sb := rfl
      rw [e0] at HF
      have HK13 := hid k13
      have HSZ := hid hsz
      clear hS3 hch hbx k3 k13 hsb e0 hsz
      go_wp2_with fail
      refine HF.out.mono ?_
      rintro e w4 ⟨rfl, Rn, hS4, hG4, hk4, hfp4, -⟩
      obtain ⟨hsb4, -, -⟩ := hG4.sb
      have hsb5 : Rn.sb = sb := hsb4
      have c0 : w4.cell? ⟨sb, 0, none⟩ = some (.int .i64 (b : Nat)) := by have := hS4.cell 0; rw [← hsb5]; exact this
      have c1 : w4.cell? ⟨sb, 1, none⟩ = some (.int .i64 Rn.floor) := by have := hS4.cell 1; rw [← hsb5]; exact this
      have f1 : w4.frozen? ⟨sb, 1, none⟩ = false := by have := hS4.frozen 1; rw [← hsb5]; exact this
      have hS5 : StoreAt (w4.setCell ⟨sb, 1, none⟩ (.int .i64 (b : Nat))) { Rn with now := (b : Nat), floor := (b : Nat) } := by
        have h1 := hS4.set (R' := { Rn with now := (b : Nat), floor := (b : Nat) }) rfl (i := 1) (v := .int .i64 (b : Nat)) (by simp [topCells])
        rw [← hsb5]
        refine StoreAt.nums (R := { Rn with now := (b : Nat) }) hS4 (Keeps.setCell w4 ⟨Rn.sb, 1, none⟩ _) (fun k hk e => ?_) (b : Nat) (b : Nat) Rn.begun h1
        have hnd := hS4.nodup
        simp only [Rep.fp, List.nodup_cons] at hnd
        have e' : k = Rn.sb := e
        exact hnd.1 (e' ▸ hk)
      obtain ⟨i1, i2, i3⟩ := told_inv hS5 hG4 (by have := HJG.out; simpa using this)
      have HI := hid i1
      have HI2 := hid i2
      have HKK : Hid (Keeps (fun _ => False) w w4) := (HK1.out.tr HK13.out (fun _ h => h)).trans hk4 (fun k hk h => by
        have hsz := HSZ.out
        rcases h with h | h
        · simp [Rep.zero, Rep.fp, Rep.fpWorks, Rep.fpPast, pcOf, Value.ownBlock] at h; omega
        · simp at h; omega)
      have HFP := hid hfp4
      have hz3 : w1.heap.size ≤ w3.heap.size := HK13.out.size
      clear hS4 hG4 hk4 hfp4 hS5 i1 i2 hsb4 HF x0 x1 x2 x3
      go_wp2
      go_ret2
      have hsz := HSZ.out
      refine ⟨?_, HKK.out.st (p := ⟨sb, 1, none⟩) (.inl (by show w.heap.size ≤ sb; omega)) _⟩
      show if true = true then _ else _
      rw [if_pos rfl]
      refine ⟨sb, _, rfl, ⟨_, HI.out, hsb5, ?_, rfl⟩, fun k hk => ?_⟩
      · rw [HI2.out, HRB.out]
      · rcases HFP.out k hk with h | h
        · simp [Rep.zero, Rep.fp, Rep.fpWorks, Rep.fpPast, pcOf, Value.ownBlock] at h; omega
        · omega

end Go.Proofs.YtpagenipflmlfaaGreatDoor

/- What a copying tells can be read again, and is what stood: pure. -/

namespace Go.Proofs.YtpagenipflmlfaaGreatDoor

open Go.RowKit Go.Shelf

theorem ltK_first {k : ByteArray} (h : keyB k = true) : ltK ⟨#[]⟩ k = true := by
  rw [ltK_iff]
  unfold keyB at h
  simp at h
  cases hl : k.data.toList with
  | nil =>
    have e : k.size = k.data.toList.length := Array.length_toList.symm
    rw [hl, List.length_nil] at e
    omega
  | cons a l => simp

theorem judge_told {full : Bool} {a b : Int} {l : List RecB} (hf : fitB full a b = true) (hl : l.length ≤ 1000) (hr : Rises (l.map RecB.key)) (h : ∀ r ∈ l, keyB r.key = true ∧ valB r.value = true ∧ (r.gone = true → full = false ∧ r.value.toList.isEmpty = true)) : judgeB full a b l = true := by
  have hok : okTo full l l.length = true := by
    unfold okTo
    rw [List.all_eq_true]
    intro j hj
    have hj := List.mem_range.1 hj
    rw [List.getElem?_eq_getElem hj]
    show okRec full (aheadB l j) l[j] = true
    obtain ⟨k1, v1, v2⟩ := h l[j] (List.getElem_mem hj)
    unfold okRec
    simp only [Bool.and_eq_true]
    refine ⟨⟨⟨k1, v1⟩, ?_⟩, ?_⟩
    · cases j with
      | zero => exact ltK_first k1
      | succ j =>
        rw [ahead_next (by omega)]
        have := List.pairwise_iff_getElem.1 hr j (j + 1) (by simp; omega) (by simpa using hj) (by omega)
        simpa using this
    · cases hg : l[j].gone with
      | false => rfl
      | true =>
        obtain ⟨e1, e2⟩ := v2 hg
        rw [e1, e2]
        rfl
  unfold judgeB
  rw [hf, hok, decide_eq_true hl]
  rfl

theorem at_one (t : Int) (v : ByteArray) (g : Bool) : atVer [⟨t, v, g⟩] t = some ⟨t, v, g⟩ := by simp [atVer, upN]

/-- a store that a full stream tells: what stands -/
theorem told_pairs {l : List RecB} {t : Int} (hr : Rises (l.map RecB.key)) (hg : ∀ r ∈ l, r.gone = false) : (Gst.told l t).pairs t = l.map (fun r => (r.key, r.value)) := by
  unfold Gst.pairs
  have e0 : (Gst.told l t).keys = l.map RecB.key := rfl
  rw [e0, List.filterMap_map]
  have key : ∀ r ∈ l, (pairOf [] (Gst.told l t).vers t ∘ RecB.key) r = some (r.key, r.value) := fun r hr' => by
    obtain ⟨j, hj, rfl⟩ := List.mem_iff_getElem.1 hr'
    show pairOf [] (Gst.told l t).vers t l[j].key = _
    have e1 : (Gst.told l t).vers l[j].key = [verR l t l[j].key] := by
      show (if memB (l.map RecB.key) l[j].key then _ else _) = _
      rw [if_pos ((memB_iff _ _).2 (List.mem_map.2 ⟨_, hr', rfl⟩))]
    rw [pair_nil, e1, verR_at hr hj, at_one]
    have := hg _ hr'
    simp [standsB, this]
  clear hr hg e0
  induction l with
  | nil => rfl
  | cons r l ih =>
    rw [List.filterMap_cons, key r (by simp)]
    simp only [List.map_cons]
    congr 1
    have h2 : ∀ x ∈ l, (pairOf [] (Gst.told (r :: l) t).vers t ∘ RecB.key) x = some (x.key, x.value) := fun x hx => key x (by simp [hx])
    clear key ih
    generalize pairOf [] (Gst.told (r :: l) t).vers t ∘ RecB.key = f at *
    induction l with
    | nil => rfl
    | cons y l ih2 =>
      rw [List.filterMap_cons, h2 y (by simp)]
      simp only [List.map_cons]
      congr 1
      exact ih2 (fun x hx => h2 x (by simp [hx]))

theorem told_back {A : Gst} (h : Gok A) (s : Int) : (Gst.told ((A.pairs s).map recP) s).pairs s = A.pairs s := by
  rw [told_pairs]
  · rw [List.map_map]
    exact List.map_id' _
  · rw [← tell_full]
    exact tell_rises h.rises _ _
  · intro r hr
    obtain ⟨p, _, rfl⟩ := List.mem_map.1 hr
    rfl

theorem upN_all {vs : List Ver} {t : Int} (hr : Rising vs) (h : ∀ v ∈ vs, v.state ≤ t) : upN vs t = vs.length := by
  have h1 := upN_le vs t
  obtain ⟨-, h2⟩ := upN_spec (t := t) hr
  by_cases hlt : upN vs t < vs.length
  · have h3 := h2 _ hlt (Nat.le_refl _)
    have := h _ (List.getElem_mem hlt)
    omega
  · omega

end Go.Proofs.YtpagenipflmlfaaGreatDoor
