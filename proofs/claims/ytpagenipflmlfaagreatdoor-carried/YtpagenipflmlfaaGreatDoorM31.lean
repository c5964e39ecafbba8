import Derived.Test.YtpagenipflmlfaaGreatDoorM30

/- A store with three states pinned, of which copyings tell: pure. -/

namespace Go.Proofs.YtpagenipflmlfaaGreatDoor

open Go.RowKit Go.Shelf

/-- behind a sweep a state that is held sees the same, but for what is gone below -/
theorem swept_or {vs : List Ver} {L t : Int} (hr : Rising vs) (h : L ≤ t) : atVer (vs.drop (needN vs L)) t = atVer vs t ∨ (atVer (vs.drop (needN vs L)) t = none ∧ ∃ x, atVer vs t = some x ∧ x.gone = true ∧ x.state ≤ L) := by
  have hm := upN_mono h hr
  have hle := upN_le vs t
  have hlL := upN_le vs L
  have hneed : needN vs L ≤ upN vs L := by
    unfold needN
    split
    · split <;> omega
    · omega
  by_cases hlt : needN vs L < upN vs t
  · left
    unfold atVer
    rw [upN_drop hr (by omega), if_neg (by omega), if_neg (by omega), List.getElem?_drop]
    congr 1
    omega
  · by_cases h0 : needN vs L = 0
    · left
      rw [h0, List.drop_zero]
    · right
      have e1 : upN vs L = upN vs t := by omega
      have e2 : needN vs L = upN vs t := by omega
      have hl : upN vs t - 1 < vs.length := by omega
      have hat : atVer vs L = some vs[upN vs t - 1] := by
        unfold atVer
        rw [e1, if_neg (by omega), List.getElem?_eq_getElem hl]
      have hat2 : atVer vs t = some vs[upN vs t - 1] := by
        unfold atVer
        rw [if_neg (by omega), List.getElem?_eq_getElem hl]
      refine ⟨?_, _, hat2, ?_, (upN_spec (t := L) hr).1 _ hl (by omega)⟩
      · unfold atVer
        rw [upN_drop hr (by omega), if_pos (by omega)]
      · have h3 := e2
        unfold needN at h3
        rw [hat] at h3
        simp only at h3
        split at h3
        · assumption
        · omega

theorem tell_swept {A : Gst} (h : Gok A) {full : Bool} {a b : Int} (hab : a ≤ b) (hL : A.least ≤ (if full = true then b else a)) (k : ByteArray) : tellOf (Cop.new full a b) A.sweepS.vers k = tellOf (Cop.new full a b) A.vers k := by
  have e1 : (Cop.new full a b).to = b := rfl
  have e0 : A.sweepS.vers k = (A.vers k).drop (needN (A.vers k) A.least) := rfl
  have hb : A.least ≤ b := by cases full <;> simp at hL <;> omega
  unfold tellOf
  rw [e1, e0]
  rcases swept_or (h.rising k) hb with e | ⟨e, x, hx, hg, hs⟩
  · rw [e]
  · rw [e, hx]
    have : tellsB (Cop.new full a b) x = false := by
      cases full with
      | true => simp [tellsB, Cop.new, hg]
      | false =>
        simp at hL
        have e9 : tellsB (Cop.new false a b) x = decide (a < x.state) := rfl
        rw [e9]
        exact decide_eq_false (by omega)
    simp [tellV, this]

theorem tell_wrote {A : Gst} (h : Gok A) {full : Bool} {a b : Int} (hb : b ≤ A.now) (key val : ByteArray) (gone : Bool) (k : ByteArray) : tellOf (Cop.new full a b) (A.wrote1 key val gone).vers k = tellOf (Cop.new full a b) A.vers k := by
  have e1 : (Cop.new full a b).to = b := rfl
  have e : atVer ((A.wrote1 key val gone).vers k) b = atVer (A.vers k) b := by
    simp only [Gst.wrote1]
    split
    · exact at_more (h.rising k) (by simp; omega)
    · rfl
  unfold tellOf
  rw [e1, e]

theorem tellOf_vers {x : Cop} {vers : ByteArray → List Ver} {k : ByteArray} (h : (tellOf x vers k).isSome = true) : vers k ≠ [] := fun e => by
  unfold tellOf at h
  rw [e] at h
  simp [atVer, upN, tellV] at h

theorem tellL_ext {ks js : List ByteArray} {vs us : ByteArray → List Ver} {full : Bool} {a b : Int} (hk : Rises ks) (hj : Rises js) (h1 : ∀ k, vs k ≠ [] → k ∈ ks) (h2 : ∀ k, us k ≠ [] → k ∈ js) (h : ∀ k, tellOf (Cop.new full a b) vs k = tellOf (Cop.new full a b) us k) : tellL ks vs (Cop.new full a b) = tellL js us (Cop.new full a b) := by
  unfold tellL
  have e0 : (Cop.new full a b).next = ByteArray.empty := rfl
  rw [e0, below_none, below_none, List.drop_zero, List.drop_zero]
  have e : tellOf (Cop.new full a b) vs = tellOf (Cop.new full a b) us := funext h
  rw [e]
  exact filterMap_rises hk hj (fun k hk => h1 k (tellOf_vers (by rw [e]; exact hk))) (fun k hk => h2 k (tellOf_vers hk))

theorem wrote_keys {A : Gst} (h : Gok A) (key val : ByteArray) (gone : Bool) : Rises (A.wrote1 key val gone).keys ∧ ∀ k, (A.wrote1 key val gone).vers k ≠ [] → k ∈ (A.wrote1 key val gone).keys := by
  refine ⟨insK_rises h.rises key, fun k hk => (insK_mem _ _ _).2 ?_⟩
  by_cases e : k = key
  · exact .inl e
  · right
    have : (A.wrote1 key val gone).vers k = A.vers k := if_neg e
    rw [this] at hk
    exact (h.keys k).2 hk

theorem swept_keys {A : Gst} (h : Gok A) : Rises A.sweepS.keys ∧ ∀ k, A.sweepS.vers k ≠ [] → k ∈ A.sweepS.keys := by
  refine ⟨h.rises.sublist List.filter_sublist, fun k hk => ?_⟩
  have h3 : 0 < ((A.vers k).drop (needN (A.vers k) A.least)).length := List.length_pos_iff.2 hk
  rw [List.length_drop] at h3
  refine List.mem_filter.2 ⟨(h.keys k).2 (fun e => by rw [e] at h3; simp at h3), decide_eq_true (by omega)⟩

theorem tellL_wrote {A : Gst} (h : Gok A) {full : Bool} {a b : Int} (hb : b ≤ A.now) (key val : ByteArray) (gone : Bool) : tellL (A.wrote1 key val gone).keys (A.wrote1 key val gone).vers (Cop.new full a b) = tellL A.keys A.vers (Cop.new full a b) :=
  tellL_ext (wrote_keys h key val gone).1 h.rises (wrote_keys h key val gone).2 (fun k hk => (h.keys k).2 hk) (fun k => tell_wrote h hb key val gone k)

theorem tellL_swept {A : Gst} (h : Gok A) {full : Bool} {a b : Int} (hab : a ≤ b) (hL : A.least ≤ (if full = true then b else a)) : tellL A.sweepS.keys A.sweepS.vers (Cop.new full a b) = tellL A.keys A.vers (Cop.new full a b) :=
  tellL_ext (swept_keys h).1 h.rises (swept_keys h).2 (fun k hk => (h.keys k).2 hk) (fun k => tell_swept h hab hL k)

/-- three states are pinned -/
structure Car (s0 s1 s2 : Nat) (L0 L1 L2 : List RecB) (A : Gst) : Prop where
  works : A.works = []
  pins : A.pins = [((s0 : Int), 1), ((s1 : Int), 1), ((s2 : Int), 1)]
  keys : ∀ k ∈ A.keys, k ∈ K12
  upto : (s2 : Int) ≤ A.now
  floor : A.floor ≤ s0
  gone : ∀ k, ∀ v ∈ A.vers k, v.gone = true → v.value = ByteArray.empty
  t0 : tellL A.keys A.vers (Cop.new true 0 s0) = L0
  t1 : tellL A.keys A.vers (Cop.new false s0 s1) = L1
  t2 : tellL A.keys A.vers (Cop.new false s1 s2) = L2

theorem gone_wrote {A : Gst} {key val : ByteArray} {gone : Bool} (h : ∀ k, ∀ v ∈ A.vers k, v.gone = true → v.value = ByteArray.empty) (hv : gone = true → val = ByteArray.empty) : ∀ k, ∀ v ∈ (A.wrote1 key val gone).vers k, v.gone = true → v.value = ByteArray.empty := fun k v hm => by
  simp only [Gst.wrote1] at hm
  split at hm
  · rcases List.mem_append.1 hm with hm | hm
    · exact h k v hm
    · simp at hm
      subst hm
      exact hv
  · exact h k v hm

theorem Car.wrote {s0 s1 s2 : Nat} {L0 L1 L2 : List RecB} {A : Gst} (h : Car s0 s1 s2 L0 L1 L2 A) (g : Gok A) (h01 : s0 < s1) (h12 : s1 < s2) {key val : ByteArray} {gone : Bool} (hk : key ∈ K12) (hv : gone = true → val = ByteArray.empty) : Car s0 s1 s2 L0 L1 L2 (A.wrote1 key val gone) := by
  have hu := h.upto
  refine ⟨h.works, h.pins, fun k hk' => ?_, ?_, h.floor, gone_wrote h.gone hv, ?_, ?_, ?_⟩
  · rcases (insK_mem _ _ _).1 hk' with rfl | h1
    · exact hk
    · exact h.keys k h1
  · show (s2 : Int) ≤ A.now + 1
    omega
  · rw [tellL_wrote g (by omega)]; exact h.t0
  · rw [tellL_wrote g (by omega)]; exact h.t1
  · rw [tellL_wrote g (by omega)]; exact h.t2

theorem leastOf_le {now : Int} {hs : List Int} {x : Int} (h : x ∈ hs) : leastOf now hs ≤ x := (leastOf_is hs now).2.1 x h

theorem Car.swept {s0 s1 s2 : Nat} {L0 L1 L2 : List RecB} {A : Gst} (h : Car s0 s1 s2 L0 L1 L2 A) (g : Gok A) (h01 : s0 < s1) (h12 : s1 < s2) : Car s0 s1 s2 L0 L1 L2 A.sweepS := by
  have hl : A.least ≤ s0 := leastOf_le (by
    unfold Gst.held
    rw [h.pins]
    simp)
  refine ⟨h.works, h.pins, fun k hk => h.keys k (List.mem_filter.1 hk).1, h.upto, hl, fun k v hm => h.gone k v (List.mem_of_mem_drop hm), ?_, ?_, ?_⟩
  · rw [tellL_swept g (by omega) (by simpa using hl)]; exact h.t0
  · rw [tellL_swept g (by omega) (by simpa using hl)]; exact h.t1
  · rw [tellL_swept g (by omega) (by simp; omega)]; exact h.t2

theorem Car.cops {s0 s1 s2 : Nat} {L0 L1 L2 : List RecB} {A : Gst} (h : Car s0 s1 s2 L0 L1 L2 A) (s : Int) (c : List (Int × Cop)) : Car s0 s1 s2 L0 L1 L2 { A with started := s, copyings := c } :=
  ⟨h.works, h.pins, h.keys, h.upto, h.floor, h.gone, h.t0, h.t1, h.t2⟩

theorem Car.cpr {s0 s1 s2 : Nat} {L0 L1 L2 : List RecB} (h01 : s0 < s1) (h12 : s1 < s2) {L : List RecB} {full : Bool} {a t n : Nat} (ht : ∀ A, Car s0 s1 s2 L0 L1 L2 A → tellL A.keys A.vers (Cop.new full a t) = L) : Cpr (Car s0 s1 s2 L0 L1 L2) L full a t n :=
  ⟨ht, fun _ s c h => h.cops s c, fun _ h => h.works, fun _ _ _ _ _ h g _ hk _ hv => h.wrote g h01 h12 hk hv, fun _ _ h g => h.swept g h01 h12⟩

theorem tell_len12 {A : Gst} (g : Gok A) (hk : ∀ k ∈ A.keys, k ∈ K12) (x : Cop) : (tellL A.keys A.vers x).length ≤ 12 := by
  have h1 := length_le_of_subset (rises_nodup g.rises) hk
  have h2 := tellL_len A.keys A.vers x
  have h3 : K12.length = 12 := by simp [K12]
  omega

/-- the records of a copying -/
theorem tell_recs {A : Gst} (g : Gok A) (hg : ∀ k, ∀ v ∈ A.vers k, v.gone = true → v.value = ByteArray.empty) {full : Bool} {a b : Int} : ∀ r ∈ tellL A.keys A.vers (Cop.new full a b), keyB r.key = true ∧ valB r.value = true ∧ (r.gone = true → full = false ∧ r.value.toList.isEmpty = true) := fun r hr => by
  obtain ⟨v, h1, h2, h3, -, h5, h6⟩ := tell_mem hr
  refine ⟨g.keyB _ h1, by rw [h3]; exact g.vals _ v h2, fun hgo => ?_⟩
  rw [h5] at hgo
  refine ⟨?_, ?_⟩
  · cases full with
    | false => rfl
    | true =>
      have : tellsB (Cop.new true a b) v = false := by simp [tellsB, Cop.new, hgo]
      rw [this] at h6
      cases h6
  · rw [h3, hg _ v h2 hgo]
    decide +kernel

theorem recs_small {full : Bool} {l : List RecB} (h : ∀ r ∈ l, keyB r.key = true ∧ valB r.value = true ∧ (r.gone = true → full = false ∧ r.value.toList.isEmpty = true)) : Small l := fun r hr => by
  obtain ⟨h1, h2, -⟩ := h r hr
  unfold keyB at h1
  unfold valB at h2
  simp at h1 h2
  exact ⟨by omega, by omega⟩

theorem tell_judge {A : Gst} (g : Gok A) (hk : ∀ k ∈ A.keys, k ∈ K12) (hg : ∀ k, ∀ v ∈ A.vers k, v.gone = true → v.value = ByteArray.empty) {full : Bool} {a b : Int} (hf : fitB full a b = true) : judgeB full a b (tellL A.keys A.vers (Cop.new full a b)) = true :=
  judge_told hf (by have := tell_len12 g hk (Cop.new full a b); omega) (tell_rises g.rises _ _) (tell_recs g hg)

/-- it is let by -/
theorem start_zero {A : Gst} (g : Gok A) (hk : ∀ k ∈ A.keys, k ∈ K12) (hc : A.copyings = []) {full : Bool} {a b : Int} (hf : fitB full a b = true) (hb : A.floor ≤ b ∧ b ≤ A.now) (ha : full = true ∨ A.floor ≤ a ∧ a ≤ A.now) : A.judgeJ full a b = 0 := by
  have h1 := tell_len12 g hk (Cop.new full a b)
  unfold Gst.judgeJ judgeI
  have e1 : A.hasB b = true := by unfold Gst.hasB; simp; omega
  have e2 : fitB (Cop.new full a b).full (Cop.new full a b).from' (Cop.new full a b).to = true := hf
  rw [if_neg, if_neg (by rw [e2]; simp), if_neg (by rw [hc]; simp; omega)]
  rintro (h | ⟨h2, h3⟩)
  · rw [e1] at h; cases h
  · rcases ha with ha | ha
    · have : (Cop.new full a b).full = full := rfl
      rw [this, ha] at h2
      cases h2
    · unfold Gst.hasB at h3
      simp at h3
      omega

/-- what a full stream tells, key by key -/
theorem told_point {l : List RecB} (hr : Rises (l.map RecB.key)) (t : Int) (k : ByteArray) : pairOf [] (Gst.told l t).vers t k = match recOf l k with
    | some r => pairR k r
    | none => none := by
  cases hx : recOf l k with
  | none =>
    have hm := recOf_none hx
    have e : (Gst.told l t).vers k = [] := by show (if memB (l.map RecB.key) k then _ else _) = _; rw [hm]; rfl
    rw [pair_nil, e]
    simp [atVer, upN, standsB]
  | some r =>
    obtain ⟨h1, h2⟩ := recOf_mem hx
    obtain ⟨j, hj, e⟩ := List.mem_iff_getElem.1 h1
    have hm : memB (l.map RecB.key) k = true := (memB_iff _ _).2 (List.mem_map.2 ⟨r, h1, h2⟩)
    have ev : (Gst.told l t).vers k = [⟨t, r.value, r.gone⟩] := by
      show (if memB (l.map RecB.key) k then _ else _) = _
      rw [hm, if_pos rfl]
      have := verR_at (to := t) hr hj
      rw [e, h2] at this
      rw [this]
    rw [pair_nil, ev, at_one]
    simp only [pairR]
    cases hg : r.gone <;> simp [standsB]

theorem full_point {vers : ByteArray → List Ver} {s : Int} (k : ByteArray) : pairOf [] vers s k = match tellOf (Cop.new true 0 s) vers k with
    | some r => pairR k r
    | none => none := by
  have e1 : (Cop.new true 0 s).to = s := rfl
  unfold tellOf
  rw [e1, pair_nil]
  cases hv : atVer (vers k) s with
  | none => simp [tellV, standsB]
  | some v => cases hg : v.gone <;> simp [tellV, tellsB, standsB, Cop.new, pairR, hg]

theorem restored_point {A : Gst} (g : Gok A) (s : Int) (k : ByteArray) : pairOf [] (Gst.told (tellL A.keys A.vers (Cop.new true 0 s)) s).vers s k = pairOf [] A.vers s k := by
  rw [told_point (tell_rises g.rises _ _), recOf_tell g, ← full_point]

end Go.Proofs.YtpagenipflmlfaaGreatDoor

/- Encode (out of F0: a seat may lack it). -/

namespace Go.Proofs.YtpagenipflmlfaaGreatDoor

open Go.RowKit Go.Shelf

/-- what Encode says -/
def EncPost (ok : Bool) (s : List UInt8) (w : World) (e : Ending) (w' : World) : Prop := e = .returned (if ok = true then .tuple #[.string (ofL s), .int .i64 0] else .tuple #[.string ⟨#[]⟩, .int .i64 6]) ∧ Keeps (fun _ => False) w w'

set_option maxRecDepth 100000 in
set_option maxHeartbeats 2000000 in
theorem encode_bad (full : Bool) (a b : Int) (oa : Option Addr) (cap : Nat) (l : List RecB) (w : World) (hr : RecIn w oa l) (hl : l.length ≤ maxLen) (hs : ∀ r ∈ l, r.key.size ≤ maxLen ∧ r.value.size ≤ maxLen) (hg : Glob w) (hj : judgeB full a b l = false) :
    Calls Tryz.prog 39 #[.agg #[.bool full, .int .i64 a, .int .i64 b, .slice oa l.length cap]] w (EncPost false [] w) := by
  have ka := Keeps.alloc (fun _ => False) w (.cells #[.bool full, .int .i64 a, .int .i64 b, .slice oa l.length cap] 84)
  have HJ := hid (write_bad full a b oa cap l _ (hr.kept ka) hl hs (hg.kept ka).judge hj)
  clear hr hl hs hg hj ka
  go_enter Tryz.func39, Tryz.ntmps39
  go_wp2_with fail
  refine HJ.out.mono ?_
  rintro e w1 ⟨⟨t, v, -, rfl⟩, k1⟩
  clear HJ
  go_wp2
  go_ret2
  exact ⟨rfl, ((Keeps.refl _ w).al _).tr k1 (fun _ h => h)⟩

set_option maxRecDepth 100000 in
set_option maxHeartbeats 2000000 in
theorem encode_good (full : Bool) (a b : Nat) (oa : Option Addr) (cap : Nat) (l : List RecB) (w : World) (hr : RecIn w oa l) (hlc : l.length ≤ cap) (hcm : cap ≤ maxLen) (hg : Glob w) (hj : judgeB full a b l = true) :
    Calls Tryz.prog 39 #[.agg #[.bool full, .int .i64 (a : Nat), .int .i64 (b : Nat), .slice oa l.length cap]] w (EncPost true (streamL ⟨full, a, b, l.map RecB.rec_⟩) w) := by
  have ka := Keeps.alloc (fun _ => False) w (.cells #[.bool full, .int .i64 (a : Nat), .int .i64 (b : Nat), .slice oa l.length cap] 84)
  have HJ := hid (write_good full a b oa cap l _ (hr.kept ka) hlc hcm (hg.kept ka).judge (hg.kept ka).turns hj)
  clear hr hlc hcm hg hj ka
  generalize streamL ⟨full, a, b, l.map RecB.rec_⟩ = s at *
  go_enter Tryz.func39, Tryz.ntmps39
  go_wp2_with fail
  refine HJ.out.mono ?_
  rintro e w1 ⟨e1, k1⟩
  have e2 : e = .returned (.tuple #[.string (ofL s), .nilIface]) := e1
  subst e2
  clear HJ e1
  go_wp2
  go_ret2
  exact ⟨rfl, ((Keeps.refl _ w).al _).tr k1 (fun _ h => h)⟩

end Go.Proofs.YtpagenipflmlfaaGreatDoor

/- What the texts behind lean on, out of several. -/

namespace Go.Proofs.YtpagenipflmlfaaGreatDoor

section TB2

section TSA

open Go.RowKit

end TSA

section TSJ

open Go.RowKit

end TSJ

section TR0

open Go.RowKit Go.Shelf

/-- v is a list of records -/
def RecsAt (w : World) (v : Value) (l : List RecB) : Prop := Row w 147 3 v l.length (l.flatMap RecB.cells)

theorem rec_cells {w : World} {g cap : Nat} {l : List RecB} (h : RecsAt w (.slice (some ⟨g, 0, none⟩) l.length cap) l) (k : Nat) (hk : k < l.length) :
    w.cell? ⟨g, k * 3, none⟩ = some (.string l[k].key) ∧ w.cell? ⟨g, k * 3 + 1, none⟩ = some (.string l[k].value) ∧ w.cell? ⟨g, k * 3 + 2, none⟩ = some (.bool l[k].gone) := by
  have h0 := Row.elem RecB.len h k hk 0 (by omega)
  have h1 := Row.elem RecB.len h k hk 1 (by omega)
  have h2 := Row.elem RecB.len h k hk 2 (by omega)
  exact ⟨h0, h1, h2⟩

/-- those that are not gone -/
def standingL (l : List RecB) : List RecB := l.filter (fun r => !r.gone)

/-- records with one more, or one in another's place: what has come out, is the one in? -/
def placeStep (r : RecB) (s : List RecB × Bool) (x : RecB) : List RecB × Bool :=
  let o := if s.2 = false ∧ ltK x.key r.key = false then (s.1 ++ [r], true) else s
  if x.key = r.key then o else (o.1 ++ [x], o.2)

def placeTo (l : List RecB) (r : RecB) : List RecB × Bool := l.foldl (placeStep r) ([], false)

def placedL (l : List RecB) (r : RecB) : List RecB := if (placeTo l r).2 = true then (placeTo l r).1 else (placeTo l r).1 ++ [r]

end TR0

end TB2

section TB4

open Go.RowKit Go.Shelf

def hasL (l : List RecB) (key : ByteArray) : Option RecB := l.find? (fun x => decide (x.key = key))

def RRises (l : List RecB) : Prop := l.Pairwise (fun a b => ltK a.key b.key = true)

theorem place_in (r : RecB) : ∀ (l s : List RecB), l.foldl (placeStep r) (s, true) = (s ++ l.filter (fun x => decide (x.key ≠ r.key)), true)
  | [], s => by simp
  | x :: l, s => by
    rw [List.foldl_cons]
    by_cases h : x.key = r.key
    · have e : placeStep r (s, true) x = (s, true) := by simp [placeStep, h]
      rw [e, place_in r l s]
      simp [h]
    · have e : placeStep r (s, true) x = (s ++ [x], true) := by simp [placeStep, h]
      rw [e, place_in r l (s ++ [x])]
      simp [h]

theorem place_out (r : RecB) : ∀ (l s : List RecB), l.foldl (placeStep r) (s, false) = if l.dropWhile (fun x => ltK x.key r.key) = [] then (s ++ l.takeWhile (fun x => ltK x.key r.key), false) else (s ++ l.takeWhile (fun x => ltK x.key r.key) ++ r :: (l.dropWhile (fun x => ltK x.key r.key)).filter (fun x => decide (x.key ≠ r.key)), true)
  | [], s => by simp
  | x :: l, s => by
    rw [List.foldl_cons]
    cases h : ltK x.key r.key with
    | true =>
      have hne : x.key ≠ r.key := fun e => by rw [e, ltK_irrefl] at h; cases h
      have e : placeStep r (s, false) x = (s ++ [x], false) := by simp [placeStep, h, hne]
      rw [e, place_out r l (s ++ [x])]
      simp [h]
    | false =>
      by_cases hk : x.key = r.key
      · have e : placeStep r (s, false) x = (s ++ [r], true) := by simp [placeStep, hk, ltK_irrefl]
        rw [e, place_in r l (s ++ [r])]
        simp [hk, ltK_irrefl]
      · have e : placeStep r (s, false) x = (s ++ [r] ++ [x], true) := by simp [placeStep, h, hk]
        rw [e, place_in r l (s ++ [r] ++ [x])]
        simp [h, hk]

theorem placedL_eq (l : List RecB) (r : RecB) : placedL l r = l.takeWhile (fun x => ltK x.key r.key) ++ r :: (l.dropWhile (fun x => ltK x.key r.key)).filter (fun x => decide (x.key ≠ r.key)) := by
  unfold placedL placeTo
  rw [place_out r l []]
  by_cases h : l.dropWhile (fun x => ltK x.key r.key) = []
  · rw [if_pos h, h]
    simp
  · rw [if_neg h]
    simp

theorem mem_takeWhile {α : Type} {p : α → Bool} : ∀ {l : List α} {x : α}, x ∈ l.takeWhile p → p x = true ∧ x ∈ l
  | [], x, h => by simp at h
  | a :: l, x, h => by
    rw [List.takeWhile_cons] at h
    cases ha : p a with
    | true =>
      rw [ha] at h
      rcases List.mem_cons.1 h with rfl | h
      · exact ⟨ha, by simp⟩
      · exact ⟨(mem_takeWhile h).1, List.mem_cons_of_mem _ (mem_takeWhile h).2⟩
    | false => rw [ha] at h; simp at h

theorem placed_has (l : List RecB) (r : RecB) (k : ByteArray) : hasL (placedL l r) k = if r.key = k then some r else hasL l k := by
  rw [placedL_eq]
  unfold hasL
  rw [List.find?_append, List.find?_cons]
  by_cases h : r.key = k
  · rw [if_pos h]
    have h1 : (l.takeWhile (fun x => ltK x.key r.key)).find? (fun x => decide (x.key = k)) = none := by
      rw [List.find?_eq_none]
      intro x hx hk
      have hk' : x.key = k := by simpa using hk
      have := (mem_takeWhile hx).1
      rw [hk', ← h, ltK_irrefl] at this
      cases this
    rw [h1]
    simp [h]
  · rw [if_neg h]
    have h2 : decide (r.key = k) = false := by simp [h]
    rw [h2]
    conv => rhs; rw [← List.takeWhile_append_dropWhile (p := fun x : RecB => ltK x.key r.key) (l := l), List.find?_append]
    congr 1
    show List.find? _ (List.filter _ _) = _
    rw [List.find?_filter]
    congr 1
    funext x
    by_cases hx : x.key = k
    · have : x.key ≠ r.key := fun e => h (e ▸ hx)
      simp [hx, Ne.symm h]
    · simp [hx]

theorem dropWhile_ge {r : RecB} : ∀ {l : List RecB}, RRises l → ∀ x ∈ l.dropWhile (fun x => ltK x.key r.key), ltK x.key r.key = false
  | [], _, x, h => by simp at h
  | a :: l, hr, x, h => by
    obtain ⟨h1, h2⟩ := List.pairwise_cons.1 hr
    rw [List.dropWhile_cons] at h
    cases ha : ltK a.key r.key with
    | true =>
      rw [ha] at h
      exact dropWhile_ge h2 x h
    | false =>
      rw [ha] at h
      rcases List.mem_cons.1 h with rfl | h
      · exact ha
      · cases hx : ltK x.key r.key with
        | false => rfl
        | true =>
          have := ltK_trans (h1 x h) hx
          rw [ha] at this
          cases this

theorem placed_rises {l : List RecB} (h : RRises l) (r : RecB) : RRises (placedL l r) := by
  rw [placedL_eq]
  have hs1 : RRises (l.takeWhile (fun x => ltK x.key r.key)) := h.sublist (List.takeWhile_sublist _)
  have hs2 : RRises ((l.dropWhile (fun x => ltK x.key r.key)).filter (fun x => decide (x.key ≠ r.key))) := h.sublist (List.filter_sublist.trans (List.dropWhile_sublist _))
  have hgt : ∀ y ∈ (l.dropWhile (fun x => ltK x.key r.key)).filter (fun x => decide (x.key ≠ r.key)), ltK r.key y.key = true := fun y hy => by
    obtain ⟨h1, h2⟩ := List.mem_filter.1 hy
    have h3 := dropWhile_ge h y h1
    have h4 : y.key ≠ r.key := by simpa using h2
    cases h5 : ltK r.key y.key with
    | true => rfl
    | false => exact absurd (ltK_total h3 h5) h4
  refine List.pairwise_append.2 ⟨hs1, List.pairwise_cons.2 ⟨hgt, hs2⟩, fun x hx y hy => ?_⟩
  have h1 := (mem_takeWhile hx).1
  rcases List.mem_cons.1 hy with rfl | hy
  · exact h1
  · exact ltK_trans h1 (hgt y hy)

theorem has_some {l : List RecB} {k : ByteArray} {r : RecB} (h : hasL l k = some r) : r ∈ l ∧ r.key = k := by
  unfold hasL at h
  exact ⟨List.mem_of_find?_eq_some h, by simpa using List.find?_some h⟩

theorem has_of_mem : ∀ {l : List RecB}, RRises l → ∀ {r : RecB}, r ∈ l → hasL l r.key = some r
  | [], _, r, h => by cases h
  | a :: l, hr, r, h => by
    obtain ⟨h1, h2⟩ := List.pairwise_cons.1 hr
    unfold hasL
    rw [List.find?_cons]
    rcases List.mem_cons.1 h with rfl | h
    · simp
    · have hne : a.key ≠ r.key := fun e => by
        have := h1 r h
        rw [e, ltK_irrefl] at this
        cases this
      have : decide (a.key = r.key) = false := by simp [hne]
      rw [this]
      exact has_of_mem h2 h

theorem has_isSome (l : List RecB) (k : ByteArray) : (hasL l k).isSome = true ↔ k ∈ l.map RecB.key := by
  unfold hasL
  rw [List.find?_isSome]
  simp

theorem stand_has {l : List RecB} (h : RRises l) (k : ByteArray) : hasL (standingL l) k = (hasL l k).filter (fun r => !r.gone) := by
  have hs : RRises (standingL l) := h.sublist List.filter_sublist
  apply Option.ext
  intro r
  rw [Option.filter_eq_some_iff]
  constructor
  · intro hh
    obtain ⟨h1, h2⟩ := has_some hh
    obtain ⟨h3, h4⟩ := List.mem_filter.1 h1
    exact ⟨h2 ▸ has_of_mem h h3, h4⟩
  · rintro ⟨h1, h2⟩
    obtain ⟨h3, h4⟩ := has_some h1
    rw [← h4]
    exact has_of_mem hs (List.mem_filter.2 ⟨h3, h2⟩)

end TB4

section THI

open Go.RowKit Go.Shelf

/-- one record more in the chain -/
def chStep (full : Bool) (M : List (ByteArray × RecB)) (r : RecB) : List (ByteArray × RecB) := if full && r.gone then del M r.key else put M r.key r

/-- what the map holds of the list -/
def seenC (full : Bool) (o : Option RecB) : Option RecB := if full then o.filter (fun r => !r.gone) else o

def outC (full : Bool) (L : List RecB) : List RecB := if full then standingL L else L

/-- the map beside the list -/
structure InvC (full : Bool) (M : List (ByteArray × RecB)) (L : List RecB) : Prop where
  rises : RRises L
  nodup : (M.map (·.1)).Nodup
  same : ∀ k, look M k = seenC full (hasL L k)

theorem InvC.zero (full : Bool) : InvC full [] [] := ⟨List.Pairwise.nil, List.nodup_nil, fun k => by cases full <;> rfl⟩

theorem del_nodup {β : Type} : ∀ {M : List (ByteArray × β)} (k : ByteArray), (M.map (·.1)).Nodup → ((del M k).map (·.1)).Nodup := fun {M} k h => by
  rw [del_filter M h k]
  exact h.sublist (List.filter_sublist.map _)

theorem put_nodup {β : Type} {M : List (ByteArray × β)} (k : ByteArray) (v : β) (h : (M.map (·.1)).Nodup) : ((put M k v).map (·.1)).Nodup := by
  cases hx : look M k with
  | some x => rw [keys_put_some hx]; exact h
  | none =>
    rw [put_none hx, List.map_append, List.nodup_append]
    refine ⟨h, by simp, fun a ha b hb e => ?_⟩
    obtain ⟨p, hp, rfl⟩ := List.mem_map.1 ha
    simp at hb
    exact look_none.1 hx p hp (by rw [e, hb])

theorem InvC.step {full : Bool} {M : List (ByteArray × RecB)} {L : List RecB} (h : InvC full M L) (r : RecB) : InvC full (chStep full M r) (placedL L r) := by
  refine ⟨placed_rises h.rises r, ?_, fun k => ?_⟩
  · unfold chStep
    split
    · exact del_nodup _ h.nodup
    · exact put_nodup _ _ h.nodup
  · rw [placed_has]
    unfold chStep
    split
    · rename_i hc
      simp only [Bool.and_eq_true] at hc
      rw [look_del M h.nodup]
      by_cases e : r.key = k
      · rw [if_pos e, if_pos e]
        unfold seenC
        rw [if_pos hc.1, Option.filter_some, hc.2]
        rfl
      · rw [if_neg e, if_neg e, h.same]
    · rename_i hc
      rw [look_put]
      by_cases e : r.key = k
      · rw [if_pos e, if_pos e]
        unfold seenC
        cases full with
        | false => rfl
        | true =>
          have hg : r.gone = false := by simpa using hc
          rw [if_pos rfl, Option.filter_some, hg]
          rfl
      · rw [if_neg e, if_neg e, h.same]

theorem InvC.steps {full : Bool} : ∀ (rs : List RecB) {M : List (ByteArray × RecB)} {L : List RecB}, InvC full M L → InvC full (rs.foldl (chStep full) M) (rs.foldl placedL L)
  | [], _, _, h => h
  | r :: rs, _, _, h => InvC.steps rs (h.step r)

theorem outC_rises {full : Bool} {L : List RecB} (h : RRises L) : RRises (outC full L) := by
  unfold outC
  split
  · exact h.sublist List.filter_sublist
  · exact h

theorem outC_has {full : Bool} {L : List RecB} (h : RRises L) (k : ByteArray) : hasL (outC full L) k = seenC full (hasL L k) := by
  unfold outC seenC
  split
  · exact stand_has h k
  · rfl

/-- the sorted keys' records are the document's list -/
theorem InvC.out {full : Bool} {M : List (ByteArray × RecB)} {L : List RecB} (h : InvC full M L) {ks : List ByteArray} (hr : Rises ks) (hp : ks.Perm (M.map (·.1))) : ks.map (look M) = (outC full L).map some := by
  have hO := outC_rises (full := full) h.rises
  have hs : ∀ k, look M k = hasL (outC full L) k := fun k => by rw [h.same, outC_has h.rises]
  have hk : ks = (outC full L).map RecB.key := by
    refine rises_ext hr (List.pairwise_map.2 hO) (fun k => ?_)
    rw [hp.mem_iff, ← has_isSome, ← hs]
    constructor
    · intro hk
      cases hx : look M k with
      | some x => rfl
      | none =>
        obtain ⟨p, hp1, hp2⟩ := List.mem_map.1 hk
        exact absurd hp2 (look_none.1 hx p hp1)
    · intro hk
      obtain ⟨x, hx⟩ := Option.isSome_iff_exists.1 hk
      exact List.mem_map.2 ⟨_, look_mem hx, rfl⟩
  rw [hk, List.map_map]
  apply List.map_congr_left
  intro r hr
  show look M r.key = some r
  rw [hs, has_of_mem hO hr]

end THI

end Go.Proofs.YtpagenipflmlfaaGreatDoor

/- stream.Chain: Add. -/

namespace Go.Proofs.YtpagenipflmlfaaGreatDoor

open Go.RowKit Go.Shelf Go.ChangeMaps Go.MapKept

attribute [local go_sem] Oper.semAt_some

/-- a chain of no stream -/
def ChNo (w : World) (cb : Nat) : Prop := w.heap[cb]? = some (.cells #[.bool false, .int .i64 0, .int .i64 0, .map none] 92 (0, 0))

def mapV (M : List (ByteArray × RecB)) : List (ByteArray × Value) := M.map fun p => (p.1, p.2.val)

/-- a chain with its map -/
structure ChAt (w : World) (cb mb : Nat) (full : Bool) (a b : Nat) (M : List (ByteArray × RecB)) : Prop where
  top : w.heap[cb]? = some (.cells #[.bool full, .int .i64 (a : Nat), .int .i64 (b : Nat), .map (some mb)] 92 (0, 0))
  map : MapAt Value.string w mb (mapV M)

theorem ChAt.kept {S : Nat → Prop} {w w' : World} {cb mb a b : Nat} {full : Bool} {M : List (ByteArray × RecB)} (h : ChAt w cb mb full a b M) (hk : Keeps S w w') (h1 : ¬ S cb) (h2 : ¬ S mb) : ChAt w' cb mb full a b M :=
  ⟨(hk.block cb (Array.getElem?_eq_some_iff.1 h.top).1 h1).trans h.top, h.map.kept hk h2⟩

theorem ChAt.ne {w : World} {cb mb a b : Nat} {full : Bool} {M : List (ByteArray × RecB)} (h : ChAt w cb mb full a b M) : cb ≠ mb := by
  rintro rfl
  obtain ⟨es, clock, hb, -⟩ := h.map
  rw [h.top] at hb
  cases hb

theorem mapV_put (M : List (ByteArray × RecB)) (r : RecB) : put (mapV M) r.key r.val = mapV (put M r.key r) := put_map RecB.val M r.key r

theorem mapV_del (M : List (ByteArray × RecB)) (k : ByteArray) : del (mapV M) k = mapV (del M k) := del_map RecB.val M k

/-- a row of records is no chain and no map -/
theorem Row.notCh {w : World} {cb mb a b : Nat} {full : Bool} {M : List (ByteArray × RecB)} {v : Value} {n : Nat} {xs : List Value} (h : ChAt w cb mb full a b M) (hr : Row w 147 3 v n xs) {g : Nat} (hg : v.ownBlock = some g) : ¬ (g = cb ∨ g = mb) := by
  rintro (rfl | rfl)
  · exact (hr.typeIs hg).ne (e' := 92) (by decide) ⟨_, h.top⟩
  · obtain ⟨c, hc⟩ := hr.typeIs hg
    obtain ⟨es, clock, hb, -⟩ := h.map
    rw [hc] at hb
    cases hb

theorem eqCh_some (b : Nat) (w : World) : (binOp BinOp.eql 90 (.map (some b)) (.map none)).run Tryz.prog w = .ok (.bool false) w := by kernel_rfl

theorem eqCh_none (w : World) : (binOp BinOp.eql 90 (.map none) (.map none)).run Tryz.prog w = .ok (.bool true) w := by kernel_rfl

/-- what Add leaves -/
def ChAddPost (cb : Nat) (S : Nat → Prop) (full : Bool) (a b : Nat) (M : List (ByteArray × RecB)) (w : World) (e : Ending) (w' : World) : Prop := e = .returned (.bool true) ∧ ∃ mb, ChAt w' cb mb full a b M ∧ (S mb ∨ w.heap.size ≤ mb) ∧ Keeps S w w'

set_option maxRecDepth 100000 in
set_option maxHeartbeats 2000000 in
theorem add_not (cb mb : Nat) (full xf : Bool) (a b xa xb : Nat) (M : List (ByteArray × RecB)) (vr : Value) (w : World) (h : ChAt w cb mb full a b M) (hv : ∃ o n c, vr = .slice o n c) (hn : xf = true ∨ xa ≠ b) :
    Calls Tryz.prog 38 #[.pointer (some ⟨cb, 0, none⟩), .agg #[.bool xf, .int .i64 (xa : Nat), .int .i64 (xb : Nat), vr]] w fun e w' => e = .returned (.bool false) ∧ Keeps (fun _ => False) w w' := by
  obtain ⟨o, n, c, rfl⟩ := hv
  have k0 := Keeps.alloc (fun _ => False) w (.cells #[.bool xf, .int .i64 (xa : Nat), .int .i64 (xb : Nat), .slice o n c] 84)
  have h0 := h.kept k0 (fun h => h) (fun h => h)
  have c0 := cell_of_heap h0.top 0
  have c2 := cell_of_heap h0.top 2
  have c3 := cell_of_heap h0.top 3
  simp at c0 c2 c3
  have hq := eqCh_some mb
  clear h0 h k0
  cases xf with
  | true =>
    clear hn
    go_enter Tryz.func38, Tryz.ntmps38
    go_wp2_with fail
    go_region
    go_wp2
    go_ret
    exact ⟨rfl, ((Keeps.refl _ w).al _).dr⟩
  | false =>
    have hne : xa ≠ b := by simpa using hn
    have hneI : ¬ ((xa : Int) = b) := by omega
    have hneB : ((xa : Int) == b) = false := by rw [beq_eq_false_iff_ne]; exact hneI
    clear hn hne
    go_enter Tryz.func38, Tryz.ntmps38
    go_wp2_with fail
    go_region
    go_wp2
    go_ret
    exact ⟨rfl, ((Keeps.refl _ w).al _).dr⟩

/-- a record more in the map -/
theorem ChAt.set {w w1 : World} {cb mb a b : Nat} {full : Bool} {M M' : List (ByteArray × RecB)} {o : Obj} (h : ChAt w cb mb full a b M) (hk : Keeps (fun _ => False) w w1) (hm : MapAt Value.string (setBlock w1 mb o) mb (mapV M')) : ChAt (setBlock w1 mb o) cb mb full a b M' :=
  ⟨((Keeps.setBlock w1 mb o).block cb (Nat.lt_of_lt_of_le (Array.getElem?_eq_some_iff.1 h.top).1 hk.size) (fun e => h.ne e)).trans ((hk.block cb (Array.getElem?_eq_some_iff.1 h.top).1 (fun h => h)).trans h.top), hm⟩

theorem ChAt.update {w : World} {cb mb a b : Nat} {full : Bool} {M : List (ByteArray × RecB)} (h : ChAt w cb mb full a b M) (r : RecB) : ∃ o, (Instr.mapUpdate 90 (.map (some mb)) (.string r.key) r.val).run Tryz.prog w = .ok () (setBlock w mb o) ∧ MapAt Value.string (setBlock w mb o) mb (mapV (put M r.key r)) := by
  obtain ⟨o, h1, h2⟩ := h.map.update strKeyOk Tryz.underlying90 Tryz.underlying9 r.key r.val
  rw [mapV_put] at h2
  exact ⟨o, h1, h2⟩

theorem ChAt.delete {w : World} {cb mb a b : Nat} {full : Bool} {M : List (ByteArray × RecB)} (h : ChAt w cb mb full a b M) (k : ByteArray) (ty : TypeId) : ∃ o, (Builtin.delete_ #[90, 9] ty #[.map (some mb), .string k]).run Tryz.prog w = .ok (.tuple #[]) (setBlock w mb o) ∧ MapAt Value.string (setBlock w mb o) mb (mapV (del M k)) := by
  obtain ⟨o, h1, h2⟩ := h.map.delete strKeyOk Tryz.underlying90 Tryz.underlying9 k ty
  rw [mapV_del] at h2
  exact ⟨o, h1, h2⟩

set_option maxRecDepth 100000 in
set_option maxHeartbeats 4000000 in
theorem add_next (cb mb : Nat) (full : Bool) (a b xb : Nat) (M : List (ByteArray × RecB)) (oa : Option Addr) (cap : Nat) (l : List RecB) (w : World) (h : ChAt w cb mb full a b M) (hr : Row w 147 3 (.slice oa l.length cap) l.length (recCs l)) (hl : l.length ≤ 1000) :
    Calls Tryz.prog 38 #[.pointer (some ⟨cb, 0, none⟩), .agg #[.bool false, .int .i64 (b : Nat), .int .i64 (xb : Nat), .slice oa l.length cap]] w (ChAddPost cb (fun j => j = cb ∨ j = mb) full a xb (l.foldl (chStep full) M) w) := by
  have k0 := Keeps.alloc (fun _ => False) w (.cells #[.bool false, .int .i64 (b : Nat), .int .i64 (xb : Nat), .slice oa l.length cap] 84)
  have h0 := h.kept k0 (fun h => h) (fun h => h)
  have c0 := cell_of_heap h0.top 0
  have c2 := cell_of_heap h0.top 2
  have c3 := cell_of_heap h0.top 3
  have f2 := frozen_of_heap h0.top 2
  simp at c0 c2 c3
  have hq := eqCh_some mb
  have HBX := hid (heap_new w (.cells #[.bool false, .int .i64 (b : Nat), .int .i64 (xb : Nat), .slice oa l.length cap] 84))
  have HC := hid h
  have HR := hid hr
  have HL := hid hl
  have hlI : (l.length : Int) ≤ 1000 := by omega
  clear h hr hl h0 k0
  go_enter Tryz.func38, Tryz.ntmps38
  go_wp2_with fail
  go_region
  go_wp2_with fail
  have H5 : Hid (ChAt ((w.alloc (.cells #[.bool false, .int .i64 (b : Nat), .int .i64 (xb : Nat), .slice oa l.length cap] 84)).setCell ⟨cb, 2, none⟩ (.int .i64 (xb : Nat))).drew cb mb full a xb M) := by
    have ka := Keeps.alloc (fun _ => False) w (.cells #[.bool false, .int .i64 (b : Nat), .int .i64 (xb : Nat), .slice oa l.length cap] 84)
    have h0 := HC.out.kept ka (fun h => h) (fun h => h)
    have ks := Keeps.setCell (w.alloc (.cells #[.bool false, .int .i64 (b : Nat), .int .i64 (xb : Nat), .slice oa l.length cap] 84)) ⟨cb, 2, none⟩ (.int .i64 (xb : Nat))
    exact ⟨(heap_setCell_same h0.top _).trans (by simp), h0.map.kept ks.dr (fun e => h0.ne (show mb = cb from e).symm)⟩
  have HK5 : Hid (Keeps (fun j => j = cb ∨ j = mb) w ((w.alloc (.cells #[.bool false, .int .i64 (b : Nat), .int .i64 (xb : Nat), .slice oa l.length cap] 84)).setCell ⟨cb, 2, none⟩ (.int .i64 (xb : Nat))).drew) := (((Keeps.refl (fun j => j = cb ∨ j = mb) w).al _).st (p := ⟨cb, 2, none⟩) (.inr (.inl rfl)) _).dr
  generalize ((w.alloc (.cells #[.bool false, .int .i64 (b : Nat), .int .i64 (xb : Nat), .slice oa l.length cap] 84)).setCell ⟨cb, 2, none⟩ (.int .i64 (xb : Nat))).drew = w5 at *
  have sa : 0 < l.length → ∃ g, oa = some ⟨g, 0, none⟩ := by
    obtain ⟨oa', ca', he, -, sa⟩ := HR.out.form
    cases he
    exact sa
  have SA := hid sa
  clear c0 c2 c3 f2 HBX sa
  go_loopw [39] (fun i wr => ∃ k : Nat, k ≤ l.length ∧ i = .int .i64 (k : Nat) ∧ ChAt wr cb mb full a xb ((l.take k).foldl (chStep full) M) ∧ Keeps (fun j => j = cb ∨ j = mb) w wr) (fun i _ => l.length - (intOf i).toNat)
  case atStart => exact ⟨0, Nat.zero_le _, rfl, H5.out, HK5.out⟩
  case round =>
    obtain ⟨k, hk, rfl, hC, hK⟩ := hrel
    have hkI : (k : Int) ≤ l.length := by omega
    have HCH := hid hC
    have HKK := hid hK
    by_cases hkl : k < l.length
    · obtain ⟨g, rfl⟩ := SA.out (by omega)
      have hrow : RecsAt wr (.slice (some ⟨g, 0, none⟩) l.length cap) l := HR.out.kept hK (fun g hg => Row.notCh HC.out HR.out hg)
      obtain ⟨r0, r1, r2⟩ := rec_cells hrow k hkl
      have hklI : (k : Int) < l.length := by omega
      have htk : (l.take (k + 1)).foldl (chStep full) M = chStep full ((l.take k).foldl (chStep full) M) l[k] := by rw [List.take_succ_eq_append_getElem hkl, List.foldl_append]; rfl
      have HTK := hid htk
      obtain ⟨y, hy⟩ : ∃ y, y = l[k] := ⟨_, rfl⟩
      rw [← hy] at r0 r1 r2 HTK
      obtain ⟨yk, yv, yg⟩ := y
      simp only at r0 r1 r2
      generalize (l.take k).foldl (chStep full) M = N at *
      have ka : Keeps (fun _ => False) wr (wr.alloc (.cells #[.string yk, .string yv, .bool yg] 147)) := Keeps.alloc _ _ _
      have hA := hC.kept ka (fun h => h) (fun h => h)
      have t0 := cell_of_heap hA.top 0
      have t3 := cell_of_heap hA.top 3
      simp at t0 t3
      have HKL := hid hkl
      have hB := hA.kept ((Keeps.refl (fun _ => False) _).dr) (fun h => h) (fun h => h)
      have HFIN : Hid (∀ W o M', Keeps (fun _ => False) wr W → MapAt Value.string (setBlock W mb o) mb (mapV M') → ChAt (setBlock W mb o) cb mb full a xb M' ∧ Keeps (fun j => j = cb ∨ j = mb) w (setBlock W mb o)) := fun W o M' h1 h2 => ⟨HCH.out.set h1 h2, (HKK.out.tr h1 (fun _ h => h.elim)).tr (Keeps.setBlock W mb o) (fun _ e => .inr e)⟩
      by_cases hfg : full = true ∧ yg = true
      · obtain ⟨rfl, rfl⟩ := hfg
        obtain ⟨o, ho1, ho2⟩ := hB.delete yk 0
        have HO := hid ho2
        have HCE : Hid (chStep true N ⟨yk, yv, true⟩ = del N yk) := rfl
        clear hC hK hrow htk hy hk hkl hA hB ho2 ka
        go_wp2_with fail
        go_region
        go_wp2
        have hf := HFIN.out _ o (del N yk) (((Keeps.refl (fun _ => False) wr).al _).dr) HO.out
        exact ⟨⟨k + 1, HKL.out, by go_num, by rw [HTK.out]; exact hf.1, hf.2⟩, by simp only [intOf]; have := HKL.out; omega⟩
      · obtain ⟨o, ho1, ho2⟩ := hB.update ⟨yk, yv, yg⟩
        have ho1' : (Instr.mapUpdate 90 (.map (some mb)) (.string yk) (.agg #[.string yk, .string yv, .bool yg])).run Tryz.prog (wr.alloc (.cells #[.string yk, .string yv, .bool yg] 147)).drew = .ok () (setBlock (wr.alloc (.cells #[.string yk, .string yv, .bool yg] 147)).drew mb o) := ho1
        have HO := hid ho2
        have HCE : Hid (chStep full N ⟨yk, yv, yg⟩ = put N yk ⟨yk, yv, yg⟩) := by
          show (if (full && yg) = true then _ else _) = _
          rw [if_neg (by rw [Bool.and_eq_true]; exact hfg)]
        have hcs : full = false ∨ (full = true ∧ yg = false) := by
          cases full with
          | false => exact .inl rfl
          | true =>
            cases yg with
            | false => exact .inr ⟨rfl, rfl⟩
            | true => exact absurd ⟨rfl, rfl⟩ hfg
        clear hC hK hrow htk hy hk hkl hA hB ho1 ho2 ka hfg
        rcases hcs with rfl | ⟨rfl, rfl⟩
        all_goals
          go_wp2_with fail
          go_region
          go_wp2
          have hf := HFIN.out _ o _ (((Keeps.refl (fun _ => False) wr).al _).dr) HO.out
          exact ⟨⟨k + 1, HKL.out, by go_num, by rw [HTK.out, HCE.out]; exact hf.1, hf.2⟩, by simp only [intOf]; have := HKL.out; omega⟩
    · have e : l.take k = l := List.take_of_length_le (by omega)
      rw [e] at HCH
      have hkn : ¬ ((k : Int) < l.length) := by omega
      clear hC hK e
      go_wp2
      go_ret
      exact ⟨rfl, mb, HCH.out, .inl (.inr rfl), HKK.out⟩

end Go.Proofs.YtpagenipflmlfaaGreatDoor
