import Derived.Test.YtkpaiaddikpdoaaGreatDoorM20

/- annalsref.Merge: what its loops keep. -/
namespace Go.Proofs.YtkpaiaddikpdoaaGreatDoor
open Go.RowKit Go.Shelf

/-- a stream that lies in a list -/
structure SV where
  s : Str
  o : Option Addr
  cp : Nat
def SV.cells (p : SV) : List Value := [.bool p.s.full, .int .i64 (p.s.a : Nat), .int .i64 (p.s.b : Nat), .slice p.o p.s.recs.length p.cp]
theorem SV.len (p : SV) : p.cells.length = 4 := rfl

theorem Tryz.infoStm : (Tryz.prog.info? 34).map (fun i => (i.zero, i.size, i.bytes)) = some (some (.agg #[.bool false, .int .i64 0, .int .i64 0, .slice none 0 0]), 4, 48) := by kernel_rfl

def SV.rowIn (w : World) (p : SV) : Prop := Row w 31 3 (.slice p.o p.s.recs.length p.cp) p.s.recs.length (recCs (p.s.recs.map recB))

/-- between two texts -/
structure RmAt (w : World) (ts : List ByteArray) (k : Nat) (v : Value) (sv : List SV) (wr : World) : Prop where
  le : k ≤ ts.length
  oks : ∀ t ∈ ts.take k, (okS t).isSome = true
  made : Made 34 4 SV.cells w wr v sv
  same : sv.map SV.s = (ts.take k).filterMap okS
  rows : ∀ p ∈ sv, p.rowIn wr
  strs : ∀ p ∈ sv, StrOk p.s

theorem RmAt.len {w : World} {ts : List ByteArray} {k : Nat} {v : Value} {sv : List SV} {wr : World} (h : RmAt w ts k v sv wr) : sv.length = k := by
  have h1 := congrArg List.length h.same
  rw [List.length_map, filterMap_len h.oks, List.length_take] at h1
  have := h.le
  omega

theorem RmAt.next {w : World} {ts : List ByteArray} {k : Nat} {v v' : Value} {sv : List SV} {wr W1 w' : World} {p : SV} (h : RmAt w ts k v sv wr) (hk : k < ts.length) (hs : readO ts[k].data.toList = .ok p.s) (hW : Keeps (fun _ => False) wr W1) (hr : Row w' 34 4 v' (sv.length + 1) (sv.flatMap SV.cells ++ p.cells)) (hg : W1.grownBy w' v.ownBlock)
    (ho : v'.ownBlock = v.ownBlock ∨ v'.ownBlock = some W1.heap.size) (hrow : p.rowIn W1) : RmAt w ts (k + 1) v' (sv ++ [p]) w' := by
  have e := okS_take hk (okS_some hs)
  have hty : ∀ j, some j = v.ownBlock → TypeIs W1 j 34 := fun j e => (h.made.row.kept hW (fun _ _ h => h)).typeIs e.symm
  have hkp : ∀ q : SV, q.rowIn W1 → q.rowIn w' := fun q hq => Row.kept hq (Keeps.grown hg) (fun g hgv e => (Row.typeIs hq hgv).ne (e' := 34) (by decide) (hty g e))
  refine ⟨hk, fun t ht => ?_, h.made.push hW hr hg ho, by rw [List.map_append, h.same, e]; rfl, fun q hq => ?_, fun q hq => ?_⟩
  · rw [List.take_succ_eq_append_getElem hk] at ht
    rcases List.mem_append.1 ht with ht | ht
    · exact h.oks t ht
    · rw [List.mem_singleton.1 ht, okS_some hs]
      rfl
  · rcases List.mem_append.1 hq with hq | hq
    · exact hkp q (Row.kept (h.rows q hq) hW (fun _ _ h => h))
    · rw [List.mem_singleton.1 hq]
      exact hkp p hrow
  · rcases List.mem_append.1 hq with hq | hq
    · exact h.strs q hq
    · rw [List.mem_singleton.1 hq]
      exact read_strOk hs

/-- the chain so far -/
def RoSt (ss : List Str) (i : Nat) (full : Bool) (a : Nat) (L : List RecB) : Prop := match chn (ss.take i) with
  | none => i = 0 ∧ L = []
  | some c => 0 < i ∧ c.follow = true ∧ c.full = full ∧ c.a = a ∧ c.L = L ∧ ∀ s, ss[i - 1]? = some s → c.b = s.b

theorem RoSt.zero (ss : List Str) (full : Bool) (a : Nat) : RoSt ss 0 full a [] := ⟨rfl, rfl⟩

theorem chn_take {ss : List Str} {i : Nat} {s : Str} (hs : ss[i]? = some s) : chn (ss.take (i + 1)) = chStep1 (chn (ss.take i)) s := by
  obtain ⟨hi, e⟩ := List.getElem?_eq_some_iff.1 hs
  rw [List.take_succ_eq_append_getElem hi, chn_snoc, e]

/-- the next one follows -/
theorem RoSt.next {ss : List Str} {i : Nat} {full : Bool} {a : Nat} {L : List RecB} {s : Str} (h : RoSt ss i full a L) (hs : ss[i]? = some s) (h0 : i = 0 → s.full = full ∧ s.a = a) (hg : 0 < i → s.full = false ∧ ∀ q, ss[i - 1]? = some q → s.a = q.b) : RoSt ss (i + 1) full a ((s.recs.map recB).foldl placedL L) := by
  unfold RoSt at h ⊢
  rw [chn_take hs]
  cases hc : chn (ss.take i) with
  | none =>
    rw [hc] at h
    obtain ⟨rfl, rfl⟩ := h
    obtain ⟨e1, e2⟩ := h0 rfl
    exact ⟨Nat.succ_pos _, rfl, e1, e2, rfl, fun q hq => by rw [Nat.add_sub_cancel, hs] at hq; cases hq; rfl⟩
  | some c =>
    rw [hc] at h
    obtain ⟨h1, h2, h3, h4, h5, h6⟩ := h
    obtain ⟨g1, g2⟩ := hg h1
    obtain ⟨q, hq⟩ : ∃ q, ss[i - 1]? = some q := ⟨_, List.getElem?_eq_getElem (by have := (List.getElem?_eq_some_iff.1 hs).1; omega)⟩
    have hgo : c.goes s := ⟨g1, by rw [g2 q hq, h6 q hq]⟩
    show 0 < i + 1 ∧ (c.add s).follow = true ∧ (c.add s).full = full ∧ (c.add s).a = a ∧ (c.add s).L = _ ∧ ∀ q, ss[i + 1 - 1]? = some q → (c.add s).b = q.b
    rw [Chn.add_yes h2 hgo]
    refine ⟨Nat.succ_pos _, rfl, h3, h4, by rw [← h5], fun q' hq' => ?_⟩
    rw [Nat.add_sub_cancel, hs] at hq'
    cases hq'
    rfl
/-- the next one does not -/
theorem RoSt.not {ss : List Str} {i : Nat} {full : Bool} {a : Nat} {L : List RecB} {s q : Str} (h : RoSt ss i full a L) (hi : 0 < i) (hs : ss[i]? = some s) (hq : ss[i - 1]? = some q) (hg : s.full = true ∨ s.a ≠ q.b) : mgS ss = (⟨#[]⟩, 8) := by
  unfold RoSt at h
  cases hc : chn (ss.take i) with
  | none => rw [hc] at h; have := h.1; omega
  | some c =>
    rw [hc] at h
    obtain ⟨h1, h2, h3, h4, h5, h6⟩ := h
    have e : chn (ss.take (i + 1)) = some (c.add s) := by rw [chn_take hs, hc]; rfl
    have hno : ¬ (c.follow = true ∧ c.goes s) := by
      rintro ⟨-, g1, g2⟩
      rcases hg with hg | hg
      · rw [hg] at g1; cases g1
      · exact hg (by rw [g2, h6 q hq])
    obtain ⟨d, hd, hdf⟩ := chn_bad e (by rw [Chn.add_no hno])
    unfold mgS
    rw [hd]
    show (if d.follow = true then _ else _) = _
    rw [hdf]
    rfl
/-- all follow -/
theorem RoSt.all {ss : List Str} {full : Bool} {a b : Nat} {L : List RecB} {s : Str} (h : RoSt ss ss.length full a L) (hs : ss[ss.length - 1]? = some s) (hb : s.b = b) : mgS ss = encR full a b (outC full L) := by
  unfold RoSt at h
  rw [List.take_of_length_le (Nat.le_refl _)] at h
  cases hc : chn ss with
  | none =>
    rw [hc] at h
    have h1 := (List.getElem?_eq_some_iff.1 hs).1
    have := h.1
    omega
  | some c =>
    rw [hc] at h
    obtain ⟨h1, h2, h3, h4, h5, h6⟩ := h
    unfold mgS
    rw [hc]
    show (if c.follow = true then _ else _) = _
    rw [if_pos h2, h3, h4, h5, h6 s hs, hb]

theorem RoSt.ok {ss : List Str} {i : Nat} {full : Bool} {a : Nat} {L : List RecB} (h : RoSt ss i full a L) (hs : ∀ s ∈ ss, StrOk s) (hi : i ≤ ss.length) : L.length ≤ i * 1000 ∧ ∀ r ∈ L, r.key.size ≤ 1000 ∧ r.value.size ≤ 1000 := by
  unfold RoSt at h
  cases hc : chn (ss.take i) with
  | none =>
    rw [hc] at h
    rw [h.2]
    exact ⟨Nat.zero_le _, fun r hr => by cases hr⟩
  | some c =>
    rw [hc] at h
    have := chn_ok i (ss.take i) (by rw [List.length_take]; omega) (fun s hs' => hs s (List.mem_of_mem_take hs')) c hc
    rw [← h.2.2.2.2.1]
    exact ⟨this.fewL, this.small⟩

/-- the stream that it makes -/
structure RoAt (w0 : World) (xb : Nat) (full : Bool) (a b : Nat) (v : Value) (L : List RecB) (wr : World) : Prop where
  top : wr.heap[xb]? = some (.cells #[.bool full, .int .i64 (a : Nat), .int .i64 (b : Nat), v] 34 (0, 0))
  row : Row wr 31 3 v L.length (recCs L)
  keep : Keeps (fun _ => False) w0 wr
  xbw : w0.heap.size ≤ xb

theorem RoAt.put {w0 : World} {xb : Nat} {full : Bool} {a b : Nat} {v v' : Value} {L L' : List RecB} {wr W : World} (h : RoAt w0 xb full a b v L wr) (hk : Keeps (fun _ => False) wr W) (hr : Row W 31 3 v' L'.length (recCs L')) : RoAt w0 xb full a b v' L' (W.setCell ⟨xb, 3, none⟩ v') := by
  have top1 := (hk.block xb (Array.getElem?_eq_some_iff.1 h.top).1 (fun h => h)).trans h.top
  have ks := Keeps.setCell W ⟨xb, 3, none⟩ v'
  refine ⟨(heap_setCell_same top1 _).trans (by simp), hr.kept ks (fun g hg e => (hr.typeIs hg).ne (e' := 34) (by decide) ((show g = xb from e) ▸ ⟨_, top1⟩)), (h.keep.tr hk (fun _ h => h)).trans ks (fun k hk e => ?_), h.xbw⟩
  have e' : k = xb := e
  have := h.xbw
  omega

theorem refEncode_all (full : Bool) (a b : Nat) (oa : Option Addr) (cap : Nat) (l : List RecB) (w : World) (hr : Row w 31 3 (.slice oa l.length cap) l.length (recCs l)) (hs : ∀ r ∈ l, r.key.size ≤ maxLen ∧ r.value.size ≤ maxLen) :
    Calls Tryz.prog 9 #[.agg #[.bool full, .int .i64 (a : Nat), .int .i64 (b : Nat), .slice oa l.length cap]] w fun e w' => e = .returned (.tuple #[.string (encR full a b l).1, .int .i64 ((encR full a b l).2 : Nat)]) ∧ Keeps (fun _ => False) w w' := by
  cases hj : judgeB full a b l with
  | true =>
    refine (refEncode_good full a b oa cap l w (RecIn.ofRow hr) hj).mono ?_
    rintro e w' ⟨rfl, hk⟩
    refine ⟨?_, hk⟩
    have e1 : encR full a b l = (ofL (streamL ⟨full, a, b, l.map RecB.rec_⟩), 0) := if_pos hj
    rw [e1]
    rfl
  | false =>
    refine (refEncode_bad full a b oa cap l w (RecIn.ofRow hr) hs hj).mono ?_
    rintro e w' ⟨rfl, hk⟩
    refine ⟨?_, hk⟩
    have e1 : encR full a b l = (⟨#[]⟩, 6) := if_neg (by rw [hj]; simp)
    rw [e1]
    rfl

end Go.Proofs.YtkpaiaddikpdoaaGreatDoor
