import Derived.Test.YtnkcmfbmkokjpaaDoorM09

/- Decode. -/

namespace Go.Proofs.YtnkcmfbmkokjpaaDoor

open Go.RowKit Go.Shelf

/-- what Decode says -/
def DecPost (x : RdO) (w : World) (e : Ending) (w' : World) : Prop := (match x with
  | none => e = .returned (.tuple #[strZ, .int .i64 0, .int .i64 7])
  | some (.inl p) => e = .returned (.tuple #[strZ, .int .i64 (p : Nat), .int .i64 6])
  | some (.inr s) => ∃ oa cap, e = .returned (.tuple #[.agg #[.bool s.full, .int .i64 (s.a : Nat), .int .i64 (s.b : Nat), .slice oa s.recs.length cap], .int .i64 0, .int .i64 0]) ∧ Row w' 33 3 (.slice oa s.recs.length cap) s.recs.length (recCs (s.recs.map recB)) ∧ ∀ g, (Value.slice oa s.recs.length cap).ownBlock = some g → w.heap.size ≤ g) ∧ Keeps (fun _ => False) w w'

theorem results_cell_two {fn : Func} {p u y : Tmp} {ty : TypeId} (h : fn.results = #[.cell p ty, .tmp u, .tmp y]) (tmps : Array Value) (P : Program) (w : World) :
    (results fn tmps).run P w = ((asAddr (tmps.getD p undef)).run P w).andThen fun a w₁ => ((loadVar ty a).run P w₁).andThen fun v w₂ => .ok (.tuple #[v, tmps.getD u undef, tmps.getD y undef]) w₂ := by
  simp only [results, h]
  simp [Sem.run_bind, Result.andThen]

set_option maxRecDepth 100000 in
set_option maxHeartbeats 4000000 in
theorem decode_any (text : ByteArray) (w : World) (hts : text.size ≤ 10000000000) (hg : Glob w) :
    Calls Tryd.prog 6 #[.string text] w (DecPost (readO text.data.toList) w) := by
  have k0 := Keeps.alloc (fun _ => False) w (.cells #[.bool false, .int .i64 0, .int .i64 0, .slice none 0 0] 25)
  have hg0 := hg.kept k0
  have HR := hid (read_any text (w.alloc (.cells #[.bool false, .int .i64 0, .int .i64 0, .slice none 0 0] 25)) hts hg0.zero hg0.errs hg0.turns)
  have HG := hid hg0
  have HD : Hid (ResZ (w.alloc (.cells #[.bool false, .int .i64 0, .int .i64 0, .slice none 0 0] 25)) w.heap.size) := heap_new w _
  have HK := hid k0
  generalize readO text.data.toList = res at *
  obtain ⟨W, hW⟩ : ∃ W, W = w.alloc (.cells #[.bool false, .int .i64 0, .int .i64 0, .slice none 0 0] 25) := ⟨_, rfl⟩
  rw [← hW] at HR HG HD HK
  have HW := hid hW
  have HZ : Hid (w.heap.size < W.heap.size) := (Array.getElem?_eq_some_iff.1 HD.out).1
  clear hts hg hg0 k0 hW
  go_enter Tryd.func6, Tryd.ntmps6
  go_wp2_with fail
  rw [← HW.out]
  refine HR.out.mono ?_
  clear HR
  rcases res with _ | p | s
  · rintro e w2 ⟨⟨v, rfl, b, t, u, rfl, hb, hc, hs⟩, k2⟩
    obtain ⟨⟨a, h1, -, -⟩, -, -⟩ := HG.out
    rw [h1] at hs
    simp only [Option.some.injEq, Value.iface.injEq] at hs
    obtain ⟨rfl, rfl⟩ := hs
    have k3 : Keeps (fun _ => False) w2 (w2.alloc (.cells #[.bool false, .int .i64 0, .int .i64 0, .slice none 0 0] 25)) := (Keeps.refl _ _).al _
    have hd3 := (HD.out.kept k2 (fun h => h)).kept k3 (fun h => h)
    obtain ⟨a0, a1, a2, a3, b0, b1, b2, b3, s0, s1, s2, s3⟩ := hd3.facts
    have g0 := k3.cell (k2.cell h1 (fun h => h)) (fun h => h)
    have HI := hid (is_sum b a (w2.alloc (.cells #[.bool false, .int .i64 0, .int .i64 0, .slice none 0 0] 25)) (k3.cell (cell_of_heap hc 1) (fun h => h)))
    have HK3 := hid ((HK.out.tr k2 (fun _ h => h)).tr k3 (fun _ h => h))
    clear k3 hd3 k2 h1 hc hb
    unfold strZ
    go_wp2_with (go_at_call 12; go_must (refine HI.out.mono ?_; rintro e w3 ⟨rfl, rfl⟩))
    refine bodyPost_ret (v := .tuple #[strZ, .int .i64 0, .int .i64 7]) ?_ rfl ?_
    · unfold strZ
      rw [results_cell_two rfl]
      go_simp
    · exact ⟨rfl, HK3.out⟩
  · rintro e w2 ⟨⟨v, rfl, b, t, u, g, rfl, hb, hc, hn, hs⟩, k2⟩
    obtain ⟨⟨a, h1, h2, h3⟩, -, -⟩ := HG.out
    obtain ⟨c, c1, c2, c3⟩ := h3 g hn
    rw [c1] at hs
    simp only [Option.some.injEq, Value.iface.injEq] at hs
    obtain ⟨rfl, rfl⟩ := hs
    have k3 : Keeps (fun _ => False) w2 (w2.alloc (.cells #[.bool false, .int .i64 0, .int .i64 0, .slice none 0 0] 25)) := (Keeps.refl _ _).al _
    have hd3 := (HD.out.kept k2 (fun h => h)).kept k3 (fun h => h)
    have g0 := k3.cell (k2.cell h1 (fun h => h)) (fun h => h)
    obtain ⟨ca, ta, d1⟩ := cells_kept (cells_kept c3 k2) k3
    obtain ⟨cb, tb, d2⟩ := cells_kept (cells_kept h2 k2) k3
    have hc3 := (k3.block b (Array.getElem?_eq_some_iff.1 hc).1 (fun h => h)).trans hc
    have HI := hid (is_not_sum b a c ca cb ta tb (w2.alloc (.cells #[.bool false, .int .i64 0, .int .i64 0, .slice none 0 0] 25)) (cell_of_heap hc3 1) c2 d1 d2)
    have HP := hid (placeOf_any b p _ (w2.alloc (.cells #[.bool false, .int .i64 0, .int .i64 0, .slice none 0 0] 25)) ((HG.out.kept k2).kept k3) hc3)
    have HD3 := hid hd3
    have HK3 := hid ((HK.out.tr k2 (fun _ h => h)).tr k3 (fun _ h => h))
    clear k3 hd3 k2 h1 h2 h3 hc hb c1 c2 c3 d1 d2 hc3
    unfold strZ
    go_wp2_with (first
      | (go_at_call 12; go_must (refine HI.out.mono ?_; rintro e w3 ⟨rfl, rfl⟩))
      | (go_at_call 13; go_must (refine HP.out.mono ?_; rintro e w4 ⟨rfl, k4⟩; obtain ⟨a0, a1, a2, a3, b0, b1, b2, b3, s0, s1, s2, s3⟩ := (HD3.out.kept k4 (fun h => h)).facts; have HK4 := hid (HK3.out.tr k4 (fun _ h => h)); clear k4)))
    refine bodyPost_ret (v := .tuple #[strZ, .int .i64 (p : Nat), .int .i64 6]) ?_ rfl ?_
    · unfold strZ
      rw [results_cell_two rfl]
      go_simp
    · exact ⟨rfl, HK4.out⟩
  · rintro e w2 ⟨⟨oa, cap, rfl, row, own2⟩, k2⟩
    have HOW : Hid (∀ g, (Value.slice oa 0 cap).ownBlock = some g → w.heap.size ≤ g) := fun g hg => Nat.le_trans (Nat.le_of_lt HZ.out) (own2 g ((own_len oa _ 0 cap).trans hg))
    obtain ⟨X, hX⟩ : ∃ X, X = w2.alloc (.cells #[.bool s.full, .int .i64 (s.a : Nat), .int .i64 (s.b : Nat), .slice oa s.recs.length cap] 25) := ⟨_, rfl⟩
    have k3 : Keeps (fun _ => False) w2 (w2.alloc (.cells #[.bool s.full, .int .i64 (s.a : Nat), .int .i64 (s.b : Nat), .slice oa s.recs.length cap] 25)) := (Keeps.refl _ _).al _
    have hd3 := (HD.out.kept k2 (fun h => h)).kept k3 (fun h => h)
    have HD3 := hid hd3
    have HRW := hid (row.kept k3 (fun _ _ h => h))
    have HK3 := hid ((HK.out.tr k2 (fun _ h => h)).tr k3 (fun _ h => h))
    obtain ⟨a0, a1, a2, a3, b0, b1, b2, b3, -, -, -, -⟩ := hd3.facts
    clear hX X k3 hd3 row k2 own2
    generalize hlen : s.recs.length = len at *
    go_wp2
    refine bodyPost_ret (v := .tuple #[.agg #[.bool s.full, .int .i64 (s.a : Nat), .int .i64 (s.b : Nat), .slice oa len cap], .int .i64 0, .int .i64 0]) ?_ rfl ?_
    · rw [results_cell_two rfl]
      go_simp
    · refine ⟨⟨oa, cap, by rw [hlen], ?_, fun g hg => HOW.out g ((own_len oa 0 _ cap).trans hg)⟩, HK3.out.trans (four_set _ w.heap.size _ _ _ _) (fun k hk e => by have e' : k = w.heap.size := e; omega)⟩
      rw [hlen]
      exact HRW.out.kept (four_set _ w.heap.size _ _ _ _) (fun i hi e => (HRW.out.typeIs hi).ne (e' := 25) (by decide) ⟨_, (show i = w.heap.size from e) ▸ HD3.out⟩)

end Go.Proofs.YtnkcmfbmkokjpaaDoor

/- sorted: records with one more. -/

namespace Go.Proofs.YtnkcmfbmkokjpaaDoor

open Go.RowKit Go.Shelf

theorem run_gtr_s {P : Program} {t : TypeId} (x y : ByteArray) (w : World) : (binOp BinOp.gtr t (.string x) (.string y)).run P w = .ok (.bool (ltK y x)) w := by
  have h := gtr_str x y
  simp [binOp, Op.stringOp]
  exact h

/-- what has come out of the first k, is the new one in? -/
def InsMid (l : List RecB) (r : RecB) (k : Nat) (o : List RecB) (t : Bool) : Prop :=
  if t = true then ∃ a y b, l.take k = a ++ y :: b ∧ o = a ++ r :: y :: b ∧ (∀ x ∈ a, ltK r.key x.key = false) ∧ ltK r.key y.key = true
  else o = l.take k ∧ ∀ x ∈ l.take k, ltK r.key x.key = false

/-- the new one is in -/
def Ins (l : List RecB) (r : RecB) (o : List RecB) : Prop := ∃ a b, l = a ++ b ∧ o = a ++ r :: b ∧ (∀ x ∈ a, ltK r.key x.key = false) ∧ ∀ y, b.head? = some y → ltK r.key y.key = true

theorem InsMid.len {l : List RecB} {r : RecB} {k : Nat} {o : List RecB} {t : Bool} (h : InsMid l r k o t) (hk : k ≤ l.length) : o.length = k + t.toNat := by
  unfold InsMid at h
  cases t with
  | true =>
    obtain ⟨a, y, b, h1, h2, -⟩ := h
    have h3 := congrArg List.length h1
    rw [List.length_take, Nat.min_eq_left hk] at h3
    rw [h2]
    simp at h3 ⊢
    omega
  | false =>
    have h1 := h.1
    rw [h1, List.length_take, Nat.min_eq_left hk]
    rfl

theorem InsMid.on {l : List RecB} {r : RecB} {k : Nat} {o : List RecB} (h : InsMid l r k o true) {x : RecB} (hx : l[k]? = some x) : InsMid l r (k + 1) (o ++ [x]) true := by
  obtain ⟨hk, rfl⟩ := List.getElem?_eq_some_iff.1 hx
  obtain ⟨a, y, b, h1, h2, h3, h4⟩ := h
  refine ⟨a, y, b ++ [l[k]], ?_, ?_, h3, h4⟩
  · rw [List.take_succ_eq_append_getElem hk, h1]
    simp
  · rw [h2]
    simp

theorem InsMid.put {l : List RecB} {r : RecB} {k : Nat} {o : List RecB} (h : InsMid l r k o false) {x : RecB} (hx : l[k]? = some x) (hlt : ltK r.key x.key = true) : InsMid l r (k + 1) ((o ++ [r]) ++ [x]) true := by
  obtain ⟨hk, rfl⟩ := List.getElem?_eq_some_iff.1 hx
  obtain ⟨h1, h2⟩ := h
  refine ⟨l.take k, l[k], [], ?_, ?_, h2, hlt⟩
  · rw [List.take_succ_eq_append_getElem hk]
  · rw [h1]
    simp

theorem InsMid.by {l : List RecB} {r : RecB} {k : Nat} {o : List RecB} (h : InsMid l r k o false) {x : RecB} (hx : l[k]? = some x) (hlt : ltK r.key x.key = false) : InsMid l r (k + 1) (o ++ [x]) false := by
  obtain ⟨hk, rfl⟩ := List.getElem?_eq_some_iff.1 hx
  obtain ⟨h1, h2⟩ := h
  refine ⟨?_, fun x hx => ?_⟩
  · rw [List.take_succ_eq_append_getElem hk, h1]
  · rw [List.take_succ_eq_append_getElem hk] at hx
    rcases List.mem_append.1 hx with hx | hx
    · exact h2 x hx
    · rw [List.mem_singleton.1 hx]
      exact hlt

theorem InsMid.in_ {l : List RecB} {r : RecB} {k : Nat} {o : List RecB} (h : InsMid l r k o true) (hk : l.length ≤ k) : Ins l r o := by
  obtain ⟨a, y, b, h1, h2, h3, h4⟩ := h
  rw [List.take_of_length_le hk] at h1
  exact ⟨a, y :: b, h1, h2, h3, fun z hz => by simp at hz; rw [← hz]; exact h4⟩

theorem InsMid.last {l : List RecB} {r : RecB} {k : Nat} {o : List RecB} (h : InsMid l r k o false) (hk : l.length ≤ k) : Ins l r (o ++ [r]) := by
  obtain ⟨h1, h2⟩ := h
  rw [List.take_of_length_le hk] at h1 h2
  exact ⟨l, [], by simp, by rw [h1], h2, fun y hy => by simp at hy⟩

theorem Made.from_ {α : Type} {e : TypeId} {size : Nat} {f : α → List Value} {w w0 W : World} {v : Value} {l : List α} (h : Made e size f w0 W v l) (hk : Keeps (fun _ => False) w w0) : Made e size f w W v l :=
  ⟨h.row, fun g hg => Nat.le_trans hk.size (h.own g hg), hk.tr h.keep (fun _ h => h)⟩

theorem RecIn.at_ {w W : World} {g cap k : Nat} {l : List RecB} (h : Row w 33 3 (.slice (some ⟨g, 0, none⟩) l.length cap) l.length (recCs l)) (hW : Keeps (fun _ => False) w W) {x : RecB} (hx : l[k]? = some x) :
    W.cell? ⟨g, k * 3, none⟩ = some (.string x.key) ∧ W.cell? ⟨g, k * 3 + 1, none⟩ = some (.string x.value) ∧ W.cell? ⟨g, k * 3 + 2, none⟩ = some (.bool x.gone) := by
  obtain ⟨hk, rfl⟩ := List.getElem?_eq_some_iff.1 hx
  obtain ⟨g', off, e, h1, h2, h3⟩ := RecIn.ofRow (h.kept hW (fun _ _ h => h)) k hk
  simp only [Option.some.injEq, Addr.mk.injEq] at e
  obtain ⟨rfl, rfl, -⟩ := e
  simp only [Nat.zero_add] at h1 h2 h3
  exact ⟨h1, h2, h3⟩

set_option maxRecDepth 100000 in
set_option maxHeartbeats 2000000 in
theorem sorted_any (v : Value) (l : List RecB) (r : RecB) (w : World) (h : Row w 33 3 v l.length (recCs l)) (hl : l.length < 1000) :
    Calls Tryd.prog 9 #[v, r.val] w fun e w' => ∃ v' o, e = .returned v' ∧ Ins l r o ∧ Made 33 3 RecB.cells w w' v' o := by
  obtain ⟨oa, ca, rfl, hm, sa⟩ := Row.form h
  obtain ⟨i0, hi, hz0, hz1, hz2⟩ := info_parts Tryd.infoRec
  obtain ⟨rk, rv, rg⟩ := r
  simp only [RecB.val]
  have HR := hid (Row.kept h (Keeps.alloc (fun _ => False) w (.cells #[.string rk, .string rv, .bool rg] 33)) (fun _ _ h => h))
  have SA := hid sa
  have HL := hid hl
  have HBX := hid (heap_new w (.cells #[.string rk, .string rv, .bool rg] 33))
  have hK0 : Keeps (fun _ => False) w (w.alloc (.cells #[.string rk, .string rv, .bool rg] 33)) := Keeps.alloc _ _ _
  have hlI : (l.length : Int) < 1000 := by omega
  unfold maxLen at hm
  clear h sa hl
  go_enter Tryd.func9, Tryd.ntmps9
  go_wp2_with fail
  go_loopw [5, 6, 7] (fun v' b i wr => ∃ (k : Nat) (o : List RecB) (t : Bool), k ≤ l.length ∧ i = .int .i64 k ∧ b = .bool t ∧ InsMid l ⟨rk, rv, rg⟩ k o t ∧ Made 33 3 RecB.cells (w.alloc (.cells #[.string rk, .string rv, .bool rg] 33)) wr v' o) (fun _ _ i _ => l.length - (intOf i).toNat)
  case atStart => exact ⟨0, [], false, Nat.zero_le _, rfl, rfl, ⟨by simp, by simp⟩, Made.nil (Keeps.refl _ _)⟩
  case round =>
    obtain ⟨k, o, t, hk, rfl, rfl, hp, hM⟩ := hrel
    obtain ⟨ob, cb, rfl, -, -⟩ := hM.row.form
    have HM := hid hM
    have HP := hid hp
    have hbx := (hM.keep.block w.heap.size (by simp) (fun h => h)).trans HBX.out
    have b0 := cell_of_heap hbx 0
    have b1 := cell_of_heap hbx 1
    have b2 := cell_of_heap hbx 2
    simp at b0 b1 b2
    have hzr : w.heap.size < wr.heap.size := (Array.getElem?_eq_some_iff.1 hbx).1
    have hoe := hp.len hk
    have hol : (o.length : Int) ≤ k + 1 := by cases t <;> simp at hoe <;> omega
    have HOE := hid hoe
    have hkI : (k : Int) < 1000 := by omega
    clear hM hbx hp hoe
    by_cases hlt : k < l.length
    · obtain ⟨g, rfl⟩ := SA.out (by omega)
      obtain ⟨⟨xk, xv, xg⟩, hx⟩ : ∃ x, l[k]? = some x := ⟨l[k], List.getElem?_eq_getElem hlt⟩
      obtain ⟨c0, c1, c2⟩ := RecIn.at_ HR.out HM.out.keep hx
      have HLT := hid hlt
      have hltI : (k : Int) < l.length := by omega
      have HON : Hid (t = true → InsMid l ⟨rk, rv, rg⟩ (k + 1) (o ++ [⟨xk, xv, xg⟩]) true) := fun e => by subst e; exact HP.out.on hx
      have HPUT : Hid (t = false → ltK rk xk = true → InsMid l ⟨rk, rv, rg⟩ (k + 1) ((o ++ [⟨rk, rv, rg⟩]) ++ [⟨xk, xv, xg⟩]) true) := fun e h => by subst e; exact HP.out.put hx h
      have HBY : Hid (t = false → ltK rk xk = false → InsMid l ⟨rk, rv, rg⟩ (k + 1) (o ++ [⟨xk, xv, xg⟩]) false) := fun e h => by subst e; exact HP.out.by hx h
      have HX := hid hx
      clear hx
      have hgt : ∀ W, (binOp BinOp.gtr 9 (.string xk) (.string rk)).run Tryd.prog W = .ok (.bool (ltK rk xk)) W := fun W => run_gtr_s _ _ _
      clear SA HBX hlt
      cases t with
      | true =>
        have HQ := hid (HON.out rfl)
        clear HBY HPUT HON
        go_wp2_with fail
        go_region
        go_wp2_with (first | (at_builtin; go_must (refine wpList_append_row _ rfl _ _ 23 rfl 33 i0 _ 3 40 Tryd.underlying23 hi hz0 hz1 hz2 rfl (.slice ob o.length cb) o.length _ rfl (HM.out.row.kept ((Keeps.refl (fun _ => False) wr).dr.al _) (fun _ _ h => h)) ⟨wr.heap.size, 0, none⟩ 1 1 [.string xk, .string xv, .bool xg] rfl rfl (news_arr _ #[.string xk, .string xv, .bool xg] _) (by simp [Value.oneCell']) (by have := HL.out; unfold maxLen; omega) (by have := HL.out; omega) ?_; intro v' w1 hown' hgrow _ hat; obtain ⟨g1, cp1, rfl⟩ := hown'.succ; have HN1 := hid (HM.out.push (a := ⟨xk, xv, xg⟩) ((Keeps.refl (fun _ => False) wr).dr.al _) hown' hgrow hat); have hsz_HN1 := HN1.out.keep.size; clear hown' hgrow hat)) | fail)
        exact ⟨⟨k + 1, o ++ [⟨xk, xv, xg⟩], true, HLT.out, by go_num, rfl, HQ.out, HN1.out.slice (by simp)⟩, by simp only [intOf]; have := HLT.out; omega⟩
      | false =>
        cases hltk : ltK rk xk with
        | false =>
          rw [hltk] at hgt
          have HQ := hid (HBY.out rfl hltk)
          clear hltk HBY HPUT HON
          go_wp2_with fail
          go_region
          go_wp2_with (first | (at_builtin; go_must (refine wpList_append_row _ rfl _ _ 23 rfl 33 i0 _ 3 40 Tryd.underlying23 hi hz0 hz1 hz2 rfl (.slice ob o.length cb) o.length _ rfl (HM.out.row.kept ((Keeps.refl (fun _ => False) wr).dr.al _) (fun _ _ h => h)) ⟨wr.heap.size, 0, none⟩ 1 1 [.string xk, .string xv, .bool xg] rfl rfl (news_arr _ #[.string xk, .string xv, .bool xg] _) (by simp [Value.oneCell']) (by have := HL.out; unfold maxLen; omega) (by have := HL.out; omega) ?_; intro v' w1 hown' hgrow _ hat; obtain ⟨g1, cp1, rfl⟩ := hown'.succ; have HN1 := hid (HM.out.push (a := ⟨xk, xv, xg⟩) ((Keeps.refl (fun _ => False) wr).dr.al _) hown' hgrow hat); have hsz_HN1 := HN1.out.keep.size; clear hown' hgrow hat)) | fail)
          exact ⟨⟨k + 1, o ++ [⟨xk, xv, xg⟩], false, HLT.out, by go_num, rfl, HQ.out, HN1.out.slice (by simp)⟩, by simp only [intOf]; have := HLT.out; omega⟩
        | true =>
          rw [hltk] at hgt
          have HQ := hid (HPUT.out rfl hltk)
          clear hltk HBY HPUT HON
          go_wp2_with fail
          go_region
          go_upto_region 9 with ((at_builtin; go_must (refine wpList_append_row _ rfl _ _ 23 rfl 33 i0 _ 3 40 Tryd.underlying23 hi hz0 hz1 hz2 rfl (.slice ob o.length cb) o.length _ rfl (HM.out.row.kept ((Keeps.refl (fun _ => False) wr).dr.al _) (fun _ _ h => h)) ⟨wr.heap.size, 0, none⟩ 1 1 [.string rk, .string rv, .bool rg] rfl rfl (news_arr _ #[.string rk, .string rv, .bool rg] _) (by simp [Value.oneCell']) (by have := HL.out; unfold maxLen; omega) (by have := HL.out; omega) ?_; intro v' w1 hown' hgrow _ hat; obtain ⟨g1, cp1, rfl⟩ := hown'.succ; have HN1 := hid (HM.out.push (a := ⟨rk, rv, rg⟩) ((Keeps.refl (fun _ => False) wr).dr.al _) hown' hgrow hat); have hsz_HN1 := HN1.out.keep.size; clear hown' hgrow hat; obtain ⟨y0, y1, y2⟩ := RecIn.at_ HR.out HN1.out.keep HX.out; clear c0 c1 c2)))
          have HN1' := hid (HN1.out.slice (v' := .slice (some ⟨g1, 0, none⟩) (o.length + 1) cp1) (by simp))
          obtain ⟨o1, ho1⟩ : ∃ o1, o1 = o ++ [⟨rk, rv, rg⟩] := ⟨_, rfl⟩
          have hl1 : o.length + 1 = o1.length := by rw [ho1]; simp
          rw [hl1] at HN1' ⊢
          rw [← ho1] at HN1' HQ
          have hol1 : (o1.length : Int) < 1002 := by omega
          clear HN1 ho1
          go_wp2_with (first | (at_builtin; go_must (refine wpList_append_row _ rfl _ _ 23 rfl 33 i0 _ 3 40 Tryd.underlying23 hi hz0 hz1 hz2 rfl (.slice (some ⟨g1, 0, none⟩) o1.length cp1) o1.length _ rfl (HN1'.out.row.kept (Keeps.alloc (fun _ => False) w1 _) (fun _ _ h => h)) ⟨w1.heap.size, 0, none⟩ 1 1 [.string xk, .string xv, .bool xg] rfl rfl (news_arr _ #[.string xk, .string xv, .bool xg] _) (by simp [Value.oneCell']) (by have := HL.out; unfold maxLen; omega) (by have := HL.out; omega) ?_; intro v' w2 hown' hgrow _ hat; obtain ⟨g1b, cp1b, rfl⟩ := hown'.succ; have HN2 := hid (HN1'.out.push (a := ⟨xk, xv, xg⟩) (Keeps.alloc (fun _ => False) w1 _) hown' hgrow hat); have hsz_HN2 := HN2.out.keep.size; clear hown' hgrow hat)) | fail)
          exact ⟨⟨k + 1, o1 ++ [⟨xk, xv, xg⟩], true, HLT.out, by go_num, rfl, HQ.out, HN2.out.slice (by simp)⟩, by simp only [intOf]; have := HLT.out; omega⟩
    · have hge : l.length ≤ k := by omega
      have hnI : ¬ ((k : Int) < l.length) := by omega
      have HGE := hid hge
      clear hlt hge
      cases t with
      | true =>
        go_wp2
        go_ret
        exact ⟨_, rfl, o, HP.out.in_ HGE.out, HM.out.from_ hK0⟩
      | false =>
        go_wp2_with (first | (at_builtin; go_must (refine wpList_append_row _ rfl _ _ 23 rfl 33 i0 _ 3 40 Tryd.underlying23 hi hz0 hz1 hz2 rfl (.slice ob o.length cb) o.length _ rfl (HM.out.row.kept (Keeps.alloc (fun _ => False) wr _) (fun _ _ h => h)) ⟨wr.heap.size, 0, none⟩ 1 1 [.string rk, .string rv, .bool rg] rfl rfl (news_arr _ #[.string rk, .string rv, .bool rg] _) (by simp [Value.oneCell']) (by have := HL.out; unfold maxLen; omega) (by have := HL.out; omega) ?_; intro v' w1 hown' hgrow _ hat; obtain ⟨g1, cp1, rfl⟩ := hown'.succ; have HN1 := hid (HM.out.push (a := ⟨rk, rv, rg⟩) (Keeps.alloc (fun _ => False) wr _) hown' hgrow hat); have hsz_HN1 := HN1.out.keep.size; clear hown' hgrow hat)) | fail)
        go_ret
        exact ⟨_, rfl, o ++ [⟨rk, rv, rg⟩], HP.out.last HGE.out, (HN1.out.slice (by simp)).from_ hK0⟩

end Go.Proofs.YtnkcmfbmkokjpaaDoor

/- pick, cut, raw steps. -/

namespace Go.Proofs.YtnkcmfbmkokjpaaDoor

open Go.RowKit Go.Shelf

theorem ret_string {a b : ByteArray} (h : a = b) : Ending.returned (.string a) = .returned (.string b) := by rw [h]

theorem extract_all (s : ByteArray) (n : Nat) (h : s.size ≤ n) : s.extract 0 n = s := by
  apply ByteArray.ext
  simp only [ByteArray.data_extract]
  rw [Array.extract_eq_self_of_le]
  exact h

/-- which of n things a raw number speaks of -/
def pickZ (c : Int) (n : Int) : Int := if c < 0 then (-(c + 1)) % n else c % n

theorem pick_any (c n : Int) (w : World) (hc : -9223372036854775808 ≤ c ∧ c ≤ 9223372036854775807) (hn : 1 ≤ n ∧ n ≤ 1000000) :
    Calls Tryd.prog 7 #[.int .i64 c, .int .i64 n] w fun e w' => e = .returned (.int .i64 (pickZ c n)) ∧ w' = w := by
  obtain ⟨h1, h2⟩ := hc
  obtain ⟨h3, h4⟩ := hn
  go_enter Tryd.func7, Tryd.ntmps7
  go_wp2
  all_goals go_ret
  · refine ⟨ret_int ?_, rfl⟩
    unfold pickZ
    rw [if_pos (by assumption), ← Int.neg_tmod, Int.tmod_eq_emod_of_nonneg (by omega)]
  · refine ⟨ret_int ?_, rfl⟩
    unfold pickZ
    rw [if_neg (by omega)]

theorem cut_any (s : ByteArray) (w : World) (hs : s.size ≤ maxLen) :
    Calls Tryd.prog 8 #[.string s] w fun e w' => e = .returned (.string (s.extract 0 40)) ∧ w' = w := by
  unfold maxLen at hs
  go_enter Tryd.func8, Tryd.ntmps8
  go_wp2
  all_goals go_ret
  · exact ⟨rfl, rfl⟩
  · refine ⟨ret_string ?_, rfl⟩
    rw [extract_all s 40 (by omega)]

/-- a raw step -/
structure RawStep where
  what : Int
  key : Int
  value : ByteArray

/-- A list of raw steps lies so. -/
def StepsAt (w : World) (oa : Option Addr) (n : Nat) (S : Nat → RawStep) : Prop :=
  ∀ i, i < n → ∃ b off, oa = some ⟨b, off, none⟩ ∧ b < w.heap.size ∧ w.cell? ⟨b, off + i * 3, none⟩ = some (.int .i64 (S i).what) ∧ w.cell? ⟨b, off + i * 3 + 1, none⟩ = some (.int .i64 (S i).key) ∧ w.cell? ⟨b, off + i * 3 + 2, none⟩ = some (.string (S i).value) ∧
    (-9223372036854775808 ≤ (S i).what ∧ (S i).what ≤ 9223372036854775807) ∧ (-9223372036854775808 ≤ (S i).key ∧ (S i).key ≤ 9223372036854775807) ∧ (S i).value.size ≤ maxLen

theorem StepsAt.kept {w w' : World} {oa : Option Addr} {n : Nat} {S : Nat → RawStep} (h : StepsAt w oa n S) (hk : Keeps (fun _ => False) w w') : StepsAt w' oa n S := fun i hi => by
  obtain ⟨b, off, e, hb, h1, h2, h3, h4⟩ := h i hi
  exact ⟨b, off, e, Nat.lt_of_lt_of_le hb hk.size, hk.cell h1 (fun h => h), hk.cell h2 (fun h => h), hk.cell h3 (fun h => h), h4⟩

theorem fin12 {P : Int → Prop} (h : ∀ k : Fin 12, P (k.val : Int)) {k : Int} (h0 : 0 ≤ k) (h1 : k < 12) : P k := by
  have := h ⟨k.toNat, by omega⟩
  simp only at this
  have e : (k.toNat : Int) = k := by omega
  rwa [e] at this

theorem pick_lt (c : Int) {n : Int} (hn : 1 ≤ n) : 0 ≤ pickZ c n ∧ pickZ c n < n := by
  unfold pickZ
  split
  · exact ⟨Int.emod_nonneg _ (by omega), Int.emod_lt_of_pos _ (by omega)⟩
  · exact ⟨Int.emod_nonneg _ (by omega), Int.emod_lt_of_pos _ (by omega)⟩

end Go.Proofs.YtnkcmfbmkokjpaaDoor

/- stream: a right stream of raw steps. -/

namespace Go.Proofs.YtnkcmfbmkokjpaaDoor

open Go.RowKit Go.Shelf

/-- the k-th of its twelve keys -/
def keyC (k : Int) : ByteArray := (ByteArray.mk #[99, 111, 109, 109, 111, 110]).extract 0 (k / 3).toNat ++ (ByteArray.mk #[97, 98, 99, 100, 101, 102, 103, 104, 105, 106, 107, 108]).extract k.toNat (k + 1).toNat

theorem keyC_ok {k : Int} (h0 : 0 ≤ k) (h1 : k < 12) : keyB (keyC k) = true := fin12 (P := fun k => keyB (keyC k) = true) (by decide +kernel) h0 h1

theorem keyC_first {k : Int} (h0 : 0 ≤ k) (h1 : k < 12) : ltK ⟨#[]⟩ (keyC k) = true := fin12 (P := fun k => ltK ⟨#[]⟩ (keyC k) = true) (by decide +kernel) h0 h1

theorem keyC_inj {j k : Int} (h0 : 0 ≤ j) (h1 : j < 12) (h2 : 0 ≤ k) (h3 : k < 12) (h : keyC j = keyC k) : j = k := by
  have hall : ∀ a b : Fin 12, keyC (a.val : Int) = keyC (b.val : Int) → a = b := by decide +kernel
  have := hall ⟨j.toNat, by omega⟩ ⟨k.toNat, by omega⟩ (by simp only; rw [Int.toNat_of_nonneg h0, Int.toNat_of_nonneg h2]; exact h)
  have e : j.toNat = k.toNat := congrArg Fin.val this
  omega

/-- a record of the stream, its key one of the first k -/
def RecFit (full : Bool) (k : Int) (r : RecB) : Prop := (∃ j, 0 ≤ j ∧ j < k ∧ r.key = keyC j) ∧ valB r.value = true ∧ (r.gone = true → full = false ∧ r.value.toList.isEmpty = true)

/-- the records so far -/
def Goods (full : Bool) (k : Int) (l : List RecB) : Prop := l.Pairwise (fun x y => ltK x.key y.key = true) ∧ (∀ r ∈ l, RecFit full k r) ∧ l.length ≤ k.toNat

theorem RecFit.more {full : Bool} {k : Int} {r : RecB} (h : RecFit full k r) : RecFit full (k + 1) r := by
  obtain ⟨⟨j, h1, h2, h3⟩, h⟩ := h
  exact ⟨⟨j, h1, by omega, h3⟩, h⟩

theorem Goods.more {full : Bool} {k : Int} {l : List RecB} (h : Goods full k l) (hk : 0 ≤ k) : Goods full (k + 1) l := ⟨h.1, fun r hr => (h.2.1 r hr).more, by have := h.2.2; omega⟩

theorem Goods.put {full : Bool} {k : Int} {l o : List RecB} {r : RecB} (h : Goods full k l) (hk : 0 ≤ k) (hk2 : k < 12) (hr : RecFit full (k + 1) r) (hkey : r.key = keyC k) (hi : Ins l r o) : Goods full (k + 1) o := by
  obtain ⟨h1, h2, h3⟩ := h
  obtain ⟨a, b, rfl, rfl, ha, hb⟩ := hi
  have hne : ∀ x ∈ a ++ b, x.key ≠ r.key := fun x hx e => by
    obtain ⟨⟨j, j1, j2, j3⟩, -⟩ := h2 x hx
    rw [j3, hkey] at e
    have := keyC_inj j1 (by omega) hk hk2 e
    omega
  obtain ⟨p1, p2, p3⟩ := List.pairwise_append.1 h1
  have hlo : ∀ x ∈ a, ltK x.key r.key = true := fun x hx => by
    cases hx' : ltK x.key r.key with
    | true => rfl
    | false => exact absurd (ltK_total hx' (ha x hx)) (hne x (List.mem_append.2 (.inl hx)))
  have hhi : ∀ y ∈ b, ltK r.key y.key = true := by
    cases b with
    | nil => simp
    | cons z b =>
      have hz := hb z rfl
      intro y hy
      rcases List.mem_cons.1 hy with rfl | hy
      · exact hz
      · exact ltK_trans hz ((List.pairwise_cons.1 p2).1 y hy)
  refine ⟨?_, fun x hx => ?_, ?_⟩
  · refine List.pairwise_append.2 ⟨p1, List.pairwise_cons.2 ⟨hhi, p2⟩, fun x hx y hy => ?_⟩
    rcases List.mem_cons.1 hy with rfl | hy
    · exact hlo x hx
    · exact p3 x hx y hy
  · rcases List.mem_append.1 hx with hx | hx
    · exact (h2 x (List.mem_append.2 (.inl hx))).more
    · rcases List.mem_cons.1 hx with rfl | hx
      · exact hr
      · exact (h2 x (List.mem_append.2 (.inr hx))).more
  · simp only [List.length_append, List.length_cons] at h3 ⊢
    omega

theorem keyB_small {s : ByteArray} (h : keyB s = true) : s.size ≤ 10 := by
  simp [keyB] at h
  omega

/-- such records are a stream's -/
theorem Goods.judge {full : Bool} {k : Int} {l : List RecB} (h : Goods full k l) (hk : k ≤ 12) {a b : Int} (hf : fitB full a b = true) : judgeB full a b l = true := by
  obtain ⟨h1, h2, h3⟩ := h
  have hok : okTo full l l.length = true := by
    unfold okTo
    rw [List.all_eq_true]
    intro j hj
    have hj := List.mem_range.1 hj
    rw [List.getElem?_eq_getElem hj]
    show okRec full (aheadB l j) l[j] = true
    obtain ⟨⟨i, i1, i2, i3⟩, v1, v2⟩ := h2 l[j] (List.getElem_mem hj)
    unfold okRec
    simp only [Bool.and_eq_true]
    refine ⟨⟨⟨?_, v1⟩, ?_⟩, ?_⟩
    · rw [i3]; exact keyC_ok i1 (by omega)
    · cases j with
      | zero =>
        show ltK ⟨#[]⟩ _ = true
        rw [i3]
        exact keyC_first i1 (by omega)
      | succ j =>
        rw [ahead_next (by omega)]
        exact List.pairwise_iff_getElem.1 h1 j (j + 1) (by omega) hj (by omega)
    · cases hg : l[j].gone with
      | false => rfl
      | true =>
        obtain ⟨e1, e2⟩ := v2 hg
        rw [e1, e2]
        rfl
  unfold judgeB
  rw [hf, hok, decide_eq_true (by omega)]
  rfl

/-- the record that is being made -/
def RecOk (full : Bool) (k : Int) (t : Bool) (r : RecB) : Prop := t = true → r.key = keyC k ∧ valB r.value = true ∧ (r.gone = true → full = false ∧ r.value.toList.isEmpty = true)

/-- between two keys -/
def StrInv (w : World) (full : Bool) (a b : Int) (k : Int) (wr : World) : Prop := ∃ l oa cap, wr.heap[w.heap.size + 1]? = some (.cells #[.bool full, .int .i64 a, .int .i64 b, .slice oa l.length cap] 25 (0, 0)) ∧ Row wr 33 3 (.slice oa l.length cap) l.length (recCs l) ∧ Goods full k l ∧ ResZ wr w.heap.size ∧ Keeps (fun _ => False) w wr

/-- what stream gives -/
def StreamPost (full : Bool) (a b : Int) (w : World) (e : Ending) (w' : World) : Prop := ∃ l oa cap, e = .returned (.agg #[.bool full, .int .i64 a, .int .i64 b, .slice oa l.length cap]) ∧ Row w' 33 3 (.slice oa l.length cap) l.length (recCs l) ∧ Goods full 12 l ∧ Keeps (fun _ => False) w w'

theorem val_cut (s : ByteArray) : valB (s.extract 0 40) = true := by
  unfold valB
  rw [decide_eq_true_eq, ByteArray.size_extract]
  omega

end Go.Proofs.YtnkcmfbmkokjpaaDoor
