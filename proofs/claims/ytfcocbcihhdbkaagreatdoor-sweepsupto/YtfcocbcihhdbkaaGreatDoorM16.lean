import Derived.Test.YtfcocbcihhdbkaaGreatDoorM15

/- The least state that is held. -/
namespace Go.Proofs.YtfcocbcihhdbkaaGreatDoor
open Go.RowKit Go.Shelf

/-- L is the least of now and of where the works began. -/
def IsLeast (now : Int) (bs : List Int) (L : Int) : Prop := L ≤ now ∧ (∀ b ∈ bs, L ≤ b) ∧ (L = now ∨ L ∈ bs)

theorem mem_del {α β : Type} [DecidableEq α] : ∀ {l : List (α × β)} {k : α} {q : α × β}, q ∈ l → q.1 ≠ k → q ∈ del l k
  | [], _, _, h, _ => by cases h
  | (a, x) :: r, k, q, h, hne => by
    unfold del
    by_cases e : a = k
    · rw [if_pos e]
      rcases List.mem_cons.1 h with rfl | h1
      · exact absurd e hne
      · exact h1
    · rw [if_neg e]
      rcases List.mem_cons.1 h with rfl | h1
      · simp
      · exact List.mem_cons_of_mem _ (mem_del h1 hne)

theorem min_int (x y : Int) (W : World) : (Builtin.min_ #[3, 3] 3 #[.int .i64 x, .int .i64 y]).run Tryz.prog W = .ok (.int .i64 (if y < x then y else x)) W := by
  simp [Builtin.min_, Builtin.min2]

/-- A range over a map that may be nil. -/
def OptIter {α : Type} (mk : α → Value) (w : World) (r : Nat) (ob : Option Nat) (l left : List (α × Value)) : Prop :=
  match ob with
  | none => l = [] ∧ left = [] ∧ w.heap[r]? = some (.mapIter none 0 #[] 0)
  | some b => IterAt mk w r b l left

/-- how many are left -/
def optLeft (ob : Option Nat) (r : Nat) (w : World) : Nat :=
  match ob with
  | none => 0
  | some b => w.rangeLeft b r

theorem OptIter.left_eq {α : Type} {mk : α → Value} {w : World} {r : Nat} {ob : Option Nat} {l left : List (α × Value)} (h : OptIter mk w r ob l left) : optLeft ob r w = left.length := by
  cases ob with
  | none => obtain ⟨_, rfl, _⟩ := h; rfl
  | some b => exact IterAt.left_eq h

theorem IterAt.kept' {α : Type} {mk : α → Value} {w w' : World} {r b : Nat} {l left : List (α × Value)} {S : Nat → Prop} (h : IterAt mk w r b l left) (hk : Keeps S w w') (hr : ¬ S r) (hb : ¬ S b) : IterAt mk w' r b l left := by
  obtain ⟨es, clock, since, seen, h1, h2, h3, h4, h5⟩ := h
  exact ⟨es, clock, since, seen, (hk.block b (Array.getElem?_eq_some_iff.1 h1).1 hb).trans h1, h2, h3, (hk.block r (Array.getElem?_eq_some_iff.1 h4).1 hr).trans h4, h5⟩

theorem OptIter.kept {α : Type} {mk : α → Value} {w w' : World} {r : Nat} {ob : Option Nat} {l left : List (α × Value)} {S : Nat → Prop} (h : OptIter mk w r ob l left) (hk : Keeps S w w') (hr : ¬ S r) (hb : ∀ b, ob = some b → ¬ S b) : OptIter mk w' r ob l left := by
  cases ob with
  | none =>
    obtain ⟨h1, h2, h3⟩ := h
    exact ⟨h1, h2, (hk.block r (Array.getElem?_eq_some_iff.1 h3).1 hr).trans h3⟩
  | some b => exact IterAt.kept' h hk hr (hb b rfl)

section
variable {P : Program} {α : Type} [DecidableEq α] {d : TypeDesc} {mk : α → Value} (w : World) {ops : Array Oper} {rest : List Oper} {o : Oper} {a : Act} {Q : Exit → Act → World → Prop}

theorem wpList_range_opt (hg : o.guard = none) (m : Operand) (t : TypeId) (hop : o.op = Op.range t m) (kt e : TypeId) (ht : P.underlying t = some (.map kt e))
    (ob : Option Nat) (hm : a.eval m = .map ob) (l : List (α × Value)) (hown : OptMap mk w ob l)
    (hK : ∀ w', OptIter mk w' w.heap.size ob l l → Keeps (fun _ => False) w w' → w'.heap.size = w.heap.size + 1 → wpList P ops Q rest (a.put o.dst (.pointer (some ⟨w.heap.size, 0, none⟩))) w') : wpList P ops Q (o :: rest) a w := by
  cases ob with
  | some b => exact wpList_range_at w hg m t hop kt e ht b hm l hown hK
  | none =>
    refine wpList_plain hg fun K' hK' => ?_
    have h' : l = [] := hown
    unfold Oper.wp
    simp [execOp, hop, hm, range_nil ht w, Result.andThen]
    exact hK' _ _ (hK _ ⟨h', h', heap_new w _⟩ (Keeps.alloc _ _ _) (by simp))

theorem wpList_next_opt (hg : o.guard = none) (it : Operand) (hop : o.op = Op.next it false) (K : KeyOk d mk) (ob : Option Nat) (r : Nat) (hit : a.eval it = .pointer (some ⟨r, 0, none⟩)) (l left : List (α × Value)) (h : OptIter mk w r ob l left)
    (hDone : left = [] → wpList P ops Q rest (a.put o.dst (.tuple #[.bool false])) w)
    (hMore : ∀ k v w', (k, v) ∈ left → OptIter mk w' r ob l (del left k) → Keeps (· = r) w w' → w'.heap.size = w.heap.size → (Instr.entry (.pointer (some ⟨r, 0, none⟩))).run P w' = .ok (.tuple #[mk k, v]) w' → wpList P ops Q rest (a.put o.dst (.tuple #[.bool true, mk k, v])) w') :
    wpList P ops Q (o :: rest) a w := by
  cases ob with
  | some b => exact wpList_next_at w hg it hop K b r hit l left h hDone hMore
  | none =>
    refine wpList_plain hg fun K' hK' => ?_
    obtain ⟨_, h2, h3⟩ := h
    unfold Oper.wp
    simp [execOp, hop, hit, next_nil (P := P) o.type w h3, Result.andThen]
    exact hK' _ _ (hDone h2)

end

/-- A range that looks for the least. -/
structure LInv {α β : Type} [DecidableEq α] (ps : List (α × β)) (val : β → Value) (f : α × β → Int) (c0 : Int) (left : List (α × Value)) (c : Int) : Prop where
  le : c ≤ c0
  at_ : c = c0 ∨ c ∈ ps.map f
  seen : ∀ p ∈ ps, (p.1, val p.2) ∉ left → c ≤ f p
  sub : ∀ q ∈ left, q ∈ ps.map (fun p => (p.1, val p.2))

theorem LInv.start {α β : Type} [DecidableEq α] (ps : List (α × β)) (val : β → Value) (f : α × β → Int) (c0 : Int) : LInv ps val f c0 (ps.map fun p => (p.1, val p.2)) c0 :=
  ⟨Int.le_refl _, .inl rfl, fun p hp hn => absurd (List.mem_map.2 ⟨p, hp, rfl⟩) hn, fun _ hq => hq⟩

theorem LInv.step {α β : Type} [DecidableEq α] {ps : List (α × β)} {val : β → Value} {f : α × β → Int} {c0 c c' : Int} {left : List (α × Value)} {p : α × β} (hn : (ps.map (·.1)).Nodup) (h : LInv ps val f c0 left c) (hp : p ∈ ps) (e : c' = if f p < c then f p else c) : LInv ps val f c0 (del left p.1) c' := by
  obtain ⟨q1, q2, q3, q4⟩ := h
  refine ⟨by split at e <;> omega, ?_, fun p' hp' hn' => ?_, fun q hq => q4 q ((del_sublist _ _).subset hq)⟩
  · split at e
    · right; rw [e]; exact List.mem_map.2 ⟨p, hp, rfl⟩
    · rw [e]; exact q2
  · by_cases ek : p'.1 = p.1
    · have epp : p' = p := by
        have h1 := look_of_mem hn (k := p'.1) (v := p'.2) hp'
        have h2 := look_of_mem hn (k := p.1) (v := p.2) hp
        rw [ek, h2] at h1
        simp only [Option.some.injEq] at h1
        exact Prod.ext ek h1.symm
      rw [epp]
      split at e <;> omega
    · have h1 := q3 p' hp' (fun hm => hn' (mem_del hm ek))
      split at e <;> omega

theorem LInv.done {α β : Type} [DecidableEq α] {ps : List (α × β)} {val : β → Value} {f : α × β → Int} {c0 c : Int} {left : List (α × Value)} (h : LInv ps val f c0 left c) (hl : left = []) : IsLeast c0 (ps.map f) c := by
  refine ⟨h.le, fun b hb => ?_, h.at_⟩
  obtain ⟨p, hp, rfl⟩ := List.mem_map.1 hb
  exact h.seen p hp (by rw [hl]; simp)

theorem IsLeast.more {a c e : Int} {bs ds : List Int} (h : IsLeast a bs c) (k : IsLeast c ds e) : IsLeast a (bs ++ ds) e := by
  obtain ⟨h1, h2, h3⟩ := h
  obtain ⟨k1, k2, k3⟩ := k
  refine ⟨by omega, fun b hb => ?_, ?_⟩
  · rcases List.mem_append.1 hb with hb | hb
    · have := h2 b hb; omega
    · exact k2 b hb
  · rcases k3 with rfl | k3
    · rcases h3 with rfl | h3
      · exact .inl rfl
      · exact .inr (List.mem_append_left _ h3)
    · exact .inr (List.mem_append_right _ k3)

/-- the least state that a copying needs -/
def Cop.need (x : Cop) : Int := if x.full then x.to else x.from'

/-- the states that are held, but for the last -/
def Rep.held (R : Rep) : List Int := R.works.map (fun p => p.2.began) ++ R.pins.map (fun p => p.1) ++ R.copyings.map (fun p => p.2.need)

set_option maxRecDepth 100000 in
set_option maxHeartbeats 400000 in
theorem leastNeeded_any (x : Cop) (w : World) :
    Calls Tryz.prog 116 #[x.val] w fun e w' => e = .returned (.int .i64 x.need) ∧ Keeps (fun _ => False) w w' := by
  obtain ⟨full, fr, to, hd, nx, sm, ct⟩ := x
  unfold Cop.val Cop.need
  cases full
  all_goals
    go_enter Tryz.func116, Tryz.ntmps116
    go_wp2
    go_ret
    exact ⟨rfl, Keeps.alloc _ _ _⟩

theorem pins_nodup {w : World} {R : Rep} (h : StoreAt w R) : (R.pins.map (·.1)).Nodup := by
  have := h.works.pinsMap.nodup
  simpa [List.map_map, Function.comp_def] using this

theorem copies_nodup {w : World} {R : Rep} (h : StoreAt w R) : (R.copyings.map (·.1)).Nodup := by
  have := h.works.copyMap.nodup
  simpa [List.map_map, Function.comp_def] using this

set_option maxRecDepth 100000 in
set_option maxHeartbeats 1000000 in
theorem leastHeld_any (R : Rep) (w : World) (h : StoreAt w R) :
    Calls Tryz.prog 63 #[.pointer (some ⟨R.sb, 0, none⟩)] w fun e w' => ∃ L : Int, e = .returned (.int .i64 L) ∧ IsLeast R.now R.held L ∧ Keeps (fun _ => False) w w' := by
  have c0 : w.cell? ⟨R.sb, 0, none⟩ = some (.int .i64 R.now) := h.cell 0
  have c3 : w.cell? ⟨R.sb, 3, none⟩ = some (.map R.wm) := h.cell 3
  have c4 : w.cell? ⟨R.sb, 4, none⟩ = some (.map R.pm) := h.cell 4
  have c6 : w.cell? ⟨R.sb, 6, none⟩ = some (.map R.cm) := h.cell 6
  have hlt := h.lt
  have HST := hid h
  clear h
  go_enter Tryz.func63, Tryz.ntmps63
  go_wp2_with (at_range; go_must (refine wpList_range_opt _ rfl _ 105 rfl 3 173 Tryz.underlying105 R.wm rfl _ HST.out.works.worksMap ?_; intro w1 hit hk1 hz1))
  go_frame
  go_loopw [3] (fun i wr => ∃ (c : Int) (left : List (Int × Value)), i = .int .i64 c ∧ OptIter (Value.int .i64) wr w.heap.size R.wm (R.works.map fun p => (p.1, workPtr p.2)) left ∧ Keeps (fun _ => False) w wr ∧ w.heap.size < wr.heap.size ∧ LInv R.works workPtr (fun p => p.2.began) R.now left c) (fun _ wr => optLeft R.wm w.heap.size wr)
  case atStart => exact ⟨R.now, _, rfl, hit, hk1, by omega, LInv.start _ _ _ _⟩
  case round =>
    obtain ⟨c, left, rfl, hit', hkr, hzr, hc⟩ := hrel
    clear hit hk1 hz1 w1
    have d4 := hkr.cell (p := ⟨R.sb, 4, none⟩) c4 (fun h => h)
    have HC := hid hc
    clear hc
    go_wp2_with (at_next; go_must (refine wpList_next_opt _ rfl _ rfl intKeyOk R.wm w.heap.size rfl _ _ hit' ?_ ?_))
    · intro hnil
      obtain ⟨wA, rfl⟩ : ∃ x, x = wr := ⟨_, rfl⟩
      have HD := hid (HC.out.done hnil)
      have HKR := hid hkr
      clear hnil hit' c0 c3 HC
      go_wp2_with (at_range; go_must (refine wpList_range_opt _ rfl _ 106 rfl 3 3 Tryz.underlying106 R.pm rfl _ (HST.out.works.pinsMap.kept HKR.out (fun _ _ h => h)) ?_; intro w2 hit2 hk2 hz2))
      go_frame
      go_loopw [3] (fun i wr => ∃ (c2 : Int) (left2 : List (Int × Value)), i = .int .i64 c2 ∧ OptIter (Value.int .i64) wr wA.heap.size R.pm (R.pins.map fun p => (p.1, .int .i64 p.2)) left2 ∧ Keeps (fun _ => False) wA wr ∧ wA.heap.size < wr.heap.size ∧ LInv R.pins (fun z => .int .i64 z) (fun p => p.1) c left2 c2) (fun _ wr => optLeft R.pm wA.heap.size wr)
      case atStart => exact ⟨c, _, rfl, hit2, hk2, by omega, LInv.start _ _ _ _⟩
      case round =>
        obtain ⟨c2, left2, rfl, hit3, hkq, hzq, hc2⟩ := hrel
        clear hit2 hk2 hz2 w2
        have hkwq : Keeps (fun _ => False) w wr := hkr.tr hkq (fun _ h => h)
        have d6 := hkwq.cell (p := ⟨R.sb, 6, none⟩) c6 (fun h => h)
        have HC2 := hid hc2
        clear hc2
        go_wp2_with (at_next; go_must (refine wpList_next_opt _ rfl _ rfl intKeyOk R.pm wA.heap.size rfl _ _ hit3 ?_ ?_))
        · intro hnil2
          obtain ⟨wB, rfl⟩ : ∃ x, x = wr := ⟨_, rfl⟩
          have HD2 := hid (HC2.out.done hnil2)
          have HKWQ := hid hkwq
          clear hnil2 hit3 HC2 d4 c4 c6
          go_wp2_with (at_range; go_must (refine wpList_range_opt _ rfl _ 107 rfl 3 142 Tryz.underlying107 R.cm rfl _ (HST.out.works.copyMap.kept HKWQ.out (fun _ _ h => h)) ?_; intro w3 hit4 hk4 hz4))
          go_frame
          go_loopw [3] (fun i wr => ∃ (c3 : Int) (left3 : List (Int × Value)), i = .int .i64 c3 ∧ OptIter (Value.int .i64) wr wB.heap.size R.cm (R.copyings.map fun p => (p.1, p.2.val)) left3 ∧ Keeps (fun _ => False) wB wr ∧ wB.heap.size < wr.heap.size ∧ LInv R.copyings Cop.val (fun p => p.2.need) c2 left3 c3) (fun _ wr => optLeft R.cm wB.heap.size wr)
          case atStart => exact ⟨c2, _, rfl, hit4, hk4, by omega, LInv.start _ _ _ _⟩
          case round =>
            obtain ⟨c3, left3, rfl, hit5, hkx, hzx, hc3⟩ := hrel
            clear hit4 hk4 hz4 w3
            have HC3 := hid hc3
            clear hc3
            go_wp2_with (at_next; go_must (refine wpList_next_opt _ rfl _ rfl intKeyOk R.cm wB.heap.size rfl _ _ hit5 ?_ ?_))
            · intro hnil3
              have HD3 := hid (HC3.out.done hnil3)
              clear hnil3
              go_wp2
              go_ret
              exact ⟨c3, rfl, (HD.out.more HD2.out).more HD3.out, hkwq.tr hkx (fun _ h => h)⟩
            · intro k v w4 hkv hit6 hk6 hz6 hen
              obtain ⟨p, hp, e⟩ := List.mem_map.1 (HC3.out.sub _ hkv)
              simp only [Prod.mk.injEq] at e
              obtain ⟨rfl, rfl⟩ := e
              have hkx4 : Keeps (fun _ => False) wB w4 := hkx.trans hk6 (fun i hi e => by have e' : i = wB.heap.size := e; omega)
              obtain ⟨pn, ⟨full, fr, to, hd, nx, sm, ct⟩⟩ := p
              have HLN := hid (fun W => leastNeeded_any ⟨full, fr, to, hd, nx, sm, ct⟩ W)
              simp only [Cop.val] at hen HLN
              obtain ⟨nd, hnd⟩ : ∃ nd, nd = Cop.need ⟨full, fr, to, hd, nx, sm, ct⟩ := ⟨_, rfl⟩
              rw [← hnd] at HLN
              obtain ⟨c', hc'⟩ : ∃ c', c' = if nd < c3 then nd else c3 := ⟨_, rfl⟩
              have hmn := fun W => min_int c3 nd W
              rw [← hc'] at hmn
              have HC' := hid hc'
              have HND := hid hnd
              have HI2 := hid hit6
              have HI1 := hid hit5
              have HKV := hid hkv
              have HK2 := hid hkx4
              have HP := hid hp
              clear hit6 hit5 hkv hc' hkx4 hk6 hp d6 hkx hnd
              go_wp2_with (go_at_call 116; go_must (refine (HLN.out _).mono ?_; rintro e w5 ⟨rfl, k5⟩))
              have kw5 : Keeps (fun _ => False) w4 w5 := ((Keeps.refl (fun _ => False) w4).al _).tr k5 (fun _ h => h)
              have hI5 : OptIter (Value.int .i64) w5 wB.heap.size R.cm (R.copyings.map fun p => (p.1, p.2.val)) (del left3 pn) := HI2.out.kept kw5 (fun h => h) (fun _ _ h => h)
              refine ⟨⟨c', del left3 pn, rfl, hI5, HK2.out.tr kw5 (fun _ h => h), by have := kw5.size; omega, HC3.out.step (copies_nodup HST.out) HP.out (by rw [HC'.out, HND.out])⟩, ?_⟩
              rw [hI5.left_eq, HI1.out.left_eq]
              exact del_less HKV.out
        · intro k v w4 hkv hit6 hk6 hz6 hen
          obtain ⟨p, hp, e⟩ := List.mem_map.1 (HC2.out.sub _ hkv)
          simp only [Prod.mk.injEq] at e
          obtain ⟨rfl, rfl⟩ := e
          have hkx4 : Keeps (fun _ => False) wA w4 := hkq.trans hk6 (fun i hi e => by have e' : i = wA.heap.size := e; omega)
          obtain ⟨c', hc'⟩ : ∃ c', c' = if p.1 < c2 then p.1 else c2 := ⟨_, rfl⟩
          have hmn := fun W => min_int c2 p.1 W
          rw [← hc'] at hmn
          have HC' := hid hc'
          have HI2 := hid hit6
          have HI1 := hid hit3
          have HKV := hid hkv
          have HK2 := hid hkx4
          have HP := hid hp
          clear hit6 hit3 hkv hc' hkx4 hk6 hp d4 c4 c6 hkq hkwq d6
          go_wp2
          refine ⟨⟨c', del left2 p.1, rfl, HI2.out, HK2.out, by omega, HC2.out.step (pins_nodup HST.out) HP.out HC'.out⟩, ?_⟩
          rw [HI2.out.left_eq, HI1.out.left_eq]
          exact del_less HKV.out
    · intro k v w2 hkv hit2 hk2 hz2 hen
      obtain ⟨p, hp, e⟩ := List.mem_map.1 (HC.out.sub _ hkv)
      simp only [Prod.mk.injEq] at e
      obtain ⟨rfl, rfl⟩ := e
      have hkw2 : Keeps (fun _ => False) w w2 := hkr.trans hk2 (fun i hi e => by have e' : i = w.heap.size := e; omega)
      obtain ⟨d0, -, -⟩ := (HST.out.kept hkw2 (fun _ _ h => h)).works.work (n := p.1) (x := p.2) hp
      obtain ⟨c', hc'⟩ : ∃ c', c' = if p.2.began < c then p.2.began else c := ⟨_, rfl⟩
      have hmn := fun W => min_int c p.2.began W
      rw [← hc'] at hmn
      have HC' := hid hc'
      simp only [workPtr] at hen
      have HI2 := hid hit2
      have HI1 := hid hit'
      have HKV := hid hkv
      have HK2 := hid hkw2
      have HP := hid hp
      clear hit2 hit' hkv hc' hkw2 hk2 hp d4 c0 c3 c4 c6 hkr
      go_wp2
      refine ⟨⟨c', del left p.1, rfl, HI2.out, HK2.out, by omega, HC.out.step (works_nodup HST.out) HP.out HC'.out⟩, ?_⟩
      rw [HI2.out.left_eq, HI1.out.left_eq]
      exact del_less HKV.out

end Go.Proofs.YtfcocbcihhdbkaaGreatDoor

/- Sweep. -/
namespace Go.Proofs.YtfcocbcihhdbkaaGreatDoor
open Go.RowKit Go.Shelf

/-- What Sweep leaves. -/
def SweptPost (R : Rep) (L : Int) (w w' : World) : Prop :=
  ∃ hist vl, StoreAt w' { R with floor := L, kv := vl, keys := leftL R L R.keys.length, hist := hist } ∧ (∀ k, versOf hist k = if memB R.keys k then (versOf R.hist k).drop (needN (versOf R.hist k) L) else versOf R.hist k) ∧
    (∀ k, (look hist k).isSome = true → (look R.hist k).isSome = true) ∧ (∀ p ∈ hist, p.2.vers ≠ []) ∧ Keeps (· ∈ R.fp) w w' ∧ ∀ k ∈ Rep.fp { R with floor := L, kv := vl, keys := leftL R L R.keys.length, hist := hist }, k ∈ R.fp ∨ w.heap.size ≤ k

theorem StoreAt.floorSet {w w' : World} {R : Rep} {C : List Nat} {n : Int} (h : StoreAt w R) (hk : Keeps (fun k => k ∈ C ∨ k = R.sb) w w') (hC : ∀ k ∈ C, k ∉ R.fp) (hb : w'.heap[R.sb]? = (w.setCell ⟨R.sb, 1, none⟩ (.int .i64 n)).heap[R.sb]?) : StoreAt w' { R with floor := n } := by
  refine h.nums hk (fun k hk' => ?_) R.now n R.begun ?_
  · rintro (hc | rfl)
    · exact hC k hc (List.mem_cons_of_mem _ hk')
    · have := h.nodup
      simp only [Rep.fp, List.nodup_cons] at this
      exact this.1 hk'
  · rw [hb]
    exact h.set (R' := { R with floor := n }) (i := 1) (v := .int .i64 n) rfl (by simp [topCells])

set_option maxRecDepth 100000 in
set_option maxHeartbeats 1000000 in
theorem sweep_any (R : Rep) (w : World) (h : StoreAt w R) (g : Good R) (t : Tied R) (hkl : R.keys.length < 900000000000) (htot : R.total ≤ 1000000000000000) :
    Calls Tryz.prog 25 #[.pointer (some ⟨R.sb, 0, none⟩)] w fun e w' => ∃ L : Int, e = .returned (.int .i64 (thrownN R L R.keys.length)) ∧ IsLeast R.now R.held L ∧ SweptPost R L w w' := by
  have hmf : ∀ (fn : Fn) (first cap : Array Value) (w : World), (Instr.makeFunc fn first cap).run Tryz.prog w = .ok (.func fn first cap) w := fun _ _ _ _ => rfl
  have hk0 : Keeps (fun _ => False) w ((w.alloc (.cells #[.slice none 0 0] 115)).alloc (.cells #[.int .i64 0] 53)) := ((Keeps.refl _ w).al _).al _
  have HLH := hid (leastHeld_any R _ (h.kept hk0 (fun _ _ h => h)))
  have hlt := h.lt
  have hcg : Chg ((w.alloc (.cells #[.slice none 0 0] 115)).alloc (.cells #[.int .i64 0] 53)) w.heap.size [] [w.heap.size] := by
    refine ⟨.slice none 0 0, (Below.heap_alloc _ _ _ (by simp)).trans (heap_new w _), Row.nil _ _ _, by simp [Value.ownBlock], rfl⟩
  have he0 : ((w.alloc (.cells #[.slice none 0 0] 115)).alloc (.cells #[.int .i64 0] 53)).heap[w.heap.size + 1]? = some (.cells #[.int .i64 0] 53 (0, 0)) := by
    have := heap_new (w.alloc (.cells #[.slice none 0 0] 115)) (.cells #[.int .i64 0] 53)
    rwa [World.size_alloc] at this
  have HST := hid h
  have HG := hid g
  have HT := hid t
  have HK0 := hid hk0
  have HCG := hid hcg
  have HE0 := hid he0
  clear h g t hk0 hcg he0
  go_enter_defers Tryz.func25, Tryz.ntmps25
  go_wp2_with fail
  refine (HLH.out).mono ?_
  rintro e w1 ⟨L, rfl, hL, k1⟩
  have HL := hid hL
  have hS1 := HST.out.kept (HK0.out.tr k1 (fun _ h => h)) (fun _ _ h => h)
  have hz1 : w.heap.size + 2 ≤ w1.heap.size := by have := k1.size; simp at this; omega
  have HAS := hid (assign_int w.heap.size [] [w.heap.size] R.sb 1 R.floor L w1 (HCG.out.kept k1 (fun _ _ h => h)) (hS1.cell 1) (hS1.frozen 1) (by simp; omega) (by simp))
  have HS1 := hid hS1
  have K1 := hid k1
  clear hL hS1 k1 HLH
  go_wp2_with fail
  refine (HAS.out).mono ?_
  rintro e w2 ⟨rfl, fs1, C1, hf1, hC1, k2, hC1', hb2⟩
  have hflt := fp_lt HST.out
  have hC1f : ∀ k ∈ C1, k = w.heap.size ∨ w1.heap.size ≤ k := fun k hk => by
    rcases hC1' k hk with h1 | h1
    · left; simpa using h1
    · exact .inr h1
  have hS2 : StoreAt w2 { R with floor := L } := HS1.out.floorSet k2 (fun k hk hf => by have := hflt k hf; simp at hk; omega) hb2
  have HPS := hid (pastSweep_any { R with floor := L } L w.heap.size fs1 C1 w2 hS2 ⟨HG.out.now, HG.out.begun, HG.out.works8, HG.out.numbers, HG.out.began, HG.out.writes30, HG.out.wkeys, HG.out.rising, HG.out.states, HG.out.filled, HG.out.hkeys, HG.out.hvals, HG.out.sorted, HG.out.keys⟩ ⟨HT.out.rises, HT.out.keys, HT.out.filled⟩ hC1 (fun k hk hf => by
    have := hflt k hf
    rcases hC1f k hk with h1 | h1 <;> omega) (by rw [hf1]; simp) hkl htot)
  have K2 := hid k2
  have HC1 := hid hC1f
  clear hS2 hb2 hC1 k2 hC1' hf1 hC1f HAS
  go_wp2_with fail
  refine (HPS.out).mono ?_
  rintro e w3 ⟨rfl, hP⟩
  have HP := hid hP
  clear hP HPS
  go_wp2
  have hpost : SweptPost R L w w3 := by
    obtain ⟨hist, vl, p1, p2, p3, p4, p5, p6⟩ := HP.out
    refine ⟨hist, vl, p1, p2, p3, p4, ?_, fun k hk => ?_⟩
    · have q1 : Keeps (· ∈ R.fp) w w1 := (HK0.out.tr K1.out (fun _ h => h)).mono (fun _ _ h => h.elim)
      have q2 : Keeps (· ∈ R.fp) w w2 := q1.trans K2.out (fun k hk h => by
        rcases h with h | h
        · simp at h; omega
        · rw [h]; simp [Rep.fp])
      refine q2.trans p5 (fun k hk h => ?_)
      rcases h with h | h
      · exact h
      · rcases HC1.out k h with h1 | h1 <;> omega
    · rcases p6 k hk with h1 | h1
      · exact .inl h1
      · right
        have := K2.out.size
        omega
  have he3 : w3.cell? ⟨w.heap.size + 1, 0, none⟩ = some (.int .i64 0) := by
    obtain ⟨hist, vl, -, -, -, -, p5, -⟩ := HP.out
    have e1 := (K1.out.block (w.heap.size + 1) (Array.getElem?_eq_some_iff.1 HE0.out).1 (fun h => h)).trans HE0.out
    have e2 := (K2.out.block (w.heap.size + 1) (Array.getElem?_eq_some_iff.1 e1).1 (by rintro (h | h); (simp at h); omega)).trans e1
    have e3 := (p5.block (w.heap.size + 1) (Array.getElem?_eq_some_iff.1 e2).1 (by
      rintro (h | h)
      · have h' : w.heap.size + 1 ∈ R.fp := h
        have := hflt _ h'
        omega
      · rcases HC1.out _ h with h1 | h1 <;> omega)).trans e2
    exact cell_of_heap e3 0
  refine leaves_cons (f := 62) (args := #[.pointer (some ⟨w.heap.size, 0, none⟩), .pointer (some ⟨w.heap.size + 1, 0, none⟩)]) (by simp) (by simp [go_sem]) ?_
  refine (sweep1_ok w.heap.size (w.heap.size + 1) w3 he3).mono ?_
  rintro e u' w'' ⟨rfl, rfl, rfl⟩
  simp [Leaves, settle, results, Tryz.results25, go_sem]
  exact ⟨L, rfl, HL.out, hpost⟩

end Go.Proofs.YtfcocbcihhdbkaaGreatDoor

/- The change, for pins and copyings: assign, putBack, enter, remove; the deferred steps of the calls that change them. -/
namespace Go.Proofs.YtfcocbcihhdbkaaGreatDoor
open Go.RowKit Go.Shelf

theorem Tryz.zeroIntV (w : World) : (zeroValue 3).run Tryz.prog w = .ok (.int .i64 0) w := by kernel_rfl
def Cop.zero : Cop := ⟨false, 0, 0, false, ByteArray.empty, 0, 0⟩
theorem Tryz.zeroCop (w : World) : (zeroValue 142).run Tryz.prog w = .ok Cop.zero.val w := by kernel_rfl

set_option maxRecDepth 100000 in
set_option maxHeartbeats 400000 in
theorem assign_pins (cb : Nat) (fs : List Value) (C : List Nat) (pb po : Nat) (old new : Option Nat) (w : World) (h : Chg w cb fs C) (hc : w.cell? ⟨pb, po, none⟩ = some (.map old)) (hfz : w.frozen? ⟨pb, po, none⟩ = false) (hp : pb ∉ C) (hl : fs.length < 1000000000000) :
    Calls Tryz.prog 53 #[.pointer (some ⟨cb, 0, none⟩), .pointer (some ⟨pb, po, none⟩), .map new] w fun e w' => e = .returned (.tuple #[]) ∧
      ∃ fs' C', fs'.length = fs.length + 1 ∧ Chg w' cb fs' C' ∧ Keeps (fun k => k ∈ C ∨ k = pb) w w' ∧ (∀ k ∈ C', k ∈ C ∨ w.heap.size ≤ k) ∧ w'.heap[pb]? = (w.setCell ⟨pb, po, none⟩ (.map new)).heap[pb]? := by
  have hlt : pb < w.heap.size := World.block_lt_of_cell? _ _ hc
  have HL : Hid (fs.length < 1000000000000) := hl
  have HP : Hid (pb ∉ C) := hp
  clear hl hp
  have hmf : ∀ (fn : Fn) (first cap : Array Value) (w : World), (Instr.makeFunc fn first cap).run Tryz.prog w = .ok (.func fn first cap) w := fun _ _ _ _ => rfl
  go_enter Tryz.func53, Tryz.ntmps53
  go_wp2_with (go_at_call 66; go_must (refine (undoBy_any cb fs C _ _ _ (h.kept ((Keeps.alloc (fun _ => False) w _).trans (Keeps.alloc (fun _ => False) _ _) (fun _ _ h => h)) (fun _ _ h => h)) (by have := HL.out; omega)).mono ?_; rintro e w1 ⟨rfl, C1, hC1, hk1, hC1'⟩; obtain ⟨hcs, hfs, hbx⟩ := assign_cells h hk1 hc hfz HP.out))
  go_end0
  obtain ⟨hk2, hb2⟩ := assign_end hk1 hlt HP.out (.map new) po
  refine ⟨rfl, _, C1, ?_, hC1.kept (Keeps.setCell _ _ _) (fun k hk e => ?_), hk2, fun k hk => ?_, hb2⟩
  · simp
  · have e' : k = pb := e
    subst e'
    rcases hC1' k hk with h1 | h1
    · exact HP.out h1
    · simp at h1; omega
  · rcases hC1' k hk with h1 | h1
    · exact .inl h1
    · simp at h1; right; omega

set_option maxRecDepth 100000 in
set_option maxHeartbeats 400000 in
theorem assign_cops (cb : Nat) (fs : List Value) (C : List Nat) (pb po : Nat) (old new : Option Nat) (w : World) (h : Chg w cb fs C) (hc : w.cell? ⟨pb, po, none⟩ = some (.map old)) (hfz : w.frozen? ⟨pb, po, none⟩ = false) (hp : pb ∉ C) (hl : fs.length < 1000000000000) :
    Calls Tryz.prog 71 #[.pointer (some ⟨cb, 0, none⟩), .pointer (some ⟨pb, po, none⟩), .map new] w fun e w' => e = .returned (.tuple #[]) ∧
      ∃ fs' C', fs'.length = fs.length + 1 ∧ Chg w' cb fs' C' ∧ Keeps (fun k => k ∈ C ∨ k = pb) w w' ∧ (∀ k ∈ C', k ∈ C ∨ w.heap.size ≤ k) ∧ w'.heap[pb]? = (w.setCell ⟨pb, po, none⟩ (.map new)).heap[pb]? := by
  have hlt : pb < w.heap.size := World.block_lt_of_cell? _ _ hc
  have HL : Hid (fs.length < 1000000000000) := hl
  have HP : Hid (pb ∉ C) := hp
  clear hl hp
  have hmf : ∀ (fn : Fn) (first cap : Array Value) (w : World), (Instr.makeFunc fn first cap).run Tryz.prog w = .ok (.func fn first cap) w := fun _ _ _ _ => rfl
  go_enter Tryz.func71, Tryz.ntmps71
  go_wp2_with (go_at_call 66; go_must (refine (undoBy_any cb fs C _ _ _ (h.kept ((Keeps.alloc (fun _ => False) w _).trans (Keeps.alloc (fun _ => False) _ _) (fun _ _ h => h)) (fun _ _ h => h)) (by have := HL.out; omega)).mono ?_; rintro e w1 ⟨rfl, C1, hC1, hk1, hC1'⟩; obtain ⟨hcs, hfs, hbx⟩ := assign_cells h hk1 hc hfz HP.out))
  go_end0
  obtain ⟨hk2, hb2⟩ := assign_end hk1 hlt HP.out (.map new) po
  refine ⟨rfl, _, C1, ?_, hC1.kept (Keeps.setCell _ _ _) (fun k hk e => ?_), hk2, fun k hk => ?_, hb2⟩
  · simp
  · have e' : k = pb := e
    subst e'
    rcases hC1' k hk with h1 | h1
    · exact HP.out h1
    · simp at h1; omega
  · rcases hC1' k hk with h1 | h1
    · exact .inl h1
    · simp at h1; right; omega

set_option maxRecDepth 100000 in
set_option maxHeartbeats 400000 in
theorem putBack_pin (b : Nat) (k : Int) (l : List (Int × Value)) (q : Int) (w : World) (h : MapAt (Value.int .i64) w b l) (hv : (look l k).getD (.int .i64 0) = .int .i64 q) :
    Calls Tryz.prog 104 #[.map (some b), .int .i64 k] w fun e w' => (∃ cap, e = .returned (.func (.func 168) #[] cap)) ∧ Keeps (fun _ => False) w w' := by
  have hmf : ∀ (fn : Fn) (first cap : Array Value) (w : World), (Instr.makeFunc fn first cap).run Tryz.prog w = .ok (.func fn first cap) w := fun _ _ _ _ => rfl
  have HV : Hid ((look l k).getD (.int .i64 0) = .int .i64 q) := hv
  clear hv
  go_enter Tryz.func104, Tryz.ntmps104
  go_wp2_with (at_lookup; go_must (refine wpList_lookup_ok_at _ rfl _ _ 106 rfl 3 3 intKeyOk Tryz.underlying106 Tryz.underlying3 _ (Tryz.zeroIntV _) b rfl k rfl l ((h.kept (Keeps.alloc (fun _ => False) _ _) (fun h => h)).kept (Keeps.alloc (fun _ => False) _ _) (fun h => h)) ?_; rw [HV.out]))
  go_ret
  exact ⟨⟨_, rfl⟩, ((((Keeps.refl _ w).al _).al _).al _).al _⟩

set_option maxRecDepth 100000 in
set_option maxHeartbeats 400000 in
/-- 'm[key] = value' in the map of the pins, noted -/
theorem enter_pin (cb : Nat) (fs : List Value) (C : List Nat) (b : Nat) (k : Int) (l : List (Int × Value)) (q v : Int) (w : World) (hC : Chg w cb fs C) (h : MapAt (Value.int .i64) w b l) (hv : (look l k).getD (.int .i64 0) = .int .i64 q) (hb : b ∉ C) (hl : fs.length < 1000000000000) :
    Calls Tryz.prog 54 #[.pointer (some ⟨cb, 0, none⟩), .map (some b), .int .i64 k, .int .i64 v] w fun e w' => e = .returned (.tuple #[]) ∧
      ∃ fs' C', fs'.length = fs.length + 1 ∧ Chg w' cb fs' C' ∧ Keeps (fun k => k ∈ C ∨ k = b) w w' ∧ (∀ k ∈ C', k ∈ C ∨ w.heap.size ≤ k) ∧ MapAt (Value.int .i64) w' b (put l k (.int .i64 v)) := by
  have hlt := h.lt
  have HL : Hid (fs.length < 1000000000000) := hl
  have HP : Hid (b ∉ C) := hb
  have HV : Hid ((look l k).getD (.int .i64 0) = .int .i64 q) := hv
  clear hl hb hv
  go_enter Tryz.func54, Tryz.ntmps54
  go_wp2_with (first
    | (go_at_call 104; go_must (refine (putBack_pin b k l q _ h HV.out).mono ?_; rintro e w1 ⟨⟨cap, rfl⟩, hk1⟩))
    | (go_at_call 66; go_must (refine (undoBy_any cb fs C _ _ _ (hC.kept hk1 (fun _ _ h => h)) (by have := HL.out; omega)).mono ?_; rintro e w2 ⟨rfl, C1, hC1, hk2, hC1'⟩))
    | (at_mapUpdate; go_must (refine wpList_mapUpdate_at _ rfl _ _ _ 106 rfl 3 3 intKeyOk Tryz.underlying106 Tryz.underlying3 b rfl k rfl _ rfl l ((h.kept hk1 (fun h => h)).kept hk2 HP.out) ?_; intro w3 hm3 hk3 hz3)))
  go_end0
  have hkk : Keeps (fun k => k ∈ C ∨ k = b) w w3 := ((hk1.mono (T := fun k => k ∈ C ∨ k = b) (fun _ _ h => h.elim)).tr hk2 (fun _ h => .inl h)).tr hk3 (fun _ h => .inr h)
  refine ⟨rfl, _, ?_, C1, hC1.kept hk3 (fun k hk e => ?_), hkk, fun k hk => ?_, hm3⟩
  · simp
  · have e' : k = b := e
    subst e'
    rcases hC1' k hk with h1 | h1
    · exact HP.out h1
    · have := hk1.size; omega
  · rcases hC1' k hk with h1 | h1
    · exact .inl h1
    · have := hk1.size; right; omega

set_option maxRecDepth 100000 in
set_option maxHeartbeats 400000 in
/-- 'delete(m, key)' in the map of the pins, noted -/
theorem remove_pin (cb : Nat) (fs : List Value) (C : List Nat) (b : Nat) (k : Int) (l : List (Int × Value)) (q : Int) (w : World) (hC : Chg w cb fs C) (h : MapAt (Value.int .i64) w b l) (hv : (look l k).getD (.int .i64 0) = .int .i64 q) (hb : b ∉ C) (hl : fs.length < 1000000000000) :
    Calls Tryz.prog 68 #[.pointer (some ⟨cb, 0, none⟩), .map (some b), .int .i64 k] w fun e w' => e = .returned (.tuple #[]) ∧
      ∃ fs' C', fs'.length = fs.length + 1 ∧ Chg w' cb fs' C' ∧ Keeps (fun k => k ∈ C ∨ k = b) w w' ∧ (∀ k ∈ C', k ∈ C ∨ w.heap.size ≤ k) ∧ MapAt (Value.int .i64) w' b (del l k) := by
  have hlt := h.lt
  have HL : Hid (fs.length < 1000000000000) := hl
  have HP : Hid (b ∉ C) := hb
  have HV : Hid ((look l k).getD (.int .i64 0) = .int .i64 q) := hv
  clear hl hb hv
  go_enter Tryz.func68, Tryz.ntmps68
  go_wp2_with (first
    | (go_at_call 104; go_must (refine (putBack_pin b k l q _ h HV.out).mono ?_; rintro e w1 ⟨⟨cap, rfl⟩, hk1⟩))
    | (go_at_call 66; go_must (refine (undoBy_any cb fs C _ _ _ (hC.kept hk1 (fun _ _ h => h)) (by have := HL.out; omega)).mono ?_; rintro e w2 ⟨rfl, C1, hC1, hk2, hC1'⟩))
    | (at_delete; go_must (refine wpList_delete_at _ rfl _ _ 106 3 rfl 3 intKeyOk Tryz.underlying106 Tryz.underlying3 b rfl k rfl l ((h.kept hk1 (fun h => h)).kept hk2 HP.out) ?_; intro w3 hm3 hk3 hz3)))
  go_end0
  have hkk : Keeps (fun k => k ∈ C ∨ k = b) w w3 := ((hk1.mono (T := fun k => k ∈ C ∨ k = b) (fun _ _ h => h.elim)).tr hk2 (fun _ h => .inl h)).tr hk3 (fun _ h => .inr h)
  refine ⟨rfl, _, ?_, C1, hC1.kept hk3 (fun k hk e => ?_), hkk, fun k hk => ?_, hm3⟩
  · simp
  · have e' : k = b := e
    subst e'
    rcases hC1' k hk with h1 | h1
    · exact HP.out h1
    · have := hk1.size; omega
  · rcases hC1' k hk with h1 | h1
    · exact .inl h1
    · have := hk1.size; right; omega

set_option maxRecDepth 100000 in
set_option maxHeartbeats 400000 in
theorem putBack_cop (b : Nat) (k : Int) (l : List (Int × Value)) (q : Cop) (w : World) (h : MapAt (Value.int .i64) w b l) (hv : (look l k).getD Cop.zero.val = q.val) :
    Calls Tryz.prog 125 #[.map (some b), .int .i64 k] w fun e w' => (∃ cap, e = .returned (.func (.func 183) #[] cap)) ∧ Keeps (fun _ => False) w w' := by
  have hmf : ∀ (fn : Fn) (first cap : Array Value) (w : World), (Instr.makeFunc fn first cap).run Tryz.prog w = .ok (.func fn first cap) w := fun _ _ _ _ => rfl
  obtain ⟨full, fr, to, hd, nx, sm, ct⟩ := q
  have HV : Hid ((look l k).getD Cop.zero.val = .agg #[.bool full, .int .i64 fr, .int .i64 to, .bool hd, .string nx, .int .u32 sm, .int .i64 ct]) := hv
  clear hv
  go_enter Tryz.func125, Tryz.ntmps125
  go_wp2_with (at_lookup; go_must (refine wpList_lookup_ok_at _ rfl _ _ 107 rfl 3 142 intKeyOk Tryz.underlying107 Tryz.underlying3 _ (Tryz.zeroCop _) b rfl k rfl l ((h.kept (Keeps.alloc (fun _ => False) _ _) (fun h => h)).kept (Keeps.alloc (fun _ => False) _ _) (fun h => h)) ?_; rw [HV.out]))
  go_ret
  exact ⟨⟨_, rfl⟩, ((((Keeps.refl _ w).al _).al _).al _).al _⟩

theorem enter_boxO {w w1 w2 : World} {cb : Nat} {fs : List Value} {C : List Nat} {o : Obj} (h : Chg w cb fs C) (hk1 : Keeps (fun _ => False) (w.alloc o) w1) (hk2 : Keeps (· ∈ C) w1 w2) : w2.heap[w.heap.size]? = some o := by
  have hn : w.heap.size ∉ C := fun h' => by have := h.lt _ h'; simp at this
  have h1 := (hk1.block w.heap.size (by simp) (fun h => h)).trans (heap_new w o)
  exact (hk2.block _ (Array.getElem?_eq_some_iff.1 h1).1 hn).trans h1

set_option maxRecDepth 100000 in
set_option maxHeartbeats 400000 in
/-- 'm[key] = value' in the map of the copyings, noted -/
theorem enter_cop (cb : Nat) (fs : List Value) (C : List Nat) (b : Nat) (k : Int) (l : List (Int × Value)) (q v : Cop) (w : World) (hC : Chg w cb fs C) (h : MapAt (Value.int .i64) w b l) (hv : (look l k).getD Cop.zero.val = q.val) (hb : b ∉ C) (hl : fs.length < 1000000000000) :
    Calls Tryz.prog 72 #[.pointer (some ⟨cb, 0, none⟩), .map (some b), .int .i64 k, v.val] w fun e w' => e = .returned (.tuple #[]) ∧
      ∃ fs' C', fs'.length = fs.length + 1 ∧ Chg w' cb fs' C' ∧ Keeps (fun k => k ∈ C ∨ k = b) w w' ∧ (∀ k ∈ C', k ∈ C ∨ w.heap.size ≤ k) ∧ MapAt (Value.int .i64) w' b (put l k v.val) := by
  have hlt := h.lt
  have HL := hid hl
  have HP := hid hb
  have HV := hid hv
  clear hl hb hv
  obtain ⟨full, fr, to, hd, nx, sm, ct⟩ := v
  simp only [Cop.val]
  go_enter Tryz.func72, Tryz.ntmps72
  go_wp2_with (first
    | (go_at_call 125; go_must (refine (putBack_cop b k l q _ (h.kept (Keeps.alloc (fun _ => False) _ _) (fun h => h)) HV.out).mono ?_; rintro e w1 ⟨⟨cap, rfl⟩, hk1⟩))
    | (go_at_call 66; go_must (refine (undoBy_any cb fs C _ _ _ (hC.kept ((Keeps.alloc (fun _ => False) _ _).tr hk1 (fun _ h => h)) (fun _ _ h => h)) (by have := HL.out; omega)).mono ?_; rintro e w2 ⟨rfl, C1, hC1, hk2, hC1'⟩; have hbx := enter_boxO hC hk1 hk2; have hx0 := cell_of_heap hbx 0; have hx1 := cell_of_heap hbx 1; have hx2 := cell_of_heap hbx 2; have hx3 := cell_of_heap hbx 3; have hx4 := cell_of_heap hbx 4; have hx5 := cell_of_heap hbx 5; have hx6 := cell_of_heap hbx 6; simp at hx0 hx1 hx2 hx3 hx4 hx5 hx6; clear hbx))
    | (at_mapUpdate; go_must (refine wpList_mapUpdate_at _ rfl _ _ _ 107 rfl 3 142 intKeyOk Tryz.underlying107 Tryz.underlying3 b rfl k rfl _ rfl l ((h.kept ((Keeps.alloc (fun _ => False) _ _).tr hk1 (fun _ h => h)) (fun h => h)).kept hk2 HP.out) ?_; intro w3 hm3 hk3 hz3)))
  go_end0
  have hkk : Keeps (fun k => k ∈ C ∨ k = b) w w3 := ((((Keeps.alloc (fun _ => False) _ _).tr hk1 (fun _ h => h)).mono (T := fun k => k ∈ C ∨ k = b) (fun _ _ h => h.elim)).tr hk2 (fun _ h => .inl h)).tr hk3 (fun _ h => .inr h)
  refine ⟨rfl, _, ?_, C1, hC1.kept hk3 (fun k hk e => ?_), hkk, fun k hk => ?_, hm3⟩
  · simp
  · have e' : k = b := e
    subst e'
    rcases hC1' k hk with h1 | h1
    · exact HP.out h1
    · have := hk1.size; simp at this; omega
  · rcases hC1' k hk with h1 | h1
    · exact .inl h1
    · have := hk1.size; simp at this; right; omega

set_option maxRecDepth 100000 in
set_option maxHeartbeats 400000 in
/-- 'delete(m, key)' in the map of the copyings, noted -/
theorem remove_cop (cb : Nat) (fs : List Value) (C : List Nat) (b : Nat) (k : Int) (l : List (Int × Value)) (q : Cop) (w : World) (hC : Chg w cb fs C) (h : MapAt (Value.int .i64) w b l) (hv : (look l k).getD Cop.zero.val = q.val) (hb : b ∉ C) (hl : fs.length < 1000000000000) :
    Calls Tryz.prog 112 #[.pointer (some ⟨cb, 0, none⟩), .map (some b), .int .i64 k] w fun e w' => e = .returned (.tuple #[]) ∧
      ∃ fs' C', fs'.length = fs.length + 1 ∧ Chg w' cb fs' C' ∧ Keeps (fun k => k ∈ C ∨ k = b) w w' ∧ (∀ k ∈ C', k ∈ C ∨ w.heap.size ≤ k) ∧ MapAt (Value.int .i64) w' b (del l k) := by
  have hlt := h.lt
  have HL : Hid (fs.length < 1000000000000) := hl
  have HP : Hid (b ∉ C) := hb
  have HV : Hid ((look l k).getD Cop.zero.val = q.val) := hv
  clear hl hb hv
  go_enter Tryz.func112, Tryz.ntmps112
  go_wp2_with (first
    | (go_at_call 125; go_must (refine (putBack_cop b k l q _ h HV.out).mono ?_; rintro e w1 ⟨⟨cap, rfl⟩, hk1⟩))
    | (go_at_call 66; go_must (refine (undoBy_any cb fs C _ _ _ (hC.kept hk1 (fun _ _ h => h)) (by have := HL.out; omega)).mono ?_; rintro e w2 ⟨rfl, C1, hC1, hk2, hC1'⟩))
    | (at_delete; go_must (refine wpList_delete_at _ rfl _ _ 107 3 rfl 142 intKeyOk Tryz.underlying107 Tryz.underlying3 b rfl k rfl l ((h.kept hk1 (fun h => h)).kept hk2 HP.out) ?_; intro w3 hm3 hk3 hz3)))
  go_end0
  have hkk : Keeps (fun k => k ∈ C ∨ k = b) w w3 := ((hk1.mono (T := fun k => k ∈ C ∨ k = b) (fun _ _ h => h.elim)).tr hk2 (fun _ h => .inl h)).tr hk3 (fun _ h => .inr h)
  refine ⟨rfl, _, ?_, C1, hC1.kept hk3 (fun k hk e => ?_), hkk, fun k hk => ?_, hm3⟩
  · simp
  · have e' : k = b := e
    subst e'
    rcases hC1' k hk with h1 | h1
    · exact HP.out h1
    · have := hk1.size; omega
  · rcases hC1' k hk with h1 | h1
    · exact .inl h1
    · have := hk1.size; right; omega

set_option maxRecDepth 100000 in
set_option maxHeartbeats 400000 in
theorem pin1_ok (cb eb : Nat) (w : World) (he : w.cell? ⟨eb, 0, none⟩ = some (.int .i64 0)) :
    CallsD Tryz.prog 50 #[.pointer (some ⟨cb, 0, none⟩), .pointer (some ⟨eb, 0, none⟩)] .returning w fun e u' w' => e = .returned (.tuple #[]) ∧ u' = .returning ∧ w' = w := by
  refine callsD_of_wpS Tryz.func50 rfl fun c₀ cs hu => ?_
  apply wpS_region
  simp [wpOpsS, go_sem, recoverD, hu, Tryz.ntmps50]
  refine (settle_ok cb eb w he).mono ?_
  rintro e w1 ⟨rfl, rfl⟩
  cases c₀
  simp_all [bodyPostS, results, Tryz.results50]

set_option maxRecDepth 100000 in
set_option maxHeartbeats 400000 in
theorem pin1_none (cb eb : Nat) (n : Int) (hn : 1 ≤ n ∧ n ≤ 9) (w : World) (hc : w.cell? ⟨cb, 0, none⟩ = some (.slice none 0 0)) (he : w.cell? ⟨eb, 0, none⟩ = some (.int .i64 n)) :
    CallsD Tryz.prog 50 #[.pointer (some ⟨cb, 0, none⟩), .pointer (some ⟨eb, 0, none⟩)] .returning w fun e u' w' => e = .returned (.tuple #[]) ∧ u' = .returning ∧ Keeps (fun _ => False) w w' := by
  refine callsD_of_wpS Tryz.func50 rfl fun c₀ cs hu => ?_
  apply wpS_region
  simp [wpOpsS, go_sem, recoverD, hu, Tryz.ntmps50]
  refine (settle_none cb eb n hn w hc he).mono ?_
  rintro e w1 ⟨rfl, hk⟩
  cases c₀
  simp_all [bodyPostS, results, Tryz.results50]

set_option maxRecDepth 100000 in
set_option maxHeartbeats 400000 in
theorem unpin1_ok (cb eb : Nat) (w : World) (he : w.cell? ⟨eb, 0, none⟩ = some (.int .i64 0)) :
    CallsD Tryz.prog 67 #[.pointer (some ⟨cb, 0, none⟩), .pointer (some ⟨eb, 0, none⟩)] .returning w fun e u' w' => e = .returned (.tuple #[]) ∧ u' = .returning ∧ w' = w := by
  refine callsD_of_wpS Tryz.func67 rfl fun c₀ cs hu => ?_
  apply wpS_region
  simp [wpOpsS, go_sem, recoverD, hu, Tryz.ntmps67]
  refine (settle_ok cb eb w he).mono ?_
  rintro e w1 ⟨rfl, rfl⟩
  cases c₀
  simp_all [bodyPostS, results, Tryz.results67]

set_option maxRecDepth 100000 in
set_option maxHeartbeats 400000 in
theorem unpin1_none (cb eb : Nat) (n : Int) (hn : 1 ≤ n ∧ n ≤ 9) (w : World) (hc : w.cell? ⟨cb, 0, none⟩ = some (.slice none 0 0)) (he : w.cell? ⟨eb, 0, none⟩ = some (.int .i64 n)) :
    CallsD Tryz.prog 67 #[.pointer (some ⟨cb, 0, none⟩), .pointer (some ⟨eb, 0, none⟩)] .returning w fun e u' w' => e = .returned (.tuple #[]) ∧ u' = .returning ∧ Keeps (fun _ => False) w w' := by
  refine callsD_of_wpS Tryz.func67 rfl fun c₀ cs hu => ?_
  apply wpS_region
  simp [wpOpsS, go_sem, recoverD, hu, Tryz.ntmps67]
  refine (settle_none cb eb n hn w hc he).mono ?_
  rintro e w1 ⟨rfl, hk⟩
  cases c₀
  simp_all [bodyPostS, results, Tryz.results67]

set_option maxRecDepth 100000 in
set_option maxHeartbeats 400000 in
theorem start1_ok (cb eb : Nat) (w : World) (he : w.cell? ⟨eb, 0, none⟩ = some (.int .i64 0)) :
    CallsD Tryz.prog 69 #[.pointer (some ⟨cb, 0, none⟩), .pointer (some ⟨eb, 0, none⟩)] .returning w fun e u' w' => e = .returned (.tuple #[]) ∧ u' = .returning ∧ w' = w := by
  refine callsD_of_wpS Tryz.func69 rfl fun c₀ cs hu => ?_
  apply wpS_region
  simp [wpOpsS, go_sem, recoverD, hu, Tryz.ntmps69]
  refine (settle_ok cb eb w he).mono ?_
  rintro e w1 ⟨rfl, rfl⟩
  cases c₀
  simp_all [bodyPostS, results, Tryz.results69]

set_option maxRecDepth 100000 in
set_option maxHeartbeats 400000 in
theorem start1_none (cb eb : Nat) (n : Int) (hn : 1 ≤ n ∧ n ≤ 9) (w : World) (hc : w.cell? ⟨cb, 0, none⟩ = some (.slice none 0 0)) (he : w.cell? ⟨eb, 0, none⟩ = some (.int .i64 n)) :
    CallsD Tryz.prog 69 #[.pointer (some ⟨cb, 0, none⟩), .pointer (some ⟨eb, 0, none⟩)] .returning w fun e u' w' => e = .returned (.tuple #[]) ∧ u' = .returning ∧ Keeps (fun _ => False) w w' := by
  refine callsD_of_wpS Tryz.func69 rfl fun c₀ cs hu => ?_
  apply wpS_region
  simp [wpOpsS, go_sem, recoverD, hu, Tryz.ntmps69]
  refine (settle_none cb eb n hn w hc he).mono ?_
  rintro e w1 ⟨rfl, hk⟩
  cases c₀
  simp_all [bodyPostS, results, Tryz.results69]

set_option maxRecDepth 100000 in
set_option maxHeartbeats 400000 in
theorem next1_ok (cb eb : Nat) (w : World) (he : w.cell? ⟨eb, 0, none⟩ = some (.int .i64 0)) :
    CallsD Tryz.prog 109 #[.pointer (some ⟨cb, 0, none⟩), .pointer (some ⟨eb, 0, none⟩)] .returning w fun e u' w' => e = .returned (.tuple #[]) ∧ u' = .returning ∧ w' = w := by
  refine callsD_of_wpS Tryz.func109 rfl fun c₀ cs hu => ?_
  apply wpS_region
  simp [wpOpsS, go_sem, recoverD, hu, Tryz.ntmps109]
  refine (settle_ok cb eb w he).mono ?_
  rintro e w1 ⟨rfl, rfl⟩
  cases c₀
  simp_all [bodyPostS, results, Tryz.results109]

set_option maxRecDepth 100000 in
set_option maxHeartbeats 400000 in
theorem next1_none (cb eb : Nat) (n : Int) (hn : 1 ≤ n ∧ n ≤ 9) (w : World) (hc : w.cell? ⟨cb, 0, none⟩ = some (.slice none 0 0)) (he : w.cell? ⟨eb, 0, none⟩ = some (.int .i64 n)) :
    CallsD Tryz.prog 109 #[.pointer (some ⟨cb, 0, none⟩), .pointer (some ⟨eb, 0, none⟩)] .returning w fun e u' w' => e = .returned (.tuple #[]) ∧ u' = .returning ∧ Keeps (fun _ => False) w w' := by
  refine callsD_of_wpS Tryz.func109 rfl fun c₀ cs hu => ?_
  apply wpS_region
  simp [wpOpsS, go_sem, recoverD, hu, Tryz.ntmps109]
  refine (settle_none cb eb n hn w hc he).mono ?_
  rintro e w1 ⟨rfl, hk⟩
  cases c₀
  simp_all [bodyPostS, results, Tryz.results109]

set_option maxRecDepth 100000 in
set_option maxHeartbeats 400000 in
theorem stop1_ok (cb eb : Nat) (w : World) (he : w.cell? ⟨eb, 0, none⟩ = some (.int .i64 0)) :
    CallsD Tryz.prog 194 #[.pointer (some ⟨cb, 0, none⟩), .pointer (some ⟨eb, 0, none⟩)] .returning w fun e u' w' => e = .returned (.tuple #[]) ∧ u' = .returning ∧ w' = w := by
  refine callsD_of_wpS Tryz.func194 rfl fun c₀ cs hu => ?_
  apply wpS_region
  simp [wpOpsS, go_sem, recoverD, hu, Tryz.ntmps194]
  refine (settle_ok cb eb w he).mono ?_
  rintro e w1 ⟨rfl, rfl⟩
  cases c₀
  simp_all [bodyPostS, results, Tryz.results194]

set_option maxRecDepth 100000 in
set_option maxHeartbeats 400000 in
theorem stop1_none (cb eb : Nat) (n : Int) (hn : 1 ≤ n ∧ n ≤ 9) (w : World) (hc : w.cell? ⟨cb, 0, none⟩ = some (.slice none 0 0)) (he : w.cell? ⟨eb, 0, none⟩ = some (.int .i64 n)) :
    CallsD Tryz.prog 194 #[.pointer (some ⟨cb, 0, none⟩), .pointer (some ⟨eb, 0, none⟩)] .returning w fun e u' w' => e = .returned (.tuple #[]) ∧ u' = .returning ∧ Keeps (fun _ => False) w w' := by
  refine callsD_of_wpS Tryz.func194 rfl fun c₀ cs hu => ?_
  apply wpS_region
  simp [wpOpsS, go_sem, recoverD, hu, Tryz.ntmps194]
  refine (settle_none cb eb n hn w hc he).mono ?_
  rintro e w1 ⟨rfl, hk⟩
  cases c₀
  simp_all [bodyPostS, results, Tryz.results194]

set_option maxRecDepth 100000 in
set_option maxHeartbeats 400000 in
theorem apply1_ok (cb eb : Nat) (w : World) (he : w.cell? ⟨eb, 0, none⟩ = some (.int .i64 0)) :
    CallsD Tryz.prog 59 #[.pointer (some ⟨cb, 0, none⟩), .pointer (some ⟨eb, 0, none⟩)] .returning w fun e u' w' => e = .returned (.tuple #[]) ∧ u' = .returning ∧ w' = w := by
  refine callsD_of_wpS Tryz.func59 rfl fun c₀ cs hu => ?_
  apply wpS_region
  simp [wpOpsS, go_sem, recoverD, hu, Tryz.ntmps59]
  refine (settle_ok cb eb w he).mono ?_
  rintro e w1 ⟨rfl, rfl⟩
  cases c₀
  simp_all [bodyPostS, results, Tryz.results59]

set_option maxRecDepth 100000 in
set_option maxHeartbeats 400000 in
theorem apply1_none (cb eb : Nat) (n : Int) (hn : 1 ≤ n ∧ n ≤ 9) (w : World) (hc : w.cell? ⟨cb, 0, none⟩ = some (.slice none 0 0)) (he : w.cell? ⟨eb, 0, none⟩ = some (.int .i64 n)) :
    CallsD Tryz.prog 59 #[.pointer (some ⟨cb, 0, none⟩), .pointer (some ⟨eb, 0, none⟩)] .returning w fun e u' w' => e = .returned (.tuple #[]) ∧ u' = .returning ∧ Keeps (fun _ => False) w w' := by
  refine callsD_of_wpS Tryz.func59 rfl fun c₀ cs hu => ?_
  apply wpS_region
  simp [wpOpsS, go_sem, recoverD, hu, Tryz.ntmps59]
  refine (settle_none cb eb n hn w hc he).mono ?_
  rintro e w1 ⟨rfl, hk⟩
  cases c₀
  simp_all [bodyPostS, results, Tryz.results59]

end Go.Proofs.YtfcocbcihhdbkaaGreatDoor
