import Derived.Test.YtfcocbcihhdbkaaM5
import Derived.Test.YtfcocbcihhdbkaaM4

/- The least state that is held. -/
namespace Go.Proofs.Ytfcocbcihhdbkaa
open Go.RowKit Go.Shelf

/-- L is the least of now and of where the works began. -/
def IsLeast (now : Int) (bs : List Int) (L : Int) : Prop := L ≤ now ∧ (∀ b ∈ bs, L ≤ b) ∧ (L = now ∨ L ∈ bs)

theorem mem_del {α β : Type} [DecidableEq α] : ∀ {l : List (α × β)} {k : α} {q : α × β}, q ∈ l → q.1 ≠ k → q ∈ del l k
  | [], _, _, h, _ => by cases h
  | (a, x) :: r, k, q, h, hne => by
    unfold del
    by_cases e : a = k
    · rw [if_pos e]
      rcases List.mem_cons.1 h with rfl | h1
      · exact absurd e hne
      · exact h1
    · rw [if_neg e]
      rcases List.mem_cons.1 h with rfl | h1
      · simp
      · exact List.mem_cons_of_mem _ (mem_del h1 hne)

theorem min_int (x y : Int) (W : World) : (Builtin.min_ #[3, 3] 3 #[.int .i64 x, .int .i64 y]).run Try.prog W = .ok (.int .i64 (if y < x then y else x)) W := by
  simp [Builtin.min_, Builtin.min2]

/-- A range over a map that may be nil. -/
def OptIter {α : Type} (mk : α → Value) (w : World) (r : Nat) (ob : Option Nat) (l left : List (α × Value)) : Prop :=
  match ob with
  | none => l = [] ∧ left = [] ∧ w.heap[r]? = some (.mapIter none 0 #[] 0)
  | some b => IterAt mk w r b l left

/-- how many are left -/
def optLeft (ob : Option Nat) (r : Nat) (w : World) : Nat :=
  match ob with
  | none => 0
  | some b => w.rangeLeft b r

theorem OptIter.left_eq {α : Type} {mk : α → Value} {w : World} {r : Nat} {ob : Option Nat} {l left : List (α × Value)} (h : OptIter mk w r ob l left) : optLeft ob r w = left.length := by
  cases ob with
  | none => obtain ⟨_, rfl, _⟩ := h; rfl
  | some b => exact IterAt.left_eq h

theorem IterAt.kept' {α : Type} {mk : α → Value} {w w' : World} {r b : Nat} {l left : List (α × Value)} {S : Nat → Prop} (h : IterAt mk w r b l left) (hk : Keeps S w w') (hr : ¬ S r) (hb : ¬ S b) : IterAt mk w' r b l left := by
  obtain ⟨es, clock, since, seen, h1, h2, h3, h4, h5⟩ := h
  exact ⟨es, clock, since, seen, (hk.block b (Array.getElem?_eq_some_iff.1 h1).1 hb).trans h1, h2, h3, (hk.block r (Array.getElem?_eq_some_iff.1 h4).1 hr).trans h4, h5⟩

theorem OptIter.kept {α : Type} {mk : α → Value} {w w' : World} {r : Nat} {ob : Option Nat} {l left : List (α × Value)} {S : Nat → Prop} (h : OptIter mk w r ob l left) (hk : Keeps S w w') (hr : ¬ S r) (hb : ∀ b, ob = some b → ¬ S b) : OptIter mk w' r ob l left := by
  cases ob with
  | none =>
    obtain ⟨h1, h2, h3⟩ := h
    exact ⟨h1, h2, (hk.block r (Array.getElem?_eq_some_iff.1 h3).1 hr).trans h3⟩
  | some b => exact IterAt.kept' h hk hr (hb b rfl)

section
variable {P : Program} {α : Type} [DecidableEq α] {d : TypeDesc} {mk : α → Value} (w : World) {ops : Array Oper} {rest : List Oper} {o : Oper} {a : Act} {Q : Exit → Act → World → Prop}

theorem wpList_range_opt (hg : o.guard = none) (m : Operand) (t : TypeId) (hop : o.op = Op.range t m) (kt e : TypeId) (ht : P.underlying t = some (.map kt e))
    (ob : Option Nat) (hm : a.eval m = .map ob) (l : List (α × Value)) (hown : OptMap mk w ob l)
    (hK : ∀ w', OptIter mk w' w.heap.size ob l l → Keeps (fun _ => False) w w' → w'.heap.size = w.heap.size + 1 → wpList P ops Q rest (a.put o.dst (.pointer (some ⟨w.heap.size, 0, none⟩))) w') : wpList P ops Q (o :: rest) a w := by
  cases ob with
  | some b => exact wpList_range_at w hg m t hop kt e ht b hm l hown hK
  | none =>
    refine wpList_plain hg fun K' hK' => ?_
    have h' : l = [] := hown
    unfold Oper.wp
    simp [execOp, hop, hm, range_nil ht w, Result.andThen]
    exact hK' _ _ (hK _ ⟨h', h', heap_new w _⟩ (Keeps.alloc _ _ _) (by simp))

theorem wpList_next_opt (hg : o.guard = none) (it : Operand) (hop : o.op = Op.next it false) (K : KeyOk d mk) (ob : Option Nat) (r : Nat) (hit : a.eval it = .pointer (some ⟨r, 0, none⟩)) (l left : List (α × Value)) (h : OptIter mk w r ob l left)
    (hDone : left = [] → wpList P ops Q rest (a.put o.dst (.tuple #[.bool false])) w)
    (hMore : ∀ k v w', (k, v) ∈ left → OptIter mk w' r ob l (del left k) → Keeps (· = r) w w' → w'.heap.size = w.heap.size → (Instr.entry (.pointer (some ⟨r, 0, none⟩))).run P w' = .ok (.tuple #[mk k, v]) w' → wpList P ops Q rest (a.put o.dst (.tuple #[.bool true, mk k, v])) w') :
    wpList P ops Q (o :: rest) a w := by
  cases ob with
  | some b => exact wpList_next_at w hg it hop K b r hit l left h hDone hMore
  | none =>
    refine wpList_plain hg fun K' hK' => ?_
    obtain ⟨_, h2, h3⟩ := h
    unfold Oper.wp
    simp [execOp, hop, hit, next_nil (P := P) o.type w h3, Result.andThen]
    exact hK' _ _ (hDone h2)

end

/-- A range that looks for the least. -/
structure LInv {α β : Type} [DecidableEq α] (ps : List (α × β)) (val : β → Value) (f : α × β → Int) (c0 : Int) (left : List (α × Value)) (c : Int) : Prop where
  le : c ≤ c0
  at_ : c = c0 ∨ c ∈ ps.map f
  seen : ∀ p ∈ ps, (p.1, val p.2) ∉ left → c ≤ f p
  sub : ∀ q ∈ left, q ∈ ps.map (fun p => (p.1, val p.2))

theorem LInv.start {α β : Type} [DecidableEq α] (ps : List (α × β)) (val : β → Value) (f : α × β → Int) (c0 : Int) : LInv ps val f c0 (ps.map fun p => (p.1, val p.2)) c0 :=
  ⟨Int.le_refl _, .inl rfl, fun p hp hn => absurd (List.mem_map.2 ⟨p, hp, rfl⟩) hn, fun _ hq => hq⟩

theorem LInv.step {α β : Type} [DecidableEq α] {ps : List (α × β)} {val : β → Value} {f : α × β → Int} {c0 c c' : Int} {left : List (α × Value)} {p : α × β} (hn : (ps.map (·.1)).Nodup) (h : LInv ps val f c0 left c) (hp : p ∈ ps) (e : c' = if f p < c then f p else c) : LInv ps val f c0 (del left p.1) c' := by
  obtain ⟨q1, q2, q3, q4⟩ := h
  refine ⟨by split at e <;> omega, ?_, fun p' hp' hn' => ?_, fun q hq => q4 q ((del_sublist _ _).subset hq)⟩
  · split at e
    · right; rw [e]; exact List.mem_map.2 ⟨p, hp, rfl⟩
    · rw [e]; exact q2
  · by_cases ek : p'.1 = p.1
    · have epp : p' = p := by
        have h1 := look_of_mem hn (k := p'.1) (v := p'.2) hp'
        have h2 := look_of_mem hn (k := p.1) (v := p.2) hp
        rw [ek, h2] at h1
        simp only [Option.some.injEq] at h1
        exact Prod.ext ek h1.symm
      rw [epp]
      split at e <;> omega
    · have h1 := q3 p' hp' (fun hm => hn' (mem_del hm ek))
      split at e <;> omega

theorem LInv.done {α β : Type} [DecidableEq α] {ps : List (α × β)} {val : β → Value} {f : α × β → Int} {c0 c : Int} {left : List (α × Value)} (h : LInv ps val f c0 left c) (hl : left = []) : IsLeast c0 (ps.map f) c := by
  refine ⟨h.le, fun b hb => ?_, h.at_⟩
  obtain ⟨p, hp, rfl⟩ := List.mem_map.1 hb
  exact h.seen p hp (by rw [hl]; simp)

theorem IsLeast.more {a c e : Int} {bs ds : List Int} (h : IsLeast a bs c) (k : IsLeast c ds e) : IsLeast a (bs ++ ds) e := by
  obtain ⟨h1, h2, h3⟩ := h
  obtain ⟨k1, k2, k3⟩ := k
  refine ⟨by omega, fun b hb => ?_, ?_⟩
  · rcases List.mem_append.1 hb with hb | hb
    · have := h2 b hb; omega
    · exact k2 b hb
  · rcases k3 with rfl | k3
    · rcases h3 with rfl | h3
      · exact .inl rfl
      · exact .inr (List.mem_append_left _ h3)
    · exact .inr (List.mem_append_right _ k3)

/-- the least state that a copying needs -/
def Cop.need (x : Cop) : Int := if x.full then x.to else x.from'

/-- the states that are held, but for the last -/
def Rep.held (R : Rep) : List Int := R.works.map (fun p => p.2.began) ++ R.pins.map (fun p => p.1) ++ R.copyings.map (fun p => p.2.need)

set_option maxRecDepth 100000 in
set_option maxHeartbeats 400000 in
theorem leastNeeded_any (x : Cop) (w : World) :
    Calls Try.prog 60 #[x.val] w fun e w' => e = .returned (.int .i64 x.need) ∧ Keeps (fun _ => False) w w' := by
  obtain ⟨full, fr, to, hd, nx, sm, ct⟩ := x
  unfold Cop.val Cop.need
  cases full
  all_goals
    go_enter Try.func60, Try.ntmps60
    go_wp2
    go_ret
    exact ⟨rfl, Keeps.alloc _ _ _⟩

theorem pins_nodup {w : World} {R : Rep} (h : StoreAt w R) : (R.pins.map (·.1)).Nodup := by
  have := h.works.pinsMap.nodup
  simpa [List.map_map, Function.comp_def] using this

theorem copies_nodup {w : World} {R : Rep} (h : StoreAt w R) : (R.copyings.map (·.1)).Nodup := by
  have := h.works.copyMap.nodup
  simpa [List.map_map, Function.comp_def] using this

set_option maxRecDepth 100000 in
set_option maxHeartbeats 1000000 in
theorem leastHeld_any (R : Rep) (w : World) (h : StoreAt w R) :
    Calls Try.prog 40 #[.pointer (some ⟨R.sb, 0, none⟩)] w fun e w' => ∃ L : Int, e = .returned (.int .i64 L) ∧ IsLeast R.now R.held L ∧ Keeps (fun _ => False) w w' := by
  have c0 : w.cell? ⟨R.sb, 0, none⟩ = some (.int .i64 R.now) := h.cell 0
  have c3 : w.cell? ⟨R.sb, 3, none⟩ = some (.map R.wm) := h.cell 3
  have c4 : w.cell? ⟨R.sb, 4, none⟩ = some (.map R.pm) := h.cell 4
  have c6 : w.cell? ⟨R.sb, 6, none⟩ = some (.map R.cm) := h.cell 6
  have hlt := h.lt
  have HST := hid h
  clear h
  go_enter Try.func40, Try.ntmps40
  go_wp2_with (at_range; go_must (refine wpList_range_opt _ rfl _ 59 rfl 3 73 Try.underlying59 R.wm rfl _ HST.out.works.worksMap ?_; intro w1 hit hk1 hz1))
  go_frame
  go_loopw [3] (fun i wr => ∃ (c : Int) (left : List (Int × Value)), i = .int .i64 c ∧ OptIter (Value.int .i64) wr w.heap.size R.wm (R.works.map fun p => (p.1, workPtr p.2)) left ∧ Keeps (fun _ => False) w wr ∧ w.heap.size < wr.heap.size ∧ LInv R.works workPtr (fun p => p.2.began) R.now left c) (fun _ wr => optLeft R.wm w.heap.size wr)
  case atStart => exact ⟨R.now, _, rfl, hit, hk1, by omega, LInv.start _ _ _ _⟩
  case round =>
    obtain ⟨c, left, rfl, hit', hkr, hzr, hc⟩ := hrel
    clear hit hk1 hz1 w1
    have d4 := hkr.cell (p := ⟨R.sb, 4, none⟩) c4 (fun h => h)
    have HC := hid hc
    clear hc
    go_wp2_with (at_next; go_must (refine wpList_next_opt _ rfl _ rfl intKeyOk R.wm w.heap.size rfl _ _ hit' ?_ ?_))
    · intro hnil
      obtain ⟨wA, rfl⟩ : ∃ x, x = wr := ⟨_, rfl⟩
      have HD := hid (HC.out.done hnil)
      have HKR := hid hkr
      clear hnil hit' c0 c3 HC
      go_wp2_with (at_range; go_must (refine wpList_range_opt _ rfl _ 60 rfl 3 3 Try.underlying60 R.pm rfl _ (HST.out.works.pinsMap.kept HKR.out (fun _ _ h => h)) ?_; intro w2 hit2 hk2 hz2))
      go_frame
      go_loopw [3] (fun i wr => ∃ (c2 : Int) (left2 : List (Int × Value)), i = .int .i64 c2 ∧ OptIter (Value.int .i64) wr wA.heap.size R.pm (R.pins.map fun p => (p.1, .int .i64 p.2)) left2 ∧ Keeps (fun _ => False) wA wr ∧ wA.heap.size < wr.heap.size ∧ LInv R.pins (fun z => .int .i64 z) (fun p => p.1) c left2 c2) (fun _ wr => optLeft R.pm wA.heap.size wr)
      case atStart => exact ⟨c, _, rfl, hit2, hk2, by omega, LInv.start _ _ _ _⟩
      case round =>
        obtain ⟨c2, left2, rfl, hit3, hkq, hzq, hc2⟩ := hrel
        clear hit2 hk2 hz2 w2
        have hkwq : Keeps (fun _ => False) w wr := hkr.tr hkq (fun _ h => h)
        have d6 := hkwq.cell (p := ⟨R.sb, 6, none⟩) c6 (fun h => h)
        have HC2 := hid hc2
        clear hc2
        go_wp2_with (at_next; go_must (refine wpList_next_opt _ rfl _ rfl intKeyOk R.pm wA.heap.size rfl _ _ hit3 ?_ ?_))
        · intro hnil2
          obtain ⟨wB, rfl⟩ : ∃ x, x = wr := ⟨_, rfl⟩
          have HD2 := hid (HC2.out.done hnil2)
          have HKWQ := hid hkwq
          clear hnil2 hit3 HC2 d4 c4 c6
          go_wp2_with (at_range; go_must (refine wpList_range_opt _ rfl _ 61 rfl 3 114 Try.underlying61 R.cm rfl _ (HST.out.works.copyMap.kept HKWQ.out (fun _ _ h => h)) ?_; intro w3 hit4 hk4 hz4))
          go_frame
          go_loopw [3] (fun i wr => ∃ (c3 : Int) (left3 : List (Int × Value)), i = .int .i64 c3 ∧ OptIter (Value.int .i64) wr wB.heap.size R.cm (R.copyings.map fun p => (p.1, p.2.val)) left3 ∧ Keeps (fun _ => False) wB wr ∧ wB.heap.size < wr.heap.size ∧ LInv R.copyings Cop.val (fun p => p.2.need) c2 left3 c3) (fun _ wr => optLeft R.cm wB.heap.size wr)
          case atStart => exact ⟨c2, _, rfl, hit4, hk4, by omega, LInv.start _ _ _ _⟩
          case round =>
            obtain ⟨c3, left3, rfl, hit5, hkx, hzx, hc3⟩ := hrel
            clear hit4 hk4 hz4 w3
            have HC3 := hid hc3
            clear hc3
            go_wp2_with (at_next; go_must (refine wpList_next_opt _ rfl _ rfl intKeyOk R.cm wB.heap.size rfl _ _ hit5 ?_ ?_))
            · intro hnil3
              have HD3 := hid (HC3.out.done hnil3)
              clear hnil3
              go_wp2
              go_ret
              exact ⟨c3, rfl, (HD.out.more HD2.out).more HD3.out, hkwq.tr hkx (fun _ h => h)⟩
            · intro k v w4 hkv hit6 hk6 hz6 hen
              obtain ⟨p, hp, e⟩ := List.mem_map.1 (HC3.out.sub _ hkv)
              simp only [Prod.mk.injEq] at e
              obtain ⟨rfl, rfl⟩ := e
              have hkx4 : Keeps (fun _ => False) wB w4 := hkx.trans hk6 (fun i hi e => by have e' : i = wB.heap.size := e; omega)
              obtain ⟨pn, ⟨full, fr, to, hd, nx, sm, ct⟩⟩ := p
              have HLN := hid (fun W => leastNeeded_any ⟨full, fr, to, hd, nx, sm, ct⟩ W)
              simp only [Cop.val] at hen HLN
              obtain ⟨nd, hnd⟩ : ∃ nd, nd = Cop.need ⟨full, fr, to, hd, nx, sm, ct⟩ := ⟨_, rfl⟩
              rw [← hnd] at HLN
              obtain ⟨c', hc'⟩ : ∃ c', c' = if nd < c3 then nd else c3 := ⟨_, rfl⟩
              have hmn := fun W => min_int c3 nd W
              rw [← hc'] at hmn
              have HC' := hid hc'
              have HND := hid hnd
              have HI2 := hid hit6
              have HI1 := hid hit5
              have HKV := hid hkv
              have HK2 := hid hkx4
              have HP := hid hp
              clear hit6 hit5 hkv hc' hkx4 hk6 hp d6 hkx hnd
              go_wp2_with (go_at_call 60; go_must (refine (HLN.out _).mono ?_; rintro e w5 ⟨rfl, k5⟩))
              have kw5 : Keeps (fun _ => False) w4 w5 := ((Keeps.refl (fun _ => False) w4).al _).tr k5 (fun _ h => h)
              have hI5 : OptIter (Value.int .i64) w5 wB.heap.size R.cm (R.copyings.map fun p => (p.1, p.2.val)) (del left3 pn) := HI2.out.kept kw5 (fun h => h) (fun _ _ h => h)
              refine ⟨⟨c', del left3 pn, rfl, hI5, HK2.out.tr kw5 (fun _ h => h), by have := kw5.size; omega, HC3.out.step (copies_nodup HST.out) HP.out (by rw [HC'.out, HND.out])⟩, ?_⟩
              rw [hI5.left_eq, HI1.out.left_eq]
              exact del_less HKV.out
        · intro k v w4 hkv hit6 hk6 hz6 hen
          obtain ⟨p, hp, e⟩ := List.mem_map.1 (HC2.out.sub _ hkv)
          simp only [Prod.mk.injEq] at e
          obtain ⟨rfl, rfl⟩ := e
          have hkx4 : Keeps (fun _ => False) wA w4 := hkq.trans hk6 (fun i hi e => by have e' : i = wA.heap.size := e; omega)
          obtain ⟨c', hc'⟩ : ∃ c', c' = if p.1 < c2 then p.1 else c2 := ⟨_, rfl⟩
          have hmn := fun W => min_int c2 p.1 W
          rw [← hc'] at hmn
          have HC' := hid hc'
          have HI2 := hid hit6
          have HI1 := hid hit3
          have HKV := hid hkv
          have HK2 := hid hkx4
          have HP := hid hp
          clear hit6 hit3 hkv hc' hkx4 hk6 hp d4 c4 c6 hkq hkwq d6
          go_wp2
          refine ⟨⟨c', del left2 p.1, rfl, HI2.out, HK2.out, by omega, HC2.out.step (pins_nodup HST.out) HP.out HC'.out⟩, ?_⟩
          rw [HI2.out.left_eq, HI1.out.left_eq]
          exact del_less HKV.out
    · intro k v w2 hkv hit2 hk2 hz2 hen
      obtain ⟨p, hp, e⟩ := List.mem_map.1 (HC.out.sub _ hkv)
      simp only [Prod.mk.injEq] at e
      obtain ⟨rfl, rfl⟩ := e
      have hkw2 : Keeps (fun _ => False) w w2 := hkr.trans hk2 (fun i hi e => by have e' : i = w.heap.size := e; omega)
      obtain ⟨d0, -, -⟩ := (HST.out.kept hkw2 (fun _ _ h => h)).works.work (n := p.1) (x := p.2) hp
      obtain ⟨c', hc'⟩ : ∃ c', c' = if p.2.began < c then p.2.began else c := ⟨_, rfl⟩
      have hmn := fun W => min_int c p.2.began W
      rw [← hc'] at hmn
      have HC' := hid hc'
      simp only [workPtr] at hen
      have HI2 := hid hit2
      have HI1 := hid hit'
      have HKV := hid hkv
      have HK2 := hid hkw2
      have HP := hid hp
      clear hit2 hit' hkv hc' hkw2 hk2 hp d4 c0 c3 c4 c6 hkr
      go_wp2
      refine ⟨⟨c', del left p.1, rfl, HI2.out, HK2.out, by omega, HC.out.step (works_nodup HST.out) HP.out HC'.out⟩, ?_⟩
      rw [HI2.out.left_eq, HI1.out.left_eq]
      exact del_less HKV.out

end Go.Proofs.Ytfcocbcihhdbkaa

/- Sweep. -/
namespace Go.Proofs.Ytfcocbcihhdbkaa
open Go.RowKit Go.Shelf

/-- What Sweep leaves. -/
def SweptPost (R : Rep) (L : Int) (w w' : World) : Prop :=
  ∃ hist vl, StoreAt w' { R with floor := L, kv := vl, keys := leftL R L R.keys.length, hist := hist } ∧ (∀ k, versOf hist k = if memB R.keys k then (versOf R.hist k).drop (needN (versOf R.hist k) L) else versOf R.hist k) ∧
    (∀ k, (look hist k).isSome = true → (look R.hist k).isSome = true) ∧ (∀ p ∈ hist, p.2.vers ≠ []) ∧ Keeps (· ∈ R.fp) w w' ∧ ∀ k ∈ Rep.fp { R with floor := L, kv := vl, keys := leftL R L R.keys.length, hist := hist }, k ∈ R.fp ∨ w.heap.size ≤ k

theorem StoreAt.floorSet {w w' : World} {R : Rep} {C : List Nat} {n : Int} (h : StoreAt w R) (hk : Keeps (fun k => k ∈ C ∨ k = R.sb) w w') (hC : ∀ k ∈ C, k ∉ R.fp) (hb : w'.heap[R.sb]? = (w.setCell ⟨R.sb, 1, none⟩ (.int .i64 n)).heap[R.sb]?) : StoreAt w' { R with floor := n } := by
  refine h.nums hk (fun k hk' => ?_) R.now n R.begun ?_
  · rintro (hc | rfl)
    · exact hC k hc (List.mem_cons_of_mem _ hk')
    · have := h.nodup
      simp only [Rep.fp, List.nodup_cons] at this
      exact this.1 hk'
  · rw [hb]
    exact h.set (R' := { R with floor := n }) (i := 1) (v := .int .i64 n) rfl (by simp [topCells])

set_option maxRecDepth 100000 in
set_option maxHeartbeats 1000000 in
theorem sweep_any (R : Rep) (w : World) (h : StoreAt w R) (g : Good R) (t : Tied R) (hkl : R.keys.length < 900000000000) (htot : R.total ≤ 1000000000000000) :
    Calls Try.prog 17 #[.pointer (some ⟨R.sb, 0, none⟩)] w fun e w' => ∃ L : Int, e = .returned (.int .i64 (thrownN R L R.keys.length)) ∧ IsLeast R.now R.held L ∧ SweptPost R L w w' := by
  have hmf : ∀ (fn : Fn) (first cap : Array Value) (w : World), (Instr.makeFunc fn first cap).run Try.prog w = .ok (.func fn first cap) w := fun _ _ _ _ => rfl
  have hk0 : Keeps (fun _ => False) w ((w.alloc (.cells #[.slice none 0 0] 56)).alloc (.cells #[.int .i64 0] 28)) := ((Keeps.refl _ w).al _).al _
  have HLH := hid (leastHeld_any R _ (h.kept hk0 (fun _ _ h => h)))
  have hlt := h.lt
  have hcg : Chg ((w.alloc (.cells #[.slice none 0 0] 56)).alloc (.cells #[.int .i64 0] 28)) w.heap.size [] [w.heap.size] := by
    refine ⟨.slice none 0 0, (Below.heap_alloc _ _ _ (by simp)).trans (heap_new w _), Row.nil _ _ _, by simp [Value.ownBlock], rfl⟩
  have he0 : ((w.alloc (.cells #[.slice none 0 0] 56)).alloc (.cells #[.int .i64 0] 28)).heap[w.heap.size + 1]? = some (.cells #[.int .i64 0] 28 (0, 0)) := by
    have := heap_new (w.alloc (.cells #[.slice none 0 0] 56)) (.cells #[.int .i64 0] 28)
    rwa [World.size_alloc] at this
  have HST := hid h
  have HG := hid g
  have HT := hid t
  have HK0 := hid hk0
  have HCG := hid hcg
  have HE0 := hid he0
  clear h g t hk0 hcg he0
  go_enter_defers Try.func17, Try.ntmps17
  go_wp2_with fail
  refine (HLH.out).mono ?_
  rintro e w1 ⟨L, rfl, hL, k1⟩
  have HL := hid hL
  have hS1 := HST.out.kept (HK0.out.tr k1 (fun _ h => h)) (fun _ _ h => h)
  have hz1 : w.heap.size + 2 ≤ w1.heap.size := by have := k1.size; simp at this; omega
  have HAS := hid (assign_int w.heap.size [] [w.heap.size] R.sb 1 R.floor L w1 (HCG.out.kept k1 (fun _ _ h => h)) (hS1.cell 1) (hS1.frozen 1) (by simp; omega) (by simp))
  have HS1 := hid hS1
  have K1 := hid k1
  clear hL hS1 k1 HLH
  go_wp2_with fail
  refine (HAS.out).mono ?_
  rintro e w2 ⟨rfl, fs1, C1, hf1, hC1, k2, hC1', hb2⟩
  have hflt := fp_lt HST.out
  have hC1f : ∀ k ∈ C1, k = w.heap.size ∨ w1.heap.size ≤ k := fun k hk => by
    rcases hC1' k hk with h1 | h1
    · left; simpa using h1
    · exact .inr h1
  have hS2 : StoreAt w2 { R with floor := L } := HS1.out.floorSet k2 (fun k hk hf => by have := hflt k hf; simp at hk; omega) hb2
  have HPS := hid (pastSweep_any { R with floor := L } L w.heap.size fs1 C1 w2 hS2 ⟨HG.out.now, HG.out.begun, HG.out.works8, HG.out.numbers, HG.out.began, HG.out.writes30, HG.out.wkeys, HG.out.rising, HG.out.states, HG.out.filled, HG.out.hkeys, HG.out.hvals, HG.out.sorted, HG.out.keys⟩ ⟨HT.out.rises, HT.out.keys, HT.out.filled⟩ hC1 (fun k hk hf => by
    have := hflt k hf
    rcases hC1f k hk with h1 | h1 <;> omega) (by rw [hf1]; simp) hkl htot)
  have K2 := hid k2
  have HC1 := hid hC1f
  clear hS2 hb2 hC1 k2 hC1' hf1 hC1f HAS
  go_wp2_with fail
  refine (HPS.out).mono ?_
  rintro e w3 ⟨rfl, hP⟩
  have HP := hid hP
  clear hP HPS
  go_wp2
  have hpost : SweptPost R L w w3 := by
    obtain ⟨hist, vl, p1, p2, p3, p4, p5, p6⟩ := HP.out
    refine ⟨hist, vl, p1, p2, p3, p4, ?_, fun k hk => ?_⟩
    · have q1 : Keeps (· ∈ R.fp) w w1 := (HK0.out.tr K1.out (fun _ h => h)).mono (fun _ _ h => h.elim)
      have q2 : Keeps (· ∈ R.fp) w w2 := q1.trans K2.out (fun k hk h => by
        rcases h with h | h
        · simp at h; omega
        · rw [h]; simp [Rep.fp])
      refine q2.trans p5 (fun k hk h => ?_)
      rcases h with h | h
      · exact h
      · rcases HC1.out k h with h1 | h1 <;> omega
    · rcases p6 k hk with h1 | h1
      · exact .inl h1
      · right
        have := K2.out.size
        omega
  have he3 : w3.cell? ⟨w.heap.size + 1, 0, none⟩ = some (.int .i64 0) := by
    obtain ⟨hist, vl, -, -, -, -, p5, -⟩ := HP.out
    have e1 := (K1.out.block (w.heap.size + 1) (Array.getElem?_eq_some_iff.1 HE0.out).1 (fun h => h)).trans HE0.out
    have e2 := (K2.out.block (w.heap.size + 1) (Array.getElem?_eq_some_iff.1 e1).1 (by rintro (h | h); (simp at h); omega)).trans e1
    have e3 := (p5.block (w.heap.size + 1) (Array.getElem?_eq_some_iff.1 e2).1 (by
      rintro (h | h)
      · have h' : w.heap.size + 1 ∈ R.fp := h
        have := hflt _ h'
        omega
      · rcases HC1.out _ h with h1 | h1 <;> omega)).trans e2
    exact cell_of_heap e3 0
  refine leaves_cons (f := 39) (args := #[.pointer (some ⟨w.heap.size, 0, none⟩), .pointer (some ⟨w.heap.size + 1, 0, none⟩)]) (by simp) (by simp [go_sem]) ?_
  refine (sweep1_ok w.heap.size (w.heap.size + 1) w3 he3).mono ?_
  rintro e u' w'' ⟨rfl, rfl, rfl⟩
  simp [Leaves, settle, results, Try.results17, go_sem]
  exact ⟨L, rfl, HL.out, hpost⟩

end Go.Proofs.Ytfcocbcihhdbkaa

/- Sweep of a store, from outside. -/
namespace Go.Proofs.Ytfcocbcihhdbkaa
open Go.RowKit Go.Shelf

/-- what Sweep leaves of a store, the least state that is held being L -/
def Abs.swept (A : Abs) (L : Int) : Abs := { A with floor := L, vers := fun k => (A.vers k).drop (needN (A.vers k) L) }

theorem sum_const_le {α : Type} (f : α → Nat) (M : Nat) : ∀ (l : List α), (∀ a ∈ l, f a ≤ M) → (l.map f).sum ≤ l.length * M
  | [], _ => by simp
  | a :: l, h => by
    have h1 := h a (by simp)
    have h2 := sum_const_le f M l (fun b hb => h b (by simp [hb]))
    simp only [List.map_cons, List.sum_cons, List.length_cons, Nat.add_mul, Nat.one_mul]
    omega

theorem sweep_s {K : List ByteArray} {O : Nat → Prop} {w : World} {b : Nat} {A : Abs} (h : SAt K O w b A) (hO : ∀ k, O k → k < w.heap.size) (hK : K.length ≤ 30) (hb : 1 ≤ A.begun) :
    Calls Try.prog 17 #[.pointer (some ⟨b, 0, none⟩)] w fun e w' => ∃ L z : Int, e = .returned (.int .i64 z) ∧ IsLeast A.now (A.works.map (·.2.1)) L ∧ SAt K O w' b (A.swept L) ∧ Keeps (fun k => ¬ O k) w w' := by
  obtain ⟨R, hi, rfl, rfl, hf⟩ := h
  have _ := hb
  have hkl := hi.keysLen
  have htot : R.total ≤ 1000000000000000 := by
    have h1 := sum_const_le (fun k => (versOf R.hist k).length) 1000000000001 R.keys (fun k _ => by have := (hi.good.vers k).2; omega)
    unfold Rep.total
    have h2 : R.keys.length * 1000000000001 ≤ 30 * 1000000000001 := Nat.mul_le_mul_right _ (by omega)
    omega
  refine (sweep_any R w hi.st hi.good hi.tied (by omega) htot).mono ?_
  rintro e w' ⟨L, rfl, hL, hist, vl, h1, h2, h3, h4, h5, h6⟩
  have hL' : IsLeast R.abs.now (R.abs.works.map (·.2.1)) L := by
    have e : R.abs.works.map (·.2.1) = R.works.map (·.2.began) := by simp [Rep.abs, List.map_map, Function.comp_def]
    have e1 : R.pins = [] := by
      have := hi.st.works.pinsMap
      rw [hi.pm.1] at this
      have h2 : (R.pins.map fun p => (p.1, Value.int .i64 p.2)) = [] := this
      simpa using h2
    have e2 : R.copyings = [] := by
      have := hi.st.works.copyMap
      rw [hi.pm.2] at this
      have h2 : (R.copyings.map fun p => (p.1, p.2.val)) = [] := this
      simpa using h2
    have e3 : R.held = R.works.map (·.2.began) := by unfold Rep.held; rw [e1, e2]; simp
    rw [e, ← e3]
    exact hL
  have hv : ∀ k, versOf hist k = (versOf R.hist k).drop (needN (versOf R.hist k) L) := fun k => by
    rw [h2 k]
    cases hm : memB R.keys k with
    | true => simp
    | false =>
      have e : versOf R.hist k = [] := by
        apply Classical.byContradiction
        intro hne
        have := (memB_iff _ _).2 (keys_of_vers hi.tied hne)
        rw [hm] at this
        cases this
      simp [e]
  have hnd := hist_nodup h1.past
  have hpv : ∀ p ∈ hist, p.2.vers = (versOf R.hist p.1).drop (needN (versOf R.hist p.1) L) := fun p hp => by
    rw [← hv]
    exact (vers_of_mem hnd hp).2.symm
  have hmem : ∀ k, k ∈ leftL R L R.keys.length ↔ (look hist k).isSome = true := fun k => by
    unfold leftL
    rw [List.take_length, List.mem_filter]
    constructor
    · rintro ⟨_, hs⟩
      have hs' : needN (versOf R.hist k) L < (versOf R.hist k).length := by simpa [staysB] using hs
      cases hl : look hist k with
      | some x => rfl
      | none =>
        have e := hv k
        have e0 : versOf hist k = [] := by unfold versOf; rw [hl]; rfl
        rw [e0] at e
        have := congrArg List.length e
        simp at this
        omega
    · intro hs
      obtain ⟨x, hx⟩ := Option.isSome_iff_exists.1 hs
      have hx0 := h3 k hs
      refine ⟨(memB_iff _ _).1 (by rw [hi.tied.keys]; exact hx0), ?_⟩
      have hf4 := h4 _ (look_mem hx)
      have e := hpv _ (look_mem hx)
      simp only at hf4 e
      have hlen : 0 < x.vers.length := List.length_pos_iff.2 hf4
      rw [e, List.length_drop] at hlen
      simp only [staysB, decide_eq_true_eq]
      omega
  have hsub : (leftL R L R.keys.length).Sublist R.keys := by
    unfold leftL
    rw [List.take_length]
    exact List.filter_sublist
  have hbase := fun k => base_vers hi.good k
  refine ⟨L, _, rfl, hL', ⟨_, ⟨h1, ?_, ?_, hi.pm, hi.wm, fun k hk => hi.kin k (hsub.subset hk), hi.win⟩, rfl, ?_, fun k hk ho => ?_⟩, keeps_off hf h5⟩
  · refine ⟨hi.good.now, hi.good.begun, hi.good.works8, hi.good.numbers, hi.good.began, hi.good.writes30, hi.good.wkeys, fun p hp => ?_, fun p hp v hvv => ?_, h4, fun p hp => ?_, fun p hp v hvv => ?_, hi.good.sorted.sublist hsub, fun k => ?_⟩
    · rw [hpv p hp]
      exact (hbase p.1).1.sublist (List.drop_sublist _ _)
    · rw [hpv p hp] at hvv
      exact ((hbase p.1).2.1 v ((List.drop_sublist _ _).subset hvv)).1
    · refine (hbase p.1).2.2 (fun e => ?_)
      have e1 := hpv p hp
      rw [e] at e1
      exact h4 p hp (by simpa using e1)
    · rw [hpv p hp] at hvv
      exact ((hbase p.1).2.1 v ((List.drop_sublist _ _).subset hvv)).2
    · rw [hmem k]
      exact Option.isSome_iff_exists
  · refine ⟨hi.tied.rises.sublist hsub, fun k => ?_, h4⟩
    rw [Bool.eq_iff_iff, memB_iff]
    exact hmem k
  · simp only [Rep.abs, Abs.swept]
    congr 1
    funext k
    exact hv k
  · rcases h6 k hk with h | h
    · exact hf k h ho
    · have := hO k ho
      omega

theorem upN_mono {vs : List Ver} {s t : Int} (h : s ≤ t) (hr : Rising vs) : upN vs s ≤ upN vs t := by
  induction vs with
  | nil => simp [upN]
  | cons v vs ih =>
    unfold upN at *
    by_cases h1 : v.state ≤ s
    · have h2 : v.state ≤ t := Int.le_trans h1 h
      have := ih (List.pairwise_cons.1 hr).2
      simp [h1, h2]
      exact this
    · simp [List.takeWhile_cons, h1]

theorem upN_spec {vs : List Ver} {t : Int} (hr : Rising vs) : (∀ j (h : j < vs.length), j < upN vs t → vs[j].state ≤ t) ∧ (∀ j (h : j < vs.length), upN vs t ≤ j → t < vs[j].state) := by
  induction vs with
  | nil => exact ⟨fun j h => absurd h (Nat.not_lt_zero _), fun j h => absurd h (Nat.not_lt_zero _)⟩
  | cons v vs ih =>
    obtain ⟨h1, h2⟩ := List.pairwise_cons.1 hr
    obtain ⟨i1, i2⟩ := ih h2
    by_cases hv : v.state ≤ t
    · have e : upN (v :: vs) t = upN vs t + 1 := by simp [upN, hv]
      rw [e]
      refine ⟨fun j hj hlt => ?_, fun j hj hle => ?_⟩
      · cases j with
        | zero => simpa using hv
        | succ j => simpa using i1 j (by simpa using hj) (by omega)
      · cases j with
        | zero => omega
        | succ j => simpa using i2 j (by simpa using hj) (by omega)
    · have e : upN (v :: vs) t = 0 := by simp [upN, hv]
      rw [e]
      refine ⟨fun j hj hlt => by omega, fun j hj _ => ?_⟩
      cases j with
      | zero => simp; omega
      | succ j =>
        have hj' : j < vs.length := by simpa using hj
        have := h1 vs[j] (List.getElem_mem hj')
        simp
        omega

theorem upN_drop {vs : List Ver} {t : Int} {n : Nat} (hr : Rising vs) (hn : n ≤ upN vs t) : upN (vs.drop n) t = upN vs t - n := by
  obtain ⟨h1, h2⟩ := upN_spec (t := t) hr
  have hle := upN_le vs t
  refine upN_eq (by rw [List.length_drop]; omega) (fun j hj hlt => ?_) (fun j hj hge => ?_)
  · rw [List.getElem_drop]
    exact h1 _ _ (by omega)
  · rw [List.getElem_drop]
    exact h2 _ _ (by omega)

/-- A state that is held sees the same. -/
theorem at_swept {vs : List Ver} {L t : Int} (hr : Rising vs) (h : L ≤ t) : standsB (atVer (vs.drop (needN vs L)) t) = standsB (atVer vs t) ∧ (standsB (atVer vs t) = true → atVer (vs.drop (needN vs L)) t = atVer vs t) := by
  have hm := upN_mono h hr
  have hle := upN_le vs t
  have hleL := upN_le vs L
  have key : ∀ n, n < upN vs t → n ≤ upN vs t → atVer (vs.drop n) t = atVer vs t := fun n h1 h2 => by
    unfold atVer
    rw [upN_drop hr h2, if_neg (by omega), if_neg (by omega), List.getElem?_drop]
    congr 1
    omega
  cases ha : atVer vs L with
  | none =>
    have e : needN vs L = 0 := by unfold needN; rw [ha]
    rw [e, List.drop_zero]
    exact ⟨rfl, fun _ => rfl⟩
  | some x =>
    have hu : upN vs L ≠ 0 := fun e => by unfold atVer at ha; rw [if_pos e] at ha; cases ha
    cases hg : x.gone with
    | false =>
      have e : needN vs L = upN vs L - 1 := by unfold needN; rw [ha]; simp [hg]
      rw [e, key _ (by omega) (by omega)]
      exact ⟨rfl, fun _ => rfl⟩
    | true =>
      have e : needN vs L = upN vs L := by unfold needN; rw [ha]; simp [hg]
      rw [e]
      by_cases hlt : upN vs L < upN vs t
      · rw [key _ hlt (by omega)]
        exact ⟨rfl, fun _ => rfl⟩
      · have e2 : upN vs t = upN vs L := by omega
        have e3 : atVer vs t = some x := by
          rw [← ha]
          unfold atVer
          rw [e2]
        have e4 : atVer (vs.drop (upN vs L)) t = none := by
          unfold atVer
          rw [upN_drop hr (by omega), if_pos (by omega)]
        rw [e3, e4]
        simp [standsB, hg]

/-- .. whatever becomes behind it. -/
theorem at_more {vs : List Ver} {v : Ver} {t : Int} (hr : Rising vs) (h : t < v.state) : atVer (vs ++ [v]) t = atVer vs t := by
  obtain ⟨h1, h2⟩ := upN_spec (t := t) hr
  have hle := upN_le vs t
  have e : upN (vs ++ [v]) t = upN vs t := by
    refine upN_eq (by simp; omega) (fun j hj hlt => ?_) (fun j hj hge => ?_)
    · rw [List.getElem_append_left (by omega)]
      exact h1 _ _ hlt
    · by_cases hj2 : j < vs.length
      · rw [List.getElem_append_left hj2]
        exact h2 _ _ hge
      · have ej : j = vs.length := by simp at hj; omega
        subst ej
        simpa using h
  unfold atVer
  rw [e]
  split
  · rfl
  · rw [List.getElem?_append_left (by omega)]

end Go.Proofs.Ytfcocbcihhdbkaa

/- same: of two lists that are the same. -/
namespace Go.Proofs.Ytfcocbcihhdbkaa
open Go.RowKit Go.Shelf

theorem pairs_at : ∀ (ps : List (ByteArray × ByteArray)) (j r : Nat) (hj : j < ps.length), r < 2 → (ps.flatMap pairCells)[j * 2 + r]? = (pairCells ps[j])[r]?
  | [], j, r, hj, _ => by simp at hj
  | p :: ps, 0, r, _, hr => by
    have : r < (pairCells p).length := by simp [pairCells]; omega
    simp [List.getElem?_append_left this]
  | p :: ps, j + 1, r, hj, hr => by
    have ih := pairs_at ps j r (by simpa using hj) hr
    have e : (j + 1) * 2 + r = (pairCells p).length + (j * 2 + r) := by simp [pairCells]; omega
    rw [List.flatMap_cons, e, List.getElem?_append_right (by omega), Nat.add_sub_cancel_left, ih]
    simp

theorem pairs_length (ps : List (ByteArray × ByteArray)) : (ps.flatMap pairCells).length = ps.length * 2 := by
  induction ps with
  | nil => rfl
  | cons p ps ih => simp [pairCells, ih]; omega

theorem Row.pair {w : World} {g cap : Nat} {ps : List (ByteArray × ByteArray)} (h : Row w 52 2 (.slice (some ⟨g, 0, none⟩) ps.length cap) ps.length (ps.flatMap pairCells)) (j : Nat) (hj : j < ps.length) :
    w.cell? ⟨g, j * 2, none⟩ = some (.string ps[j].1) ∧ w.cell? ⟨g, j * 2 + 1, none⟩ = some (.string ps[j].2) := by
  have h0 := h.cellAt (j * 2) (by omega)
  have h1 := h.cellAt (j * 2 + 1) (by omega)
  have p0 := pairs_at ps j 0 hj (by omega)
  have p1 := pairs_at ps j 1 hj (by omega)
  rw [Nat.add_zero] at p0
  exact ⟨by rw [h0, p0]; rfl, by rw [h1, p1]; rfl⟩

set_option maxRecDepth 100000 in
set_option maxHeartbeats 800000 in
theorem same_eq (va vb : Value) (ps : List (ByteArray × ByteArray)) (w : World) (ha : Row w 52 2 va ps.length (ps.flatMap pairCells)) (hb : Row w 52 2 vb ps.length (ps.flatMap pairCells)) :
    Calls Try.prog 18 #[va, vb] w fun e w' => e = .returned (.bool true) ∧ Keeps (fun _ => False) w w' := by
  obtain ⟨oa, ca, rfl, hm, sa⟩ := ha.form
  obtain ⟨ob, cb, rfl, -, sb⟩ := hb.form
  have HA := hid ha
  have HB := hid hb
  have SA := hid sa
  have SB := hid sb
  unfold maxLen at hm
  clear ha hb sa sb
  go_enter Try.func18, Try.ntmps18
  go_wp2_with fail
  go_loopw [5] (fun i wr => ∃ k : Nat, k ≤ ps.length ∧ i = .int .i64 k ∧ Keeps (fun _ => False) w wr) (fun i _ => ps.length - (intOf i).toNat)
  case atStart => exact ⟨0, Nat.zero_le _, rfl, Keeps.refl _ _⟩
  case round =>
    obtain ⟨k, hk, rfl, hkr⟩ := hrel
    by_cases hlt : k < ps.length
    · obtain ⟨ga, rfl⟩ := SA.out (by omega)
      obtain ⟨gb, rfl⟩ := SB.out (by omega)
      obtain ⟨a0, a1⟩ := (HA.out.kept hkr (fun _ _ h => h)).pair k hlt
      obtain ⟨b0, b1⟩ := (HB.out.kept hkr (fun _ _ h => h)).pair k hlt
      generalize ps[k].1 = x at a0 b0
      generalize ps[k].2 = y at a1 b1
      have HKR := hid hkr
      clear hkr SA SB HA HB
      go_wp2_with fail
      go_region
      go_wp2
      exact ⟨⟨k + 1, by omega, by go_num, HKR.out.dr⟩, by simp only [intOf]; omega⟩
    · go_wp2
      go_ret
      exact ⟨rfl, hkr⟩

end Go.Proofs.Ytfcocbcihhdbkaa

/- write: a work with one step that is committed. -/
namespace Go.Proofs.Ytfcocbcihhdbkaa
open Go.RowKit Go.Shelf

/-- what write leaves -/
def WritePost (O : Nat → Prop) (b : Nat) (A : Abs) (what key : Int) (val : ByteArray) (w : World) (e : Ending) (w' : World) : Prop :=
  e = .returned (.bool true) ∧ SAt K12 O w' b (A.next (keyZ (pickZ key 12)) (if pickZ what 4 = 3 then ByteArray.empty else val.extract 0 40) (decide (pickZ what 4 = 3))) ∧ Keeps (fun k => ¬ O k) w w'

/-- Commit behind one step -/
theorem commit_next {O : Nat → Prop} {w : World} {b : Nat} {A : Abs} {K : List ByteArray} {key val : ByteArray} {gone : Bool} (s : SAt K O w b (A.opened.wrote (A.begun + 1) A.now [] key ⟨0, val, gone⟩)) (hK : K.length ≤ 30) (hA : Sound A) (hO : ∀ k, O k → k < w.heap.size) (hnow : A.now < 1000000000) :
    Calls Try.prog 13 #[.pointer (some ⟨b, 0, none⟩), .int .i64 (A.begun + 1)] w fun e w' => e = .returned (.tuple #[.int .i64 (A.now + 1), .int .i64 0]) ∧ SAt K O w' b (A.next key val gone) ∧ Keeps (fun k => ¬ O k) w w' := by
  have e1 : put (A.works ++ [(A.begun + 1, (A.now, []))]) (A.begun + 1) (A.now, put [] key (⟨0, val, gone⟩ : Ver)) = A.works ++ [(A.begun + 1, (A.now, put [] key ⟨0, val, gone⟩))] := put_snoc _ _ hA.fresh
  have hl : look (A.opened.wrote (A.begun + 1) A.now [] key ⟨0, val, gone⟩).works (A.begun + 1) = some (A.now, put [] key ⟨0, val, gone⟩) := by
    simp only [Abs.opened, Abs.wrote, e1]
    exact look_snoc _ hA.fresh
  refine (commit_s s hO hK hl (by simp [put]) hnow).mono ?_
  rintro e w' ⟨⟨⟨k, _, hlt⟩, _⟩ | ⟨_, rfl, h3⟩, h4⟩
  · have := hA.last k
    have h' : A.now < lastOf (A.vers k) := hlt
    omega
  · rw [next_eq hA] at h3
    exact ⟨rfl, h3, h4⟩

set_option maxRecDepth 100000 in
set_option maxHeartbeats 800000 in
theorem lawWrite_put {O : Nat → Prop} {w : World} {b : Nat} {A : Abs} (what key : Int) (val : ByteArray) (h : SAt K12 O w b A) (hO : ∀ k, O k → k < w.heap.size) (hl : A.works.length < 8) (hnow : A.now < 1000000000) (hb : A.begun < 1000000000000)
    (hw : -9223372036854775808 ≤ what ∧ what ≤ 9223372036854775807) (hk : -9223372036854775808 ≤ key ∧ key ≤ 9223372036854775807) (hv : val.size ≤ maxLen) (hne : ¬ pickZ what 4 = 3) :
    Calls Try.prog 6 #[.pointer (some ⟨b, 0, none⟩), .agg #[.int .i64 what, .int .i64 key, .string val]] w (WritePost O b A what key val w) := by
  have hs := h.sound
  have HO' : Hid (∀ k, (O k ∨ k = w.heap.size) → k < w.heap.size + 1) := fun k hk => by
    rcases hk with hk | hk
    · have := hO k hk; omega
    · omega
  have hb1 := begin_s (((h.more (O' := fun k => O k ∨ k = w.heap.size) (fun k hk => hk.imp id (fun e => by omega))).kept ((Keeps.refl (fun _ => False) w).al (.cells #[.int .i64 what, .int .i64 key, .string val] 27)) (fun _ _ h => h.elim))) (fun k hk => by simpa using HO'.out k hk) hl (by omega)
  have HB := hid hb1
  have HP1 := hid (fun W => pick_any what 4 W hw ⟨by decide, by decide⟩)
  have HP2 := hid (fun W => pick_any key 12 W hk ⟨by decide, by decide⟩)
  have HC := hid (fun W => cut_any val W hv)
  obtain ⟨hp0, hp1⟩ := pick_lt key (n := 12) (by decide)
  have HK := hid (fun W => key_any (pickZ key 12) W ⟨hp0, hp1⟩)
  have HV := hid (cut_ok val)
  have HKK := hid (And.intro (key_mem hp0 hp1) (key_ok hp0 hp1))
  have HS := hid hs
  have HH := hid hO
  have HNOW := hid hnow
  generalize hkz : pickZ key 12 = kz at *
  have HKZ := hid hkz
  generalize hvx : val.extract 0 40 = vx at *
  have HVX := hid hvx
  clear hb1 hw hk hv hs hp0 hp1 hO h hl hnow hb hkz hvx
  go_enter Try.func6, Try.ntmps6
  go_wp2_with (first
    | (go_at_call 7; go_must (refine (HB.out).mono ?_; rintro e w1 ⟨rfl, s1, k1⟩; obtain ⟨q0, q1, q2, -⟩ := three_cells (box_kept k1 (fun h => h (.inr rfl)))))
    | (go_at_call 8; go_must (refine (HP1.out _).mono ?_; rintro e w1 ⟨rfl, rfl⟩)))
  have HPUT := hid (fun W (hW : Keeps (fun _ => False) w1 W) => put_s (key := keyZ kz) (val := vx) (s1.kept hW (fun _ _ h => h.elim)) K12_len (look_snoc (A.now, []) HS.out.fresh) HKK.out.1 HKK.out.2 HV.out)
  have K1 := hid k1
  clear s1 k1
  go_region_held3 (fun W => W.cell? ⟨w.heap.size, 1, none⟩ = some (.int .i64 key) ∧ W.cell? ⟨w.heap.size, 2, none⟩ = some (.string val)) (go_keep) (first
    | (go_at_call 8; refine (HP2.out _).mono ?_; rintro e wp ⟨rfl, rfl⟩)
    | (go_at_call 11; refine (HK.out _).mono ?_; rintro e w2 ⟨rfl, k2⟩; have k2' : Keeps (fun _ => False) w1 w2 := (Keeps.drew _ _).tr k2 (fun _ h => h); have r1 := k2'.cell (p := ⟨w.heap.size, 1, none⟩) q1 (fun h => h); have r2 := k2'.cell (p := ⟨w.heap.size, 2, none⟩) q2 (fun h => h))
    | (go_at_call 9; refine (HC.out _).mono ?_; rintro e wp ⟨rfl, rfl⟩)
    | (go_at_call 10; refine (HPUT.out _ k2').mono ?_; rintro e w3 ⟨rfl, s3, k3⟩; have p1 := k3.cell (p := ⟨w.heap.size, 1, none⟩) r1 (fun h => h (.inr rfl)); have p2 := k3.cell (p := ⟨w.heap.size, 2, none⟩) r2 (fun h => h (.inr rfl))))
  have hz1 := K1.out.size
  have hz2 := k2'.size
  have hz3 := k3.size
  simp at hz1
  have HCOM := hid (commit_next s3 K12_len HS.out (fun k hk => by have := HO'.out k hk; omega) HNOW.out)
  have K3 := hid k3
  have K2 := hid k2'
  clear s3 k3 k2 k2' r1 r2 p1 p2 q0 q1 q2 hz1 hz2 hz3
  go_wp2_with (go_at_call 13; go_must (refine (HCOM.out).mono ?_; rintro e w4 ⟨rfl, s4, k4⟩))
  go_ret
  refine ⟨rfl, ?_, ?_⟩
  · simp only [if_neg hne, decide_eq_false hne, HKZ.out, HVX.out]
    exact s4.more (fun k hk => .inl (.inl hk))
  · have t1 : Keeps (fun k => ¬ O k) w w1 := ((Keeps.refl _ w).al _).trans K1.out (fun k _ hk ho => hk (.inl ho))
    have t2 : Keeps (fun k => ¬ O k) w wp := t1.trans K2.out (fun k _ hk => hk.elim)
    have t3 : Keeps (fun k => ¬ O k) w w3 := t2.trans K3.out (fun k _ hk ho => hk (.inl ho))
    exact t3.trans k4 (fun k _ hk ho => hk (.inl ho))

set_option maxRecDepth 100000 in
set_option maxHeartbeats 800000 in
theorem lawWrite_del {O : Nat → Prop} {w : World} {b : Nat} {A : Abs} (what key : Int) (val : ByteArray) (h : SAt K12 O w b A) (hO : ∀ k, O k → k < w.heap.size) (hl : A.works.length < 8) (hnow : A.now < 1000000000) (hb : A.begun < 1000000000000)
    (hw : -9223372036854775808 ≤ what ∧ what ≤ 9223372036854775807) (hk : -9223372036854775808 ≤ key ∧ key ≤ 9223372036854775807) (hne : pickZ what 4 = 3) :
    Calls Try.prog 6 #[.pointer (some ⟨b, 0, none⟩), .agg #[.int .i64 what, .int .i64 key, .string val]] w (WritePost O b A what key val w) := by
  have hs := h.sound
  have HO' : Hid (∀ k, (O k ∨ k = w.heap.size) → k < w.heap.size + 1) := fun k hk => by
    rcases hk with hk | hk
    · have := hO k hk; omega
    · omega
  have hb1 := begin_s (((h.more (O' := fun k => O k ∨ k = w.heap.size) (fun k hk => hk.imp id (fun e => by omega))).kept ((Keeps.refl (fun _ => False) w).al (.cells #[.int .i64 what, .int .i64 key, .string val] 27)) (fun _ _ h => h.elim))) (fun k hk => by simpa using HO'.out k hk) hl (by omega)
  have HB := hid hb1
  have HP1 := hid (fun W => pick_any what 4 W hw ⟨by decide, by decide⟩)
  have HP2 := hid (fun W => pick_any key 12 W hk ⟨by decide, by decide⟩)
  obtain ⟨hp0, hp1⟩ := pick_lt key (n := 12) (by decide)
  have HK := hid (fun W => key_any (pickZ key 12) W ⟨hp0, hp1⟩)
  have HKK := hid (And.intro (key_mem hp0 hp1) (key_ok hp0 hp1))
  have HS := hid hs
  have HH := hid hO
  have HNOW := hid hnow
  generalize hkz : pickZ key 12 = kz at *
  have HKZ := hid hkz
  have HNE := hid hne
  have hP : ∀ W, Calls Try.prog 8 #[.int .i64 what, .int .i64 4] W fun e w' => e = .returned (.int .i64 3) ∧ w' = W := fun W => by have := HP1.out W; rwa [hne] at this
  have HP3 := hid hP
  clear hb1 hw hk hs hp0 hp1 hO h hl hnow hb hne hP HP1 hkz
  go_enter Try.func6, Try.ntmps6
  go_wp2_with (go_at_call 7; go_must (refine (HB.out).mono ?_; rintro e w1 ⟨rfl, s1, k1⟩; obtain ⟨q0, q1, q2, -⟩ := three_cells (box_kept k1 (fun h => h (.inr rfl)))))
  refine (HP3.out _).mono ?_
  rintro e w1 ⟨rfl, rfl⟩
  have HDEL := hid (fun W (hW : Keeps (fun _ => False) w1 W) => delete_s (key := keyZ kz) (s1.kept hW (fun _ _ h => h.elim)) K12_len (look_snoc (A.now, []) HS.out.fresh) HKK.out.1 HKK.out.2)
  have K1 := hid k1
  clear s1 k1
  go_wp2_with (first
    | (go_at_call 8; go_must (refine (HP2.out _).mono ?_; rintro e w1 ⟨rfl, rfl⟩))
    | (go_at_call 11; go_must (refine (HK.out _).mono ?_; rintro e w2 ⟨rfl, k2⟩))
    | (go_at_call 19; go_must (refine (HDEL.out _ k2).mono ?_; rintro e w3 ⟨rfl, s3, k3⟩; have hz1 := K1.out.size; have hz2 := k2.size; have hz3 := k3.size; simp at hz1; have HCOM := hid (commit_next s3 K12_len HS.out (fun k hk => by have := HO'.out k hk; omega) HNOW.out); have K3 := hid k3; have K2 := hid k2; clear s3 k3 k2 q0 q1 q2 hz1 hz2 hz3))
    | (go_at_call 13; go_must (refine (HCOM.out).mono ?_; rintro e w4 ⟨rfl, s4, k4⟩)))
  go_ret
  refine ⟨rfl, ?_, ?_⟩
  · simp only [if_pos HNE.out, decide_eq_true HNE.out, HKZ.out]
    exact s4.more (fun k hk => .inl (.inl hk))
  · have t1 : Keeps (fun k => ¬ O k) w w1 := ((Keeps.refl _ w).al _).trans K1.out (fun k _ hk ho => hk (.inl ho))
    have t2 : Keeps (fun k => ¬ O k) w w2 := t1.trans K2.out (fun k _ hk => hk.elim)
    have t3 : Keeps (fun k => ¬ O k) w w3 := t2.trans K3.out (fun k _ hk ho => hk (.inl ho))
    exact t3.trans k4 (fun k _ hk ho => hk (.inl ho))

theorem lawWrite_any {O : Nat → Prop} {w : World} {b : Nat} {A : Abs} (what key : Int) (val : ByteArray) (h : SAt K12 O w b A) (hO : ∀ k, O k → k < w.heap.size) (hl : A.works.length < 8) (hnow : A.now < 1000000000) (hb : A.begun < 1000000000000)
    (hw : -9223372036854775808 ≤ what ∧ what ≤ 9223372036854775807) (hk : -9223372036854775808 ≤ key ∧ key ≤ 9223372036854775807) (hv : val.size ≤ maxLen) :
    Calls Try.prog 6 #[.pointer (some ⟨b, 0, none⟩), .agg #[.int .i64 what, .int .i64 key, .string val]] w (WritePost O b A what key val w) := by
  by_cases hne : pickZ what 4 = 3
  · exact lawWrite_del what key val h hO hl hnow hb hw hk hne
  · exact lawWrite_put what key val h hO hl hnow hb hw hk hv hne

end Go.Proofs.Ytfcocbcihhdbkaa

/- Two works that begin at one state, as they are told. -/
namespace Go.Proofs.Ytfcocbcihhdbkaa
open Go.RowKit Go.Shelf

/-- a store with two open works that began now -/
def Abs.two (A : Abs) (wa wb : List (ByteArray × Ver)) : Abs := { A with begun := A.begun + 2, works := [(A.begun + 1, (A.now, wa)), (A.begun + 2, (A.now, wb))] }

theorem two_start {A : Abs} (h : A.works = []) : A.opened.opened = A.two [] [] := by
  simp only [Abs.opened, Abs.two, h, List.nil_append, List.cons_append]
  have e : A.begun + 1 + 1 = A.begun + 2 := by omega
  rw [e]

theorem two_look1 (A : Abs) (wa wb : List (ByteArray × Ver)) : look (A.two wa wb).works (A.begun + 1) = some (A.now, wa) := by simp [Abs.two, look]
theorem two_look2 (A : Abs) (wa wb : List (ByteArray × Ver)) : look (A.two wa wb).works (A.begun + 2) = some (A.now, wb) := by
  have e : ¬ A.begun + 1 = A.begun + 2 := by omega
  simp [Abs.two, look, e]

theorem two_wrote1 (A : Abs) (wa wb : List (ByteArray × Ver)) (key : ByteArray) (v : Ver) : (A.two wa wb).wrote (A.begun + 1) A.now wa key v = A.two (put wa key v) wb := by
  have e1 : put [(A.begun + 1, (A.now, wa)), (A.begun + 2, (A.now, wb))] (A.begun + 1) (A.now, put wa key v) = [(A.begun + 1, (A.now, put wa key v)), (A.begun + 2, (A.now, wb))] := by
    rw [put, if_pos rfl]
  simp only [Abs.two, Abs.wrote, e1]
theorem two_wrote2 (A : Abs) (wa wb : List (ByteArray × Ver)) (key : ByteArray) (v : Ver) : (A.two wa wb).wrote (A.begun + 2) A.now wb key v = A.two wa (put wb key v) := by
  have e : ¬ A.begun + 1 = A.begun + 2 := by omega
  have e1 : put [(A.begun + 1, (A.now, wa)), (A.begun + 2, (A.now, wb))] (A.begun + 2) (A.now, put wb key v) = [(A.begun + 1, (A.now, wa)), (A.begun + 2, (A.now, put wb key v))] := by
    rw [put, if_neg e, put, if_pos rfl]
  simp only [Abs.two, Abs.wrote, e1]

/-- what the first leaves -/
def Abs.after1 (A : Abs) (wa wb : List (ByteArray × Ver)) : Abs :=
  { A with now := if wa = [] then A.now else A.now + 1, begun := A.begun + 2, works := [(A.begun + 2, (A.now, wb))], vers := fun k => if (look wa k).isSome then A.vers k ++ [verOf wa (A.now + 1) k] else A.vers k }

/-- what both leave, where the second does not become -/
def Abs.after0 (A : Abs) (wa : List (ByteArray × Ver)) : Abs :=
  { A with now := if wa = [] then A.now else A.now + 1, begun := A.begun + 2, works := [], vers := fun k => if (look wa k).isSome then A.vers k ++ [verOf wa (A.now + 1) k] else A.vers k }

theorem after1_nil (A : Abs) (wb : List (ByteArray × Ver)) : (A.two [] wb).ended (A.begun + 1) = A.after1 [] wb := by
  have e1 : del [(A.begun + 1, (A.now, ([] : List (ByteArray × Ver)))), (A.begun + 2, (A.now, wb))] (A.begun + 1) = [(A.begun + 2, (A.now, wb))] := by rw [del, if_pos rfl]
  simp only [Abs.two, Abs.ended, Abs.after1, e1, if_true, look]
  simp

theorem after1_some (A : Abs) (wa wb : List (ByteArray × Ver)) (h : wa ≠ []) : (A.two wa wb).became (A.begun + 1) wa = A.after1 wa wb := by
  have e1 : del [(A.begun + 1, (A.now, wa)), (A.begun + 2, (A.now, wb))] (A.begun + 1) = [(A.begun + 2, (A.now, wb))] := by rw [del, if_pos rfl]
  simp only [Abs.two, Abs.became, Abs.after1, e1, if_neg h]

theorem after1_look (A : Abs) (wa wb : List (ByteArray × Ver)) : look (A.after1 wa wb).works (A.begun + 2) = some (A.now, wb) := by simp [Abs.after1, look]

theorem after0_eq (A : Abs) (wa wb : List (ByteArray × Ver)) : (A.after1 wa wb).ended (A.begun + 2) = A.after0 wa := by
  have e1 : del [(A.begun + 2, (A.now, wb))] (A.begun + 2) = [] := by rw [del, if_pos rfl]
  simp only [Abs.after1, Abs.ended, Abs.after0, e1]

/-- have they written a key both? -/
def clashB (wa wb : List (ByteArray × Ver)) : Bool := wb.any (fun p => (look wa p.1).isSome)

theorem clashB_iff (wa wb : List (ByteArray × Ver)) : clashB wa wb = true ↔ ∃ k ∈ wb.map (·.1), (look wa k).isSome = true := by
  unfold clashB
  rw [List.any_eq_true]
  constructor
  · rintro ⟨p, hp, h⟩
    exact ⟨p.1, List.mem_map.2 ⟨p, hp, rfl⟩, h⟩
  · rintro ⟨k, hk, h⟩
    obtain ⟨p, hp, rfl⟩ := List.mem_map.1 hk
    exact ⟨p, hp, h⟩

theorem mem_keys_put (l : List (ByteArray × Ver)) (k x : ByteArray) (v : Ver) : x ∈ (put l k v).map (·.1) ↔ x = k ∨ x ∈ l.map (·.1) := by
  rw [← look_isSome, look_put, ← look_isSome]
  by_cases e : k = x
  · subst e; simp
  · have e' : ¬ x = k := fun h => e h.symm
    simp [e, e']

theorem clashB_put (wa wb : List (ByteArray × Ver)) (k : ByteArray) (v : Ver) : clashB wa (put wb k v) = (clashB wa wb || (look wa k).isSome) := by
  rw [Bool.eq_iff_iff, clashB_iff, Bool.or_eq_true, clashB_iff]
  constructor
  · rintro ⟨x, hx, h⟩
    rcases (mem_keys_put _ _ _ _).1 hx with rfl | hx
    · exact .inr h
    · exact .inl ⟨x, hx, h⟩
  · rintro (⟨x, hx, h⟩ | h)
    · exact ⟨x, (mem_keys_put _ _ _ _).2 (.inr hx), h⟩
    · exact ⟨k, (mem_keys_put _ _ _ _).2 (.inl rfl), h⟩

theorem put_ne_nil (l : List (ByteArray × Ver)) (k : ByteArray) (v : Ver) : put l k v ≠ [] := by
  cases l with
  | nil => simp [put]
  | cons p l => obtain ⟨a, y⟩ := p; unfold put; split <;> simp

/-- The second clashes just if both have written a key. -/
theorem after1_last {A : Abs} (h : Sound A) (wa wb : List (ByteArray × Ver)) (k : ByteArray) : A.now < lastOf ((A.after1 wa wb).vers k) ↔ (look wa k).isSome = true := by
  simp only [Abs.after1]
  have := h.last k
  cases hl : (look wa k).isSome with
  | true => simp [last_snoc, verOf]; omega
  | false => simp; exact this

theorem atVer_snoc {vs : List Ver} {v : Ver} {t : Int} (h : ∀ u ∈ vs, u.state ≤ t) (hv : v.state ≤ t) : atVer (vs ++ [v]) t = some v := by
  have e : upN (vs ++ [v]) t = vs.length + 1 := by
    refine upN_eq (by simp) (fun j hj _ => ?_) (fun j hj hr => by simp at hj; omega)
    by_cases e : j < vs.length
    · rw [List.getElem_append_left e]
      exact h _ (List.getElem_mem e)
    · have e' : j = vs.length := by simp at hj; omega
      subst e'
      simpa using hv
  unfold atVer
  rw [e]
  simp

/-- Behind both, a work that begins sees what the first has put. -/
theorem after0_get {A : Abs} (h : Sound A) {wa : List (ByteArray × Ver)} {key val : ByteArray} (hkb : keyB key = true) (hv : look wa key = some ⟨0, val, false⟩) (B : Int) :
    ({ A.after0 wa with begun := B } : Abs).opened.get (B + 1) key = (val, 0) := by
  have hne : wa ≠ [] := fun e => by rw [e] at hv; cases hv
  have e1 : atVer (A.vers key ++ [⟨A.now + 1, val, false⟩]) (A.now + 1) = some ⟨A.now + 1, val, false⟩ := atVer_snoc (fun u hu => by have := h.states key u hu; omega) (Int.le_refl _)
  simp only [Abs.get, Abs.opened, Abs.after0, List.nil_append, look, if_true, if_neg hne, hkb, seeVer, hv, Option.isSome_some, verOf, Option.getD_some]
  rw [e1]
  simp [standsB]

end Go.Proofs.Ytfcocbcihhdbkaa

/- begun: a new store, once a work has done what it must in another. -/
namespace Go.Proofs.Ytfcocbcihhdbkaa
open Go.RowKit Go.Shelf

theorem storeAt_zero {w : World} {b : Nat} (h : w.heap[b]? = some (.cells (topCells (Rep.zero b)) 66 (0, 0))) : StoreAt w (Rep.zero b) :=
  ⟨h, ⟨rfl, fun p hp => (by cases hp), rfl, rfl⟩, ⟨Row.nil _ _ _, rfl, fun p hp => (by cases hp)⟩, by simp [Rep.fp, Rep.fpWorks, Rep.fpPast, Rep.zero, pcOf, Value.ownBlock]⟩

theorem sat_zero {K : List ByteArray} {O : Nat → Prop} {w : World} {b : Nat} (h : StoreAt w (Rep.zero b)) (hb : ¬ O b) : SAt K O w b Abs.zero :=
  ⟨Rep.zero b, ⟨h, good_zero _, tied_zero _, ⟨rfl, rfl⟩, fun h => absurd h (by simp [Rep.zero]), fun k hk => (by cases hk), fun p hp => (by cases hp)⟩, rfl, rfl, fun k hk => by
    have e : k = b := by simpa [Rep.fp, Rep.fpWorks, Rep.fpPast, Rep.zero, pcOf, Value.ownBlock] using hk
    rw [e]; exact hb⟩

def kB : ByteArray := { data := #[107] }
def vB : ByteArray := { data := #[118] }

theorem begun_get : (Abs.zero.next kB vB false).opened.get 2 kB = (vB, 0) := by decide +kernel

/-- what the store of begun does -/
theorem begun_calls {w : World} {O : Nat → Prop} {b : Nat} (h : SAt [kB] O w b Abs.zero) (hO : ∀ k, O k → k < w.heap.size) :
    Calls Try.prog 7 #[.pointer (some ⟨b, 0, none⟩)] w fun e w1 => e = .returned (.tuple #[.int .i64 1, .int .i64 0]) ∧ Keeps (fun k => ¬ O k) w w1 ∧
      Calls Try.prog 10 #[.pointer (some ⟨b, 0, none⟩), .int .i64 1, .string kB, .string vB] w1 fun e w2 => e = .returned (.int .i64 0) ∧ Keeps (fun k => ¬ O k) w w2 ∧
      Calls Try.prog 13 #[.pointer (some ⟨b, 0, none⟩), .int .i64 1] w2 fun e w3 => e = .returned (.tuple #[.int .i64 1, .int .i64 0]) ∧ Keeps (fun k => ¬ O k) w w3 ∧
      Calls Try.prog 7 #[.pointer (some ⟨b, 0, none⟩)] w3 fun e w4 => e = .returned (.tuple #[.int .i64 2, .int .i64 0]) ∧ Keeps (fun k => ¬ O k) w w4 ∧
      Calls Try.prog 14 #[.pointer (some ⟨b, 0, none⟩), .int .i64 2, .string kB] w4 fun e w5 => e = .returned (.tuple #[.string { data := #[118] }, .int .i64 0]) ∧ Keeps (fun k => ¬ O k) w w5 := by
  have hs := h.sound
  refine (begin_s h hO (by simp [Abs.zero]) (by simp [Abs.zero])).mono ?_
  rintro e w1 ⟨rfl, s1, k1⟩
  refine ⟨rfl, k1, ?_⟩
  refine (put_s s1 (by simp) (look_snoc (Abs.zero.now, []) hs.fresh) (List.mem_singleton.2 rfl) (by decide +kernel) (by decide +kernel)).mono ?_
  rintro e w2 ⟨rfl, s2, k2⟩
  have k2' : Keeps (fun k => ¬ O k) w w2 := k1.tr k2 (fun _ h => h)
  have z2 := k2'.size
  refine ⟨rfl, k2', ?_⟩
  refine (commit_next s2 (by simp) hs (fun k hk => by have := hO k hk; omega) (by simp [Abs.zero])).mono ?_
  rintro e w3 ⟨rfl, s3, k3⟩
  have k3' : Keeps (fun k => ¬ O k) w w3 := k2'.tr k3 (fun _ h => h)
  have z3 := k3'.size
  refine ⟨rfl, k3', ?_⟩
  refine (begin_s s3 (fun k hk => by have := hO k hk; omega) (by simp [Abs.next, Abs.zero]) (by simp [Abs.next, Abs.zero])).mono ?_
  rintro e w4 ⟨rfl, s4, k4⟩
  have k4' : Keeps (fun k => ¬ O k) w w4 := k3'.tr k4 (fun _ h => h)
  refine ⟨rfl, k4', ?_⟩
  refine (get_s (n := 2) (key := kB) s4 (by decide +kernel)).mono ?_
  rintro e w5 ⟨rfl, s5, k5⟩
  rw [begun_get]
  exact ⟨rfl, k4'.tr k5 (fun _ h => h.elim)⟩

set_option maxRecDepth 100000 in
set_option maxHeartbeats 800000 in
theorem begun_any (w : World) :
    Calls Try.prog 5 #[] w fun e w' => ∃ b, e = .returned (.pointer (some ⟨b, 0, none⟩)) ∧ w.heap.size ≤ b ∧ SAt K12 (fun k => k < w.heap.size) w' b Abs.zero ∧ Keeps (fun _ => False) w w' := by
  have HN := hid (fun W => new_any W)
  go_enter Try.func5, Try.ntmps5
  go_wp2_with fail
  refine (HN.out _).mono ?_
  rintro e w1 ⟨rfl, t1, k1⟩
  have T1 := hid t1
  have K1 := hid k1
  clear t1 k1
  go_wp2_with fail
  refine (HN.out _).mono ?_
  rintro e w2 ⟨rfl, t2, k2⟩
  have hne : w.heap.size ≠ w1.heap.size := by have := T1.out.lt; simp [Rep.zero] at this; omega
  have HS := hid (begun_calls (O := fun k => k < w.heap.size ∨ k = w1.heap.size) (sat_zero (K := [kB]) (T1.out.kept k2 (fun _ _ h => h)) (by omega)) (fun k hk => by
    have z1 := K1.out.size
    have z2 := t2.lt
    simp [Rep.zero] at z2
    omega))
  have T2 := hid t2
  have K2 := hid k2
  clear t2 k2
  go_wp2_with fail
  refine (HS.out).mono ?_
  rintro e w3 ⟨rfl, _, c3⟩
  have HC := hid c3
  clear c3 HS
  go_wp2_with fail
  refine (HC.out).mono ?_
  rintro e w4 ⟨rfl, _, c4⟩
  have HC4 := hid c4
  clear c4 HC
  go_wp2_with fail
  refine (HC4.out).mono ?_
  rintro e w5 ⟨rfl, _, c5⟩
  have HC5 := hid c5
  clear c5 HC4
  go_wp2_with fail
  refine (HC5.out).mono ?_
  rintro e w6 ⟨rfl, _, c6⟩
  have HC6 := hid c6
  clear c6 HC5
  go_wp2_with fail
  refine (HC6.out).mono ?_
  rintro e w7 ⟨rfl, k7⟩
  have K7 := hid k7
  clear k7 HC6
  go_wp2
  go_ret
  have z1 := K1.out.size
  refine ⟨_, rfl, z1, ?_, ?_⟩
  · have h0 : w2.heap[w1.heap.size]? = some (.cells (topCells (Rep.zero w1.heap.size)) 66 (0, 0)) := T2.out.top
    have h1 := (K7.out.block w1.heap.size (Array.getElem?_eq_some_iff.1 h0).1 (fun h => h (.inr rfl))).trans h0
    exact sat_zero (storeAt_zero h1) (by omega)
  · exact (K1.out.tr K2.out (fun _ h => h)).trans K7.out (fun k hk h => h (.inl hk))

end Go.Proofs.Ytfcocbcihhdbkaa

/- What First keeps between its loops. -/
namespace Go.Proofs.Ytfcocbcihhdbkaa
open Go.RowKit Go.Shelf

/-- a raw step -/
structure RawStep where
  what : Int
  key : Int
  value : ByteArray

/-- A list of raw steps lies so. -/
def StepsAt (w : World) (oa : Option Addr) (n : Nat) (S : Nat → RawStep) : Prop :=
  ∀ i, i < n → ∃ b off, oa = some ⟨b, off, none⟩ ∧ b < w.heap.size ∧ w.cell? ⟨b, off + i * 3, none⟩ = some (.int .i64 (S i).what) ∧ w.cell? ⟨b, off + i * 3 + 1, none⟩ = some (.int .i64 (S i).key) ∧ w.cell? ⟨b, off + i * 3 + 2, none⟩ = some (.string (S i).value) ∧
    (-9223372036854775808 ≤ (S i).what ∧ (S i).what ≤ 9223372036854775807) ∧ (-9223372036854775808 ≤ (S i).key ∧ (S i).key ≤ 9223372036854775807) ∧ (S i).value.size ≤ maxLen

theorem StepsAt.kept {w w' : World} {oa : Option Addr} {n : Nat} {S : Nat → RawStep} (h : StepsAt w oa n S) (hk : Keeps (fun _ => False) w w') : StepsAt w' oa n S := fun i hi => by
  obtain ⟨b, off, e, hb, h1, h2, h3, h4⟩ := h i hi
  exact ⟨b, off, e, Nat.lt_of_lt_of_le hb hk.size, hk.cell h1 (fun h => h), hk.cell h2 (fun h => h), hk.cell h3 (fun h => h), h4⟩

/-- before the two works -/
def FirstBefore (w : World) (b : Nat) (wr : World) : Prop :=
  ∃ A : Abs, SAt K12 (fun k => k < w.heap.size) wr b A ∧ A.works = [] ∧ A.now ≤ 100000 ∧ A.begun ≤ 100000 ∧ Keeps (fun _ => False) w wr

def FirstBeforeAt (w : World) (b : Nat) (k : Nat) (wr : World) : Prop :=
  ∃ A : Abs, SAt K12 (fun k => k < w.heap.size) wr b A ∧ A.works = [] ∧ A.now = k ∧ A.begun = k ∧ Keeps (fun _ => False) w wr

theorem firstBefore_step {w wr w' : World} {b k : Nat} {A : Abs} {what key : Int} {val : ByteArray} {e : Ending} (hA : A.works = [] ∧ A.now = k ∧ A.begun = k) (hk : Keeps (fun _ => False) w wr) (h : WritePost (fun k => k < w.heap.size) b A what key val wr e w') : e = .returned (.bool true) ∧ FirstBeforeAt w b (k + 1) w' := by
  obtain ⟨rfl, h1, h2⟩ := h
  refine ⟨rfl, _, h1, hA.1, ?_, ?_, hk.trans h2 (fun k hk h => h hk)⟩
  · show A.now + 1 = _
    rw [hA.2.1]; rfl
  · show A.begun + 1 = _
    rw [hA.2.2]; rfl

theorem Row.set {w : World} {e : TypeId} {g n cap : Nat} {xs : List Value} (h : Row w e 1 (.slice (some ⟨g, 0, none⟩) n cap) n xs) (i : Nat) (u : Value) : Row (w.setCell ⟨g, i, none⟩ u) e 1 (.slice (some ⟨g, 0, none⟩) n cap) n (xs.set i u) := by
  refine ⟨by simpa using h.1, ?_⟩
  rcases h.2 with ⟨h2, _⟩ | ⟨g', cap', cur, hv, hh, h3, h4, h5, h6⟩
  · simp at h2
  · simp at hv
    obtain ⟨rfl, rfl⟩ := hv
    refine .inr ⟨g, cap, cur.setIfInBounds i u, rfl, heap_setCell_same hh u, h3, h4, by simpa using h5, ?_⟩
    rw [← h6]
    simp [List.take_set]

theorem Row.block {w : World} {e : TypeId} {size g n cap : Nat} {xs : List Value} (h : Row w e size (.slice (some ⟨g, 0, none⟩) n cap) n xs) : g < w.heap.size := h.lt rfl

/-- Between the loops: two open works, what the first has put. -/
structure Mid (w : World) (b g cap l : Nat) (A : Abs) (wa wb : List (ByteArray × Ver)) (M : List Bool) (L : List ByteArray) (wr : World) : Prop where
  st : SAt K12 (fun k => k < w.heap.size ∨ k = g ∨ k = l) wr b (A.two wa wb)
  keep : Keeps (fun _ => False) w wr
  apart : w.heap.size ≤ g ∧ w.heap.size ≤ l ∧ g ≠ l
  mine : Row wr 4 1 (.slice (some ⟨g, 0, none⟩) 12 cap) 12 (M.map Value.bool)
  last : Row wr 9 1 (.slice (some ⟨l, 0, none⟩) 12 12) 12 (L.map Value.string)
  tieM : ∀ k : Nat, k < 12 → M[k]? = some ((look wa (keyZ k)).isSome)
  tieL : ∀ k : Nat, k < 12 → ∀ v, look wa (keyZ k) = some v → ∃ x, L[k]? = some x ∧ v = ⟨0, x, false⟩

theorem Mid.lens {w : World} {b g cap l : Nat} {A : Abs} {wa wb : List (ByteArray × Ver)} {M : List Bool} {L : List ByteArray} {wr : World} (h : Mid w b g cap l A wa wb M L wr) : M.length = 12 ∧ L.length = 12 := by
  have h1 := h.mine.1
  have h2 := h.last.1
  simp at h1 h2
  exact ⟨h1, h2⟩

theorem Mid.own {w : World} {b g cap l : Nat} {A : Abs} {wa wb : List (ByteArray × Ver)} {M : List Bool} {L : List ByteArray} {wr : World} (h : Mid w b g cap l A wa wb M L wr) : ∀ k, (k < w.heap.size ∨ k = g ∨ k = l) → k < wr.heap.size := by
  intro k hk
  have h1 := h.mine.block
  have h2 := h.last.block
  have h3 := h.keep.size
  omega

theorem Mid.kept {w : World} {b g cap l : Nat} {A : Abs} {wa wb : List (ByteArray × Ver)} {M : List Bool} {L : List ByteArray} {wr wr' : World} (h : Mid w b g cap l A wa wb M L wr) (hk : Keeps (fun _ => False) wr wr') : Mid w b g cap l A wa wb M L wr' :=
  ⟨h.st.kept hk (fun _ _ h => h.elim), h.keep.tr hk (fun _ h => h), h.apart, h.mine.kept hk (fun _ _ h => h), h.last.kept hk (fun _ _ h => h), h.tieM, h.tieL⟩

/-- The cells of both rows, for a walk. -/
theorem Mid.cells {w : World} {b g cap l : Nat} {A : Abs} {wa wb : List (ByteArray × Ver)} {M : List Bool} {L : List ByteArray} {wr : World} (h : Mid w b g cap l A wa wb M L wr) {k : Nat} (hk : k < 12) :
    wr.cell? ⟨g, k, none⟩ = some (.bool (look wa (keyZ k)).isSome) ∧ wr.frozen? ⟨g, k, none⟩ = false ∧ wr.cell? ⟨l, k, none⟩ = some (.string (L.getD k ByteArray.empty)) ∧ wr.frozen? ⟨l, k, none⟩ = false := by
  obtain ⟨e1, e2⟩ := h.lens
  refine ⟨?_, h.mine.frozenAt k, ?_, h.last.frozenAt k⟩
  · rw [h.mine.cellAt k (by omega), List.getElem?_map, h.tieM k hk]; rfl
  · rw [h.last.cellAt k (by omega), List.getElem?_map]
    simp [List.getD, e2, hk]

/-- The first work has put: both rows are told. -/
theorem Mid.putA {w : World} {b g cap l : Nat} {A : Abs} {wa wb : List (ByteArray × Ver)} {M : List Bool} {L : List ByteArray} {wr w2 w3 : World} (h : Mid w b g cap l A wa wb M L wr) {j : Nat} (hj : j < 12) {x : ByteArray}
    (hk2 : Keeps (fun _ => False) ((wr.setCell ⟨g, j, none⟩ (.bool true)).setCell ⟨l, j, none⟩ (.string x)) w2) (s3 : SAt K12 (fun k => k < w.heap.size ∨ k = g ∨ k = l) w3 b ((A.two wa wb).wrote (A.begun + 1) A.now wa (keyZ j) ⟨0, x, false⟩)) (k3 : Keeps (fun k => ¬ (k < w.heap.size ∨ k = g ∨ k = l)) w2 w3) :
    Mid w b g cap l A (put wa (keyZ j) ⟨0, x, false⟩) wb (M.set j true) (L.set j x) w3 := by
  obtain ⟨e1, e2⟩ := h.lens
  obtain ⟨p1, p2, p3⟩ := h.apart
  rw [two_wrote1] at s3
  have hm := ((h.mine.set j (.bool true)).kept (Keeps.setCell _ ⟨l, j, none⟩ (.string x)) (fun k hk e => p3 (by simp [Value.ownBlock] at hk; have e' : k = l := e; omega))).kept hk2 (fun _ _ h => h)
  have hl := ((h.last.kept (Keeps.setCell wr ⟨g, j, none⟩ (.bool true)) (fun k hk e => p3 (by simp [Value.ownBlock] at hk; have e' : k = g := e; omega))).set j (.string x)).kept hk2 (fun _ _ h => h)
  have inj : ∀ k : Nat, k < 12 → (keyZ j = keyZ k ↔ j = k) := fun k hk => ⟨fun e => by have := key_inj (j := (j : Int)) (k := (k : Int)) (by omega) (by omega) (by omega) (by omega) e; omega, fun e => by rw [e]⟩
  refine ⟨s3, ?_, h.apart, ?_, ?_, fun k hk => ?_, fun k hk v hv => ?_⟩
  · have q1 : Keeps (fun _ => False) w (wr.setCell ⟨g, j, none⟩ (.bool true)) := h.keep.trans (Keeps.setCell _ _ _) (fun k hk e => by have e' : k = g := e; omega)
    have q2 : Keeps (fun _ => False) w ((wr.setCell ⟨g, j, none⟩ (.bool true)).setCell ⟨l, j, none⟩ (.string x)) := q1.trans (Keeps.setCell _ _ _) (fun k hk e => by have e' : k = l := e; omega)
    exact (q2.tr hk2 (fun _ h => h)).trans k3 (fun k hk h => h (.inl hk))
  · have := hm.kept k3 (fun k hk h => h (.inr (.inl (by simp [Value.ownBlock] at hk; exact hk.symm))))
    rwa [← List.map_set] at this
  · have := hl.kept k3 (fun k hk h => h (.inr (.inr (by simp [Value.ownBlock] at hk; exact hk.symm))))
    rwa [← List.map_set] at this
  · rw [look_put, List.getElem?_set]
    by_cases e : j = k
    · subst e
      simp [e1, hj]
    · rw [if_neg e, if_neg (fun h => e ((inj k hk).1 h))]
      exact h.tieM k hk
  · rw [look_put] at hv
    rw [List.getElem?_set]
    by_cases e : j = k
    · subst e
      rw [if_pos rfl] at hv
      simp only [Option.some.injEq] at hv
      exact ⟨x, by simp [e2, hj], hv.symm⟩
    · rw [if_neg (fun h => e ((inj k hk).1 h))] at hv
      rw [if_neg e]
      exact h.tieL k hk v hv

/-- The second has put. -/
theorem Mid.putB {w : World} {b g cap l : Nat} {A : Abs} {wa wb : List (ByteArray × Ver)} {M : List Bool} {L : List ByteArray} {wr w3 : World} (h : Mid w b g cap l A wa wb M L wr) {j : Nat} {x : ByteArray}
    (s3 : SAt K12 (fun k => k < w.heap.size ∨ k = g ∨ k = l) w3 b ((A.two wa wb).wrote (A.begun + 2) A.now wb (keyZ j) ⟨0, x, false⟩)) (k3 : Keeps (fun k => ¬ (k < w.heap.size ∨ k = g ∨ k = l)) wr w3) :
    Mid w b g cap l A wa (put wb (keyZ j) ⟨0, x, false⟩) M L w3 := by
  rw [two_wrote2] at s3
  exact ⟨s3, h.keep.trans k3 (fun k hk h => h (.inl hk)), h.apart, h.mine.kept k3 (fun k hk h => h (.inr (.inl (by simp [Value.ownBlock] at hk; exact hk.symm)))), h.last.kept k3 (fun k hk h => h (.inr (.inr (by simp [Value.ownBlock] at hk; exact hk.symm)))), h.tieM, h.tieL⟩

/-- The first row grows. -/
def MineAt (w4 : World) (v : Value) (k : Nat) (wr : World) : Prop :=
  Row wr 4 1 v k ((List.replicate k false).map Value.bool) ∧ (∀ g, v.ownBlock = some g → w4.heap.size ≤ g) ∧ Keeps (fun _ => False) w4 wr

theorem mine_step {w4 wr w5 : World} {v v' : Value} {k : Nat} {o : Obj} (h : MineAt w4 v k wr) (hr : Row w5 4 1 v' (k + 1) ((List.replicate k false).map Value.bool ++ [.bool false])) (hg : (wr.alloc o).grownBy w5 v.ownBlock) (ho : v'.ownBlock = v.ownBlock ∨ v'.ownBlock = some (wr.alloc o).heap.size) : MineAt w4 v' (k + 1) w5 := by
  have hz := h.2.2.size
  refine ⟨?_, fun g hg' => ?_, ?_⟩
  · have e : (List.replicate (k + 1) false).map Value.bool = (List.replicate k false).map Value.bool ++ [.bool false] := by
      rw [List.replicate_succ']; simp
    rw [e]; exact hr
  · rcases ho with e | e
    · exact h.2.1 g (by rw [← e]; exact hg')
    · rw [hg'] at e
      simp at e
      omega
  · refine (h.2.2.al o).trans (Keeps.grown hg) (fun j hj e => ?_)
    have := h.2.1 j e.symm
    omega

theorem made_list (z : Value) (n : Nat) : (madeCells #[z] n).toList = List.replicate n z := by
  rw [List.eq_replicate_iff]
  refine ⟨by simp [madeCells], fun u hu => ?_⟩
  simp only [madeCells, Array.toList_map, List.mem_map] at hu
  obtain ⟨i, _, rfl⟩ := hu
  simp [Nat.mod_one]

theorem mid_start {w w3 wr : World} {b g cap : Nat} {A : Abs} (s3 : SAt K12 (fun k => k < w.heap.size) w3 b (A.two [] [])) (k3 : Keeps (fun _ => False) w w3) (hM : MineAt (w3.alloc (.cells (madeCells #[.string ⟨#[]⟩] 12) 9)) (.slice (some ⟨g, 0, none⟩) 12 cap) 12 wr) :
    Mid w b g cap w3.heap.size A [] [] (List.replicate 12 false) (List.replicate 12 ByteArray.empty) wr := by
  obtain ⟨h1, h2, h3⟩ := hM
  have hg := h2 g rfl
  have z3 := k3.size
  simp at hg
  have k4 : Keeps (fun _ => False) w3 wr := ((Keeps.refl _ w3).al _).tr h3 (fun _ h => h)
  refine ⟨(s3.more (fun k hk => ?_)).kept k4 (fun _ _ h => h.elim), k3.tr k4 (fun _ h => h), ⟨by omega, z3, by omega⟩, h1, ?_, fun k hk => ?_, fun k hk v hv => (by cases hv)⟩
  · rcases hk with hk | rfl | rfl
    · exact .inl hk
    · exact .inr (by omega)
    · exact .inr (Nat.le_refl _)
  · have hb := heap_new w3 (.cells (madeCells #[.string ⟨#[]⟩] 12) 9)
    have hb2 := (h3.block w3.heap.size (by simp) (fun h => h)).trans hb
    exact ⟨by simp, .inr ⟨_, 12, _, rfl, hb2, by omega, by unfold maxLen; omega, by simp [size_madeCells], by rw [made_list]; rfl⟩⟩
  · rw [List.getElem?_replicate, if_pos hk]; rfl

theorem begin_two {w w2 : World} {b : Nat} {A : Abs} (s2 : SAt K12 (fun k => k < w.heap.size) w2 b A.opened) (hz : w.heap.size ≤ w2.heap.size) (hA : A.works = []) (hb : A.begun ≤ 100000) :
    Calls Try.prog 7 #[.pointer (some ⟨b, 0, none⟩)] w2 fun e w' => e = .returned (.tuple #[.int .i64 (A.begun + 2), .int .i64 0]) ∧ SAt K12 (fun k => k < w.heap.size) w' b (A.two [] []) ∧ Keeps (fun k => ¬ k < w.heap.size) w2 w' := by
  have e : A.opened.begun + 1 = A.begun + 2 := by simp only [Abs.opened]; omega
  refine (begin_s s2 (fun j hj => Nat.lt_of_lt_of_le hj hz) (by simp [Abs.opened, hA]) (by simp only [Abs.opened]; omega)).mono ?_
  rintro e' w' ⟨rfl, h1, h2⟩
  rw [two_start hA] at h1
  rw [e]
  exact ⟨rfl, h1, h2⟩

/-- The two rows, behind the works. -/
structure RowsAt (w : World) (g cap l : Nat) (wa : List (ByteArray × Ver)) (M : List Bool) (L : List ByteArray) (wr : World) : Prop where
  keep : Keeps (fun _ => False) w wr
  apart : w.heap.size ≤ g ∧ w.heap.size ≤ l ∧ g ≠ l
  mine : Row wr 4 1 (.slice (some ⟨g, 0, none⟩) 12 cap) 12 (M.map Value.bool)
  last : Row wr 9 1 (.slice (some ⟨l, 0, none⟩) 12 12) 12 (L.map Value.string)
  tieM : ∀ k : Nat, k < 12 → M[k]? = some ((look wa (keyZ k)).isSome)
  tieL : ∀ k : Nat, k < 12 → ∀ v, look wa (keyZ k) = some v → ∃ x, L[k]? = some x ∧ v = ⟨0, x, false⟩

theorem Mid.rows {w : World} {b g cap l : Nat} {A : Abs} {wa wb : List (ByteArray × Ver)} {M : List Bool} {L : List ByteArray} {wr : World} (h : Mid w b g cap l A wa wb M L wr) : RowsAt w g cap l wa M L wr :=
  ⟨h.keep, h.apart, h.mine, h.last, h.tieM, h.tieL⟩

theorem RowsAt.kept {w : World} {g cap l : Nat} {wa : List (ByteArray × Ver)} {M : List Bool} {L : List ByteArray} {wr w3 : World} (h : RowsAt w g cap l wa M L wr) (k3 : Keeps (fun k => ¬ (k < w.heap.size ∨ k = g ∨ k = l)) wr w3) : RowsAt w g cap l wa M L w3 :=
  ⟨h.keep.trans k3 (fun k hk h => h (.inl hk)), h.apart, h.mine.kept k3 (fun k hk h => h (.inr (.inl (by simp [Value.ownBlock] at hk; exact hk.symm)))), h.last.kept k3 (fun k hk h => h (.inr (.inr (by simp [Value.ownBlock] at hk; exact hk.symm)))), h.tieM, h.tieL⟩

theorem RowsAt.own {w : World} {g cap l : Nat} {wa : List (ByteArray × Ver)} {M : List Bool} {L : List ByteArray} {wr : World} (h : RowsAt w g cap l wa M L wr) : ∀ k, (k < w.heap.size ∨ k = g ∨ k = l) → k < wr.heap.size := by
  intro k hk
  have h1 := h.mine.block
  have h2 := h.last.block
  have h3 := h.keep.size
  omega

theorem RowsAt.cells {w : World} {g cap l : Nat} {wa : List (ByteArray × Ver)} {M : List Bool} {L : List ByteArray} {wr : World} (h : RowsAt w g cap l wa M L wr) {k : Nat} (hk : k < 12) :
    wr.cell? ⟨g, k, none⟩ = some (.bool (look wa (keyZ k)).isSome) ∧ ∃ x, wr.cell? ⟨l, k, none⟩ = some (.string x) ∧ ∀ v, look wa (keyZ k) = some v → v = ⟨0, x, false⟩ := by
  have e2 : L.length = 12 := by have := h.last.1; simpa using this
  refine ⟨?_, L.getD k ByteArray.empty, ?_, fun v hv => ?_⟩
  · rw [h.mine.cellAt k (by omega), List.getElem?_map, h.tieM k hk]; rfl
  · rw [h.last.cellAt k (by omega), List.getElem?_map]
    simp [List.getD, e2, hk]
  · obtain ⟨x, hx, e⟩ := h.tieL k hk v hv
    rw [List.getD, hx]
    exact e

/-- the state that the first became -/
def nowA (A : Abs) (wa : List (ByteArray × Ver)) : Int := if wa = [] then A.now else A.now + 1

/-- Commit of the first -/
theorem commit_a {O : Nat → Prop} {w : World} {b : Nat} {A : Abs} {wa wb : List (ByteArray × Ver)} (h : SAt K12 O w b (A.two wa wb)) (hO : ∀ k, O k → k < w.heap.size) (hA : Sound A) (hnow : A.now ≤ 100000) :
    Calls Try.prog 13 #[.pointer (some ⟨b, 0, none⟩), .int .i64 (A.begun + 1)] w fun e w' => e = .returned (.tuple #[.int .i64 (nowA A wa), .int .i64 0]) ∧ SAt K12 O w' b (A.after1 wa wb) ∧ Keeps (fun k => ¬ O k) w w' := by
  by_cases hwa : wa = []
  · subst hwa
    refine (commit_nil h (two_look1 A [] wb)).mono ?_
    rintro e w' ⟨rfl, h1, h2⟩
    rw [after1_nil] at h1
    exact ⟨by simp [nowA], h1, h2⟩
  · refine (commit_s h hO K12_len (two_look1 A wa wb) hwa (by show A.now < _; omega)).mono ?_
    rintro e w' ⟨⟨⟨k, _, hlt⟩, _⟩ | ⟨_, rfl, h1⟩, h2⟩
    · have := hA.last k
      have h' : A.now < lastOf (A.vers k) := hlt
      omega
    · rw [after1_some A wa wb hwa] at h1
      refine ⟨?_, h1, h2⟩
      unfold nowA
      rw [if_neg hwa]
      rfl

/-- Commit of the second: it has written nothing -/
theorem commit_b0 {O : Nat → Prop} {w : World} {b : Nat} {A : Abs} {wa : List (ByteArray × Ver)} (h : SAt K12 O w b (A.after1 wa [])) :
    Calls Try.prog 13 #[.pointer (some ⟨b, 0, none⟩), .int .i64 (A.begun + 2)] w fun e w' => e = .returned (.tuple #[.int .i64 A.now, .int .i64 0]) ∧ Keeps (fun k => ¬ O k) w w' := by
  refine (commit_nil h (after1_look A wa [])).mono ?_
  rintro e w' ⟨rfl, h1, h2⟩
  exact ⟨rfl, h2⟩

/-- .. a key that the first has written, too -/
theorem commit_b1 {O : Nat → Prop} {w : World} {b : Nat} {A : Abs} {wa wb : List (ByteArray × Ver)} (h : SAt K12 O w b (A.after1 wa wb)) (hO : ∀ k, O k → k < w.heap.size) (hA : Sound A) (hnow : A.now ≤ 100000) (hc : clashB wa wb = true) :
    Calls Try.prog 13 #[.pointer (some ⟨b, 0, none⟩), .int .i64 (A.begun + 2)] w fun e w' => e = .returned (.tuple #[.int .i64 0, .int .i64 4]) ∧ SAt K12 O w' b (A.after0 wa) ∧ Keeps (fun k => ¬ O k) w w' := by
  obtain ⟨k, hk, hs⟩ := (clashB_iff wa wb).1 hc
  have hwb : wb ≠ [] := fun e => by rw [e] at hk; cases hk
  refine (commit_s h hO K12_len (after1_look A wa wb) hwb (by show (if wa = [] then A.now else A.now + 1) < _; split <;> omega)).mono ?_
  rintro e w' ⟨⟨_, rfl, h1⟩ | ⟨hall, _⟩, h2⟩
  · rw [after0_eq] at h1
    exact ⟨rfl, h1, h2⟩
  · have h3 := hall k hk
    have h4 := (after1_last hA wa wb k).2 hs
    omega

/-- .. none -/
theorem commit_b2 {O : Nat → Prop} {w : World} {b : Nat} {A : Abs} {wa wb : List (ByteArray × Ver)} (h : SAt K12 O w b (A.after1 wa wb)) (hO : ∀ k, O k → k < w.heap.size) (hA : Sound A) (hnow : A.now ≤ 100000) (hwb : wb ≠ []) (hc : clashB wa wb = false) :
    Calls Try.prog 13 #[.pointer (some ⟨b, 0, none⟩), .int .i64 (A.begun + 2)] w fun e w' => e = .returned (.tuple #[.int .i64 (nowA A wa + 1), .int .i64 0]) ∧ Keeps (fun k => ¬ O k) w w' := by
  refine (commit_s h hO K12_len (after1_look A wa wb) hwb (by show (if wa = [] then A.now else A.now + 1) < _; split <;> omega)).mono ?_
  rintro e w' ⟨⟨⟨k, hk, hlt⟩, _⟩ | ⟨_, rfl, h1⟩, h2⟩
  · have h3 := (after1_last hA wa wb k).1 hlt
    have h4 := (clashB_iff wa wb).2 ⟨k, hk, h3⟩
    rw [hc] at h4
    cases h4
  · exact ⟨rfl, h2⟩

theorem clash_ne {wa wb : List (ByteArray × Ver)} (h : clashB wa wb = true) : wa ≠ [] ∧ wb ≠ [] := by
  obtain ⟨k, hk, hs⟩ := (clashB_iff wa wb).1 h
  exact ⟨fun e => (by rw [e] at hs; cases hs), fun e => (by rw [e] at hk; cases hk)⟩

/-- Look of two open works -/
theorem look_two {O : Nat → Prop} {w : World} {b : Nat} {A : Abs} {wa wb : List (ByteArray × Ver)} (h : SAt K12 O w b (A.two wa wb)) (hA : Sound A) :
    Calls Try.prog 12 #[.pointer (some ⟨b, 0, none⟩)] w fun e w' => (∃ x1 x2 x3 x4 x5 : Int, e = .returned (.agg #[.int .i64 A.now, .int .i64 x1, .int .i64 x2, .int .i64 x3, .int .i64 x4, .int .i64 x5])) ∧ SAt K12 O w' b (A.two wa wb) ∧ Keeps (fun _ => False) w w' := by
  refine (look_s h (by have := hA.begun; show 1 ≤ A.begun + 2; omega)).mono ?_
  rintro e w' ⟨⟨c, rfl⟩, h1, h2⟩
  exact ⟨⟨_, _, _, _, _, rfl⟩, h1, h2⟩

/-- behind both, works that begin and end -/
def Abs.late (A : Abs) (wa : List (ByteArray × Ver)) (n : Int) : Abs := { A.after0 wa with begun := n }

theorem late_look {O : Nat → Prop} {w : World} {b : Nat} {A : Abs} {wa : List (ByteArray × Ver)} {n : Int} (h : SAt K12 O w b (A.late wa n)) (hn : 1 ≤ n) :
    Calls Try.prog 12 #[.pointer (some ⟨b, 0, none⟩)] w fun e w' => (∃ x1 x2 x3 x4 x5 : Int, e = .returned (.agg #[.int .i64 (nowA A wa), .int .i64 x1, .int .i64 x2, .int .i64 x3, .int .i64 x4, .int .i64 x5])) ∧ Keeps (fun _ => False) w w' := by
  refine (look_s h hn).mono ?_
  rintro e w' ⟨⟨c, rfl⟩, h1, h2⟩
  exact ⟨⟨_, _, _, _, _, rfl⟩, h2⟩

theorem late_begin {O : Nat → Prop} {w : World} {b : Nat} {A : Abs} {wa : List (ByteArray × Ver)} {n : Int} (h : SAt K12 O w b (A.late wa n)) (hO : ∀ k, O k → k < w.heap.size) (hn : n ≤ 1000000) :
    Calls Try.prog 7 #[.pointer (some ⟨b, 0, none⟩)] w fun e w' => e = .returned (.tuple #[.int .i64 (n + 1), .int .i64 0]) ∧ SAt K12 O w' b (A.late wa n).opened ∧ Keeps (fun k => ¬ O k) w w' :=
  begin_s h hO (by simp [Abs.late, Abs.after0]) (by show n < _; omega)

theorem late_abort {O : Nat → Prop} {w : World} {b : Nat} {A : Abs} {wa : List (ByteArray × Ver)} {n : Int} (h : SAt K12 O w b (A.late wa n).opened) :
    Calls Try.prog 15 #[.pointer (some ⟨b, 0, none⟩), .int .i64 (n + 1)] w fun e w' => e = .returned (.int .i64 0) ∧ SAt K12 O w' b (A.late wa (n + 1)) ∧ Keeps (fun k => ¬ O k) w w' := by
  refine (abort_s (bg := (A.late wa n).now) (ws := []) h (by simp [Abs.opened, Abs.late, Abs.after0, look])).mono ?_
  rintro e w' ⟨rfl, h1, h2⟩
  refine ⟨rfl, ?_, h2⟩
  have e : (A.late wa n).opened.ended (n + 1) = A.late wa (n + 1) := by simp [Abs.opened, Abs.late, Abs.after0, Abs.ended, del]
  rwa [e] at h1

/-- Get, of a key that the first has put -/
theorem late_get {O : Nat → Prop} {w : World} {b : Nat} {A : Abs} {wa : List (ByteArray × Ver)} {n : Int} {k : Nat} {x : ByteArray} (h : SAt K12 O w b (A.late wa n).opened) (hA : Sound A) (hk : k < 12) (hx : look wa (keyZ k) = some ⟨0, x, false⟩) :
    Calls Try.prog 14 #[.pointer (some ⟨b, 0, none⟩), .int .i64 (n + 1), .string (keyZ k)] w fun e w' => e = .returned (.tuple #[.string x, .int .i64 0]) ∧ SAt K12 O w' b (A.late wa n).opened ∧ Keeps (fun _ => False) w w' := by
  refine (get_s (n := n + 1) (key := keyZ k) h (key_size (by omega) (by omega))).mono ?_
  rintro e w' ⟨rfl, h1, h2⟩
  have e := after0_get hA (wa := wa) (key := keyZ k) (val := x) (key_ok (by omega) (by omega)) hx n
  have e' : (A.late wa n).opened.get (n + 1) (keyZ k) = (x, 0) := e
  rw [e']
  exact ⟨rfl, h1, h2⟩

theorem state_now (y0 y1 y2 y3 y4 y5 : Int) (w : World) : (Instr.field 38 (.agg #[.int .i64 y0, .int .i64 y1, .int .i64 y2, .int .i64 y3, .int .i64 y4, .int .i64 y5]) 0).run Try.prog w = .ok (.int .i64 y0) w := by kernel_rfl

end Go.Proofs.Ytfcocbcihhdbkaa

/- What a work sees, whatever is committed and swept meanwhile. -/
namespace Go.Proofs.Ytfcocbcihhdbkaa
open Go.RowKit Go.Shelf

theorem pairOf_nil (vers : ByteArray → List Ver) (bg : Int) (k : ByteArray) : pairOf [] vers bg k = if standsB (atVer (vers k) bg) = true then some (k, ((atVer (vers k) bg).getD Ver.zero).value) else none := rfl

theorem scan_next {A : Abs} (h : Sound A) {bg : Int} (hb : bg ≤ A.now) (key val : ByteArray) (gone : Bool) : (A.next key val gone).scan bg [] = A.scan bg [] := by
  unfold Abs.scan
  congr 1
  funext k
  have e : atVer ((A.next key val gone).vers k) bg = atVer (A.vers k) bg := by
    simp only [Abs.next]
    split
    · exact at_more (h.rising k) (by simp; omega)
    · rfl
  rw [pairOf_nil, pairOf_nil, e]

theorem scan_swept {A : Abs} (h : Sound A) {bg L : Int} (hb : L ≤ bg) : (A.swept L).scan bg [] = A.scan bg [] := by
  unfold Abs.scan
  congr 1
  funext k
  obtain ⟨e1, e2⟩ := at_swept (L := L) (t := bg) (h.rising k) hb
  have e0 : (A.swept L).vers k = (A.vers k).drop (needN (A.vers k) L) := rfl
  rw [pairOf_nil, pairOf_nil, e0, e1]
  cases hs : standsB (atVer (A.vers k) bg) with
  | false => simp
  | true => rw [e2 hs]

theorem filterMap_but {f : ByteArray → Option (ByteArray × ByteArray)} (hf : ∀ k p, f k = some p → p.1 = k) (key : ByteArray) : ∀ ks : List ByteArray, ks.filterMap (fun k => if k = key then none else f k) = (ks.filterMap f).filter (fun p => decide (p.1 ≠ key))
  | [] => rfl
  | k :: ks => by
    have ih := filterMap_but hf key ks
    by_cases e : k = key
    · cases h : f k with
      | none => simp only [List.filterMap_cons, e, if_true, ih]; rw [← e, h]
      | some p =>
        have hp := hf k p h
        have hd : decide (p.1 ≠ key) = false := by simp [hp, e]
        simp only [List.filterMap_cons, if_pos e, h, ih, List.filter_cons, hd]
        simp
    · cases h : f k with
      | none => simp only [List.filterMap_cons, if_neg e, h, ih]
      | some p =>
        have hp := hf k p h
        have hd : decide (p.1 ≠ key) = true := by simp [hp, e]
        simp only [List.filterMap_cons, if_neg e, h, ih, List.filter_cons, hd]
        simp

theorem scan_gone (A : Abs) (bg : Int) (key : ByteArray) : A.scan bg [(key, ⟨0, ByteArray.empty, true⟩)] = (A.scan bg []).filter (fun p => decide (p.1 ≠ key)) := by
  unfold Abs.scan
  rw [← filterMap_but (fun k p h => ?_) key]
  · congr 1
    funext k
    by_cases e : k = key
    · subst e
      simp [pairOf, seeVer, look, standsB]
    · have e' : ¬ key = k := fun h => e h.symm
      rw [if_neg e]
      simp [pairOf, seeVer, look, e']
      rfl
  · rw [pairOf_nil] at h
    split at h
    · simp only [Option.some.injEq] at h
      rw [← h]
    · cases h

/-- one open work -/
structure SteadyAt (w0 : World) (b : Nat) (wn bg : Int) (ps : List (ByteArray × ByteArray)) (vl : Value) (k : Nat) (A : Abs) (wr : World) : Prop where
  st : SAt K12 (fun j => j < w0.heap.size ∨ vl.ownBlock = some j) wr b A
  works : A.works = [(wn, (bg, []))]
  scan : A.scan bg [] = ps
  now : bg ≤ A.now ∧ A.now ≤ 100000 + k
  begun : 1 ≤ A.begun ∧ A.begun ≤ 100001 + k
  row : Row wr 52 2 vl ps.length (ps.flatMap pairCells)
  own : ∀ g, vl.ownBlock = some g → w0.heap.size ≤ g
  keep : Keeps (fun _ => False) w0 wr

theorem SteadyAt.room {w0 : World} {b : Nat} {wn bg : Int} {ps : List (ByteArray × ByteArray)} {vl : Value} {k : Nat} {A : Abs} {wr : World} (h : SteadyAt w0 b wn bg ps vl k A wr) : ∀ j, (j < w0.heap.size ∨ vl.ownBlock = some j) → j < wr.heap.size := by
  rintro j (hj | hj)
  · exact Nat.lt_of_lt_of_le hj h.keep.size
  · exact h.row.lt hj

theorem SteadyAt.kept {w0 : World} {b : Nat} {wn bg : Int} {ps : List (ByteArray × ByteArray)} {vl : Value} {k : Nat} {A A' : Abs} {wr w' : World} (h : SteadyAt w0 b wn bg ps vl k A wr) {k' : Nat} (s : SAt K12 (fun j => j < w0.heap.size ∨ vl.ownBlock = some j) w' b A') (hk : Keeps (fun j => ¬ (j < w0.heap.size ∨ vl.ownBlock = some j)) wr w')
    (h1 : A'.works = A.works) (h2 : A'.scan bg [] = A.scan bg []) (h3 : bg ≤ A'.now ∧ A'.now ≤ 100000 + k') (h4 : 1 ≤ A'.begun ∧ A'.begun ≤ 100001 + k') : SteadyAt w0 b wn bg ps vl k' A' w' :=
  ⟨s, h1.trans h.works, h2.trans h.scan, h3, h4, h.row.kept hk (fun _ hg hn => hn (.inr hg)), h.own, h.keep.trans hk (fun _ hj hn => hn (.inl hj))⟩

theorem SteadyAt.wrote {w0 : World} {b : Nat} {wn bg : Int} {ps : List (ByteArray × ByteArray)} {vl : Value} {k : Nat} {A : Abs} {wr w' : World} {what key : Int} {val : ByteArray} {e : Ending} (h : SteadyAt w0 b wn bg ps vl k A wr) (hw : WritePost (fun j => j < w0.heap.size ∨ vl.ownBlock = some j) b A what key val wr e w') :
    e = .returned (.bool true) ∧ ∃ A', SteadyAt w0 b wn bg ps vl (k + 1) A' w' := by
  obtain ⟨rfl, s, hk⟩ := hw
  have hn := h.now
  have hb := h.begun
  refine ⟨rfl, _, h.kept s hk rfl (scan_next h.st.sound hn.1 _ _ _) ⟨?_, ?_⟩ ⟨?_, ?_⟩⟩
  · show bg ≤ A.now + 1
    omega
  · show A.now + 1 ≤ _
    omega
  · show 1 ≤ A.begun + 1
    omega
  · show A.begun + 1 ≤ _
    omega

theorem SteadyAt.swept {w0 : World} {b : Nat} {wn bg : Int} {ps : List (ByteArray × ByteArray)} {vl : Value} {k : Nat} {A : Abs} {wr w' : World} {L : Int} (h : SteadyAt w0 b wn bg ps vl k A wr) (hL : IsLeast A.now (A.works.map (·.2.1)) L) (s : SAt K12 (fun j => j < w0.heap.size ∨ vl.ownBlock = some j) w' b (A.swept L)) (hk : Keeps (fun j => ¬ (j < w0.heap.size ∨ vl.ownBlock = some j)) wr w') :
    SteadyAt w0 b wn bg ps vl k (A.swept L) w' := by
  have hle : L ≤ bg := hL.2.1 bg (by rw [h.works]; simp)
  exact h.kept s hk rfl (scan_swept h.st.sound hle) h.now h.begun

end Go.Proofs.Ytfcocbcihhdbkaa

/- The calls that Steady makes of its work. -/
namespace Go.Proofs.Ytfcocbcihhdbkaa
open Go.RowKit Go.Shelf

theorem look_one {β : Type} (n : Int) (x : β) : look [(n, x)] n = some x := by simp [look]

/-- behind Begin -/
def BegunAt (w0 : World) (b : Nat) (wn bg : Int) (A : Abs) (wr : World) : Prop :=
  SAt K12 (fun j => j < w0.heap.size) wr b A ∧ A.works = [(wn, (bg, []))] ∧ (bg ≤ A.now ∧ A.now ≤ 100000) ∧ (1 ≤ A.begun ∧ A.begun ≤ 100001) ∧ Keeps (fun _ => False) w0 wr

theorem steady_begin {w0 wr : World} {b : Nat} (h : FirstBefore w0 b wr) :
    Calls Try.prog 7 #[.pointer (some ⟨b, 0, none⟩)] wr fun e w' => ∃ wn bg A, e = .returned (.tuple #[.int .i64 wn, .int .i64 0]) ∧ BegunAt w0 b wn bg A w' := by
  obtain ⟨A, s, a1, a2, a3, k⟩ := h
  have hS := s.sound.begun
  refine (begin_s s (fun j hj => Nat.lt_of_lt_of_le hj k.size) (by rw [a1]; simp) (by omega)).mono ?_
  rintro e w' ⟨rfl, s2, k2⟩
  refine ⟨A.begun + 1, A.now, A.opened, rfl, s2, by simp [Abs.opened, a1], ⟨Int.le_refl _, a2⟩, ⟨?_, ?_⟩, k.trans k2 (fun j hj h => h hj)⟩
  · show 1 ≤ A.begun + 1
    omega
  · show A.begun + 1 ≤ _
    omega

theorem steady_scan0 {w0 wr : World} {b : Nat} {wn bg : Int} {A : Abs} (h : BegunAt w0 b wn bg A wr) :
    Calls Try.prog 16 #[.pointer (some ⟨b, 0, none⟩), .int .i64 wn, .string ⟨#[]⟩, .int .i64 (-1)] wr fun e w' => ∃ ps vl, e = .returned (.tuple #[vl, .int .i64 0]) ∧ SteadyAt w0 b wn bg ps vl 0 A w' := by
  obtain ⟨s, a1, a2, a3, k⟩ := h
  have s' := s.more (O' := fun j => j < w0.heap.size ∨ wr.heap.size ≤ j) (fun j hj => hj)
  refine (scan_s s' (by rw [a1]; exact look_one _ _)).mono ?_
  rintro e w' ⟨v, rfl, hrow, hown, s2, k2⟩
  refine ⟨_, v, rfl, s2.more (fun j hj => ?_), a1, rfl, ⟨a2.1, by have := a2.2; omega⟩, ⟨a3.1, by have := a3.2; omega⟩, hrow, fun g hg => Nat.le_trans k.size (hown g hg), k.tr k2 (fun _ h => h)⟩
  rcases hj with hj | hj
  · exact .inl (.inl hj)
  · exact .inl (.inr (hown j hj))

theorem SteadyAt.still {w0 : World} {b : Nat} {wn bg : Int} {ps : List (ByteArray × ByteArray)} {vl : Value} {k : Nat} {A : Abs} {wr w' : World} (h : SteadyAt w0 b wn bg ps vl k A wr) (hk : Keeps (fun _ => False) wr w') : SteadyAt w0 b wn bg ps vl k A w' :=
  h.kept (h.st.kept hk (fun _ _ h => h.elim)) (hk.mono (fun _ _ h => h.elim)) rfl rfl h.now h.begun

theorem SteadyAt.scanned {w0 : World} {b : Nat} {wn bg : Int} {ps : List (ByteArray × ByteArray)} {vl : Value} {k : Nat} {A : Abs} {wr : World} (h : SteadyAt w0 b wn bg ps vl k A wr) :
    Calls Try.prog 16 #[.pointer (some ⟨b, 0, none⟩), .int .i64 wn, .string ⟨#[]⟩, .int .i64 (-1)] wr fun e w' => ∃ m, e = .returned (.tuple #[m, .int .i64 0]) ∧ SteadyAt w0 b wn bg ps vl k A w' ∧ Row w' 52 2 m ps.length (ps.flatMap pairCells) := by
  refine (scan_s h.st (by rw [h.works]; exact look_one _ _)).mono ?_
  rintro e w' ⟨v, rfl, hrow, -, -, k2⟩
  rw [h.scan] at hrow
  exact ⟨v, rfl, h.still k2, hrow⟩

theorem SteadyAt.sweeps {w0 : World} {b : Nat} {wn bg : Int} {ps : List (ByteArray × ByteArray)} {vl : Value} {k : Nat} {A : Abs} {wr : World} (h : SteadyAt w0 b wn bg ps vl k A wr) :
    Calls Try.prog 17 #[.pointer (some ⟨b, 0, none⟩)] wr fun e w' => ∃ (z : Int) (A' : Abs), e = .returned (.int .i64 z) ∧ SteadyAt w0 b wn bg ps vl k A' w' := by
  refine (sweep_s h.st h.room K12_len h.begun.1).mono ?_
  rintro e w' ⟨L, z, rfl, hL, s, hk⟩
  exact ⟨z, _, rfl, h.swept hL s hk⟩

/-- the work has written -/
structure OwnAt (w0 : World) (b : Nat) (wn bg : Int) (ps : List (ByteArray × ByteArray)) (vl : Value) (ws : List (ByteArray × Ver)) (A : Abs) (wr : World) : Prop where
  st : SAt K12 (fun j => j < w0.heap.size ∨ vl.ownBlock = some j) wr b A
  works : A.works = [(wn, (bg, ws))]
  scan : A.scan bg [] = ps
  row : Row wr 52 2 vl ps.length (ps.flatMap pairCells)
  own : ∀ g, vl.ownBlock = some g → w0.heap.size ≤ g
  keep : Keeps (fun _ => False) w0 wr

theorem SteadyAt.mine {w0 : World} {b : Nat} {wn bg : Int} {ps : List (ByteArray × ByteArray)} {vl : Value} {k : Nat} {A : Abs} {wr : World} (h : SteadyAt w0 b wn bg ps vl k A wr) : OwnAt w0 b wn bg ps vl [] A wr :=
  ⟨h.st, h.works, h.scan, h.row, h.own, h.keep⟩

theorem OwnAt.still {w0 : World} {b : Nat} {wn bg : Int} {ps : List (ByteArray × ByteArray)} {vl : Value} {ws : List (ByteArray × Ver)} {A : Abs} {wr w' : World} (h : OwnAt w0 b wn bg ps vl ws A wr) (hk : Keeps (fun _ => False) wr w') : OwnAt w0 b wn bg ps vl ws A w' :=
  ⟨h.st.kept hk (fun _ _ h => h.elim), h.works, h.scan, h.row.kept hk (fun _ _ h => h), h.own, h.keep.tr hk (fun _ h => h)⟩

theorem OwnAt.wrote {w0 : World} {b : Nat} {wn bg : Int} {ps : List (ByteArray × ByteArray)} {vl : Value} {ws : List (ByteArray × Ver)} {A : Abs} {wr w' : World} {key : ByteArray} {v : Ver} (h : OwnAt w0 b wn bg ps vl ws A wr) (s : SAt K12 (fun j => j < w0.heap.size ∨ vl.ownBlock = some j) w' b (A.wrote wn bg ws key v)) (hk : Keeps (fun j => ¬ (j < w0.heap.size ∨ vl.ownBlock = some j)) wr w') :
    OwnAt w0 b wn bg ps vl (put ws key v) (A.wrote wn bg ws key v) w' :=
  ⟨s, by simp [Abs.wrote, h.works, put], h.scan, h.row.kept hk (fun _ hg hn => hn (.inr hg)), h.own, h.keep.trans hk (fun _ hj hn => hn (.inl hj))⟩

theorem OwnAt.puts {w0 : World} {b : Nat} {wn bg : Int} {ps : List (ByteArray × ByteArray)} {vl : Value} {A : Abs} {wr : World} {j : Nat} {val : ByteArray} (h : OwnAt w0 b wn bg ps vl [] A wr) (hj : j < 12) (hv : valB val = true) :
    Calls Try.prog 10 #[.pointer (some ⟨b, 0, none⟩), .int .i64 wn, .string (keyZ j), .string val] wr fun e w' => ∃ A', e = .returned (.int .i64 0) ∧ OwnAt w0 b wn bg ps vl [(keyZ j, ⟨0, val, false⟩)] A' w' := by
  refine (put_s h.st K12_len (by rw [h.works]; exact look_one _ _) (key_mem (by omega) (by omega)) (key_ok (by omega) (by omega)) hv).mono ?_
  rintro e w' ⟨rfl, s, hk⟩
  exact ⟨_, rfl, h.wrote s hk⟩

theorem OwnAt.gets {w0 : World} {b : Nat} {wn bg : Int} {ps : List (ByteArray × ByteArray)} {vl : Value} {A : Abs} {wr : World} {j : Nat} {val : ByteArray} (h : OwnAt w0 b wn bg ps vl [(keyZ j, ⟨0, val, false⟩)] A wr) (hj : j < 12) :
    Calls Try.prog 14 #[.pointer (some ⟨b, 0, none⟩), .int .i64 wn, .string (keyZ j)] wr fun e w' => e = .returned (.tuple #[.string val, .int .i64 0]) ∧ OwnAt w0 b wn bg ps vl [(keyZ j, ⟨0, val, false⟩)] A w' := by
  have e : A.get wn (keyZ j) = (val, 0) := by
    have hk : keyB (keyZ j) = true := key_ok (by omega) (by omega)
    simp [Abs.get, h.works, look, hk, seeVer, standsB]
  refine (get_s (n := wn) h.st (key_size (k := j) (by omega) (by omega))).mono ?_
  rintro e' w' ⟨rfl, -, hk⟩
  rw [e]
  exact ⟨rfl, h.still hk⟩

theorem OwnAt.deletes {w0 : World} {b : Nat} {wn bg : Int} {ps : List (ByteArray × ByteArray)} {vl : Value} {A : Abs} {wr : World} {j : Nat} {val : ByteArray} (h : OwnAt w0 b wn bg ps vl [(keyZ j, ⟨0, val, false⟩)] A wr) (hj : j < 12) :
    Calls Try.prog 19 #[.pointer (some ⟨b, 0, none⟩), .int .i64 wn, .string (keyZ j)] wr fun e w' => ∃ A', e = .returned (.int .i64 0) ∧ OwnAt w0 b wn bg ps vl [(keyZ j, ⟨0, ByteArray.empty, true⟩)] A' w' := by
  refine (delete_s h.st K12_len (by rw [h.works]; exact look_one _ _) (key_mem (k := j) (by omega) (by omega)) (key_ok (by omega) (by omega))).mono ?_
  rintro e w' ⟨rfl, s, hk⟩
  have h2 := h.wrote s hk
  simp only [put, if_true] at h2
  exact ⟨_, rfl, h2⟩

theorem OwnAt.getsNone {w0 : World} {b : Nat} {wn bg : Int} {ps : List (ByteArray × ByteArray)} {vl : Value} {A : Abs} {wr : World} {j : Nat} (h : OwnAt w0 b wn bg ps vl [(keyZ j, ⟨0, ByteArray.empty, true⟩)] A wr) (hj : j < 12) :
    Calls Try.prog 14 #[.pointer (some ⟨b, 0, none⟩), .int .i64 wn, .string (keyZ j)] wr fun e w' => e = .returned (.tuple #[.string ⟨#[]⟩, .int .i64 1]) ∧ OwnAt w0 b wn bg ps vl [(keyZ j, ⟨0, ByteArray.empty, true⟩)] A w' := by
  have e : A.get wn (keyZ j) = (⟨#[]⟩, 1) := by
    have hk : keyB (keyZ j) = true := key_ok (by omega) (by omega)
    simp [Abs.get, h.works, look, hk, seeVer, standsB]
    rfl
  refine (get_s (n := wn) h.st (key_size (k := j) (by omega) (by omega))).mono ?_
  rintro e' w' ⟨rfl, -, hk⟩
  rw [e]
  exact ⟨rfl, h.still hk⟩

theorem OwnAt.scanned {w0 : World} {b : Nat} {wn bg : Int} {ps : List (ByteArray × ByteArray)} {vl : Value} {key : ByteArray} {A : Abs} {wr : World} (h : OwnAt w0 b wn bg ps vl [(key, ⟨0, ByteArray.empty, true⟩)] A wr) :
    Calls Try.prog 16 #[.pointer (some ⟨b, 0, none⟩), .int .i64 wn, .string ⟨#[]⟩, .int .i64 (-1)] wr fun e w' => ∃ m, e = .returned (.tuple #[m, .int .i64 0]) ∧ Keeps (fun _ => False) w0 w' ∧ Row w' 52 2 vl ps.length (ps.flatMap pairCells) ∧
      Row w' 52 2 m (ps.filter (fun p => decide (p.1 ≠ key))).length ((ps.filter (fun p => decide (p.1 ≠ key))).flatMap pairCells) := by
  refine (scan_s h.st (by rw [h.works]; exact look_one _ _)).mono ?_
  rintro e w' ⟨v, rfl, hrow, -, -, k2⟩
  rw [scan_gone, h.scan] at hrow
  exact ⟨v, rfl, (h.still k2).keep, (h.still k2).row, hrow⟩

/-- what is wanted, as far as it has been made -/
def WantAt (w9 : World) (v : Value) (xs : List (ByteArray × ByteArray)) (wr : World) : Prop :=
  Row wr 52 2 v xs.length (xs.flatMap pairCells) ∧ (∀ g, v.ownBlock = some g → w9.heap.size ≤ g) ∧ Keeps (fun _ => False) w9 wr

theorem want_step {w9 wr w5 : World} {v v' : Value} {xs : List (ByteArray × ByteArray)} {p : ByteArray × ByteArray} {o : Obj} (h : WantAt w9 v xs wr) (hr : Row w5 52 2 v' (xs.length + 1) (xs.flatMap pairCells ++ [.string p.1, .string p.2])) (hg : (wr.alloc o).grownBy w5 v.ownBlock) (ho : v'.ownBlock = v.ownBlock ∨ v'.ownBlock = some (wr.alloc o).heap.size) : WantAt w9 v' (xs ++ [p]) w5 := by
  have hz := h.2.2.size
  refine ⟨?_, fun g hg' => ?_, ?_⟩
  · have e : (xs ++ [p]).flatMap pairCells = xs.flatMap pairCells ++ [.string p.1, .string p.2] := by
      simp [pairCells]
    rw [e, List.length_append]; exact hr
  · rcases ho with e | e
    · exact h.2.1 g (by rw [← e]; exact hg')
    · rw [hg'] at e
      simp at e
      omega
  · refine (h.2.2.al o).trans (Keeps.grown hg) (fun j hj e => ?_)
    have := h.2.1 j e.symm
    omega

end Go.Proofs.Ytfcocbcihhdbkaa
