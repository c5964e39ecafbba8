import Derived.Test.YtgianpccgcjmjaaGreatDoorM13
import Derived.Deep.QuietTactic
import Derived.BigQuiet
import Derived.Deep.RegionHeld3

/- Streams as texts: how they are written, how they are read: pure. -/

namespace Go.Proofs.YtgianpccgcjmjaaGreatDoor

/-- a record -/
structure Rec where
  key : List UInt8
  value : List UInt8
  gone : Bool

/-- how many bytes two texts have in common at their beginning -/
def common : List UInt8 → List UInt8 → Nat
  | x :: a, y :: b => if x = y then common a b + 1 else 0
  | _, _ => 0

theorem common_le : ∀ a b : List UInt8, common a b ≤ a.length ∧ common a b ≤ b.length
  | [], b => by simp [common]
  | x :: a, [] => by simp [common]
  | x :: a, y :: b => by
    simp only [common]
    split
    · have := common_le a b
      simp; omega
    · simp

theorem common_take : ∀ a b : List UInt8, a.take (common a b) = b.take (common a b)
  | [], b => by simp [common]
  | x :: a, [] => by simp [common]
  | x :: a, y :: b => by
    simp only [common]
    split
    · rename_i e
      simp [e, common_take a b]
    · simp

def tailOf (r : Rec) : List UInt8 := if r.gone then numL 0 else numL (1 + r.value.length) ++ r.value

/-- a record behind one with the key ahead -/
def recL (ahead : List UInt8) (r : Rec) : List UInt8 :=
  numL (common ahead r.key) ++ (numL (r.key.length - common ahead r.key) ++ (r.key.drop (common ahead r.key) ++ tailOf r))

def recsL : List UInt8 → List Rec → List UInt8
  | _, [] => []
  | a, r :: rs => recL a r ++ recsL r.key rs

def blockB (rs : List Rec) : List UInt8 := numL rs.length ++ recsL [] rs

def blockL (rs : List Rec) : List UInt8 := blockB rs ++ checkL (blockB rs)

def blocksF : Nat → List Rec → List UInt8
  | 0, _ => []
  | _ + 1, [] => []
  | f + 1, r :: rs => blockL ((r :: rs).take 4) ++ blocksF f ((r :: rs).drop 4)

def blocksL (rs : List Rec) : List UInt8 := blocksF rs.length rs

theorem blocksF_same : ∀ (f g : Nat) (rs : List Rec), rs.length ≤ f → rs.length ≤ g → blocksF f rs = blocksF g rs
  | 0, 0, _, _, _ => rfl
  | 0, _ + 1, [], _, _ => rfl
  | _ + 1, 0, [], _, _ => rfl
  | _ + 1, _ + 1, [], _, _ => rfl
  | 0, _ + 1, _ :: _, h, _ => by simp at h
  | _ + 1, 0, _ :: _, _, h => by simp at h
  | f + 1, g + 1, r :: rs, hf, hg => by
    rw [blocksF, blocksF, blocksF_same f g _ (by simp at hf ⊢; omega) (by simp at hg ⊢; omega)]

theorem blocksL_nil : blocksL [] = [] := rfl

theorem blocksL_more {rs : List Rec} (h : ¬ rs = []) : blocksL rs = blockL (rs.take 4) ++ blocksL (rs.drop 4) := by
  cases rs with
  | nil => exact absurd rfl h
  | cons r rs =>
    unfold blocksL
    rw [List.length_cons, blocksF, blocksF_same rs.length _ _ (by simp) (Nat.le_refl _)]

def kindL (full : Bool) : List UInt8 := if full then [65, 78, 78, 70] else [65, 78, 78, 68]

def headL (full : Bool) (a b : Nat) : List UInt8 := kindL full ++ numL a ++ numL b

/-- a stream -/
structure Str where
  full : Bool
  a : Nat
  b : Nat
  recs : List Rec

def bodyL (x : Str) : List UInt8 := headL x.full x.a x.b ++ (blocksL x.recs ++ (numL 0 ++ numL x.recs.length))

def streamL (x : Str) : List UInt8 := bodyL x ++ checkL (bodyL x)

/-- reads so many bytes -/
def takeAt (n : Nat) (l : List UInt8) : Option (List UInt8 × List UInt8) := if n ≤ l.length then some (l.take n, l.drop n) else none

/-- reads a number -/
def nrAt (l : List UInt8) : Option (Nat × List UInt8) := (numAt l).map fun x => (x.1, l.drop x.2)

/-- reads one within bounds -/
def bndAt (least most : Nat) (l : List UInt8) : Option (Nat × List UInt8) := (nrAt l).bind fun x => if least ≤ x.1 ∧ x.1 ≤ most then some x else none

def valAt (key : List UInt8) (size : Nat) (l : List UInt8) : Option (Rec × List UInt8) :=
  if size = 0 then some (⟨key, [], true⟩, l) else (takeAt (size - 1) l).map fun v => (⟨key, v.1, false⟩, v.2)

def recAt (ahead : List UInt8) (l : List UInt8) : Option (Rec × List UInt8) :=
  (bndAt 0 ahead.length l).bind fun c => (bndAt (1 - c.1) (10 - c.1) c.2).bind fun m => (takeAt m.1 m.2).bind fun rest =>
    (bndAt 0 41 rest.2).bind fun s => valAt (ahead.take c.1 ++ rest.1) s.1 s.2

def recsAt : Nat → List UInt8 → List UInt8 → Option (List Rec × List UInt8)
  | 0, _, l => some ([], l)
  | n + 1, ahead, l => (recAt ahead l).bind fun r => (recsAt n r.1.key r.2).map fun x => (r.1 :: x.1, x.2)

def endAt (l : List UInt8) (x : List Rec × List UInt8) : Option (List Rec × Bool × List UInt8) :=
  (takeAt 4 x.2).bind fun s => if s.1 = checkL (l.take (l.length - x.2.length)) then some (x.1, true, s.2) else none

def blockAt (l : List UInt8) : Option (List Rec × Bool × List UInt8) :=
  (bndAt 0 4 l).bind fun n => if n.1 = 0 then some ([], false, n.2) else (recsAt n.1 [] n.2).bind fun x => endAt l x

def blocksAt : Nat → List UInt8 → Option (List Rec × List UInt8)
  | 0, _ => none
  | f + 1, l => (blockAt l).bind fun b => if b.2.1 then (blocksAt f b.2.2).map fun x => (b.1 ++ x.1, x.2) else some (b.1, b.2.2)

def kindAt (l : List UInt8) : Option (Bool × List UInt8) :=
  (takeAt 4 l).bind fun x => if x.1 = kindL true then some (true, x.2) else if x.1 = kindL false then some (false, x.2) else none

def coreAt (l : List UInt8) : Option (Str × List UInt8) :=
  (kindAt l).bind fun k => (nrAt k.2).bind fun a => (nrAt a.2).bind fun b => (blocksAt (l.length + 1) b.2).bind fun x => (nrAt x.2).bind fun n =>
    if n.1 = x.1.length then some (⟨k.1, a.1, b.1, x.1⟩, n.2) else none

theorem takeAt_append (a r : List UInt8) : takeAt a.length (a ++ r) = some (a, r) := by simp [takeAt]

theorem nrAt_num {m : Nat} (h : m < 34359738368) (r : List UInt8) : nrAt (numL m ++ r) = some (m, r) := by simp [nrAt, numAt_num h]

theorem bndAt_num {m least most : Nat} (h : m < 34359738368) (h1 : least ≤ m) (h2 : m ≤ most) (r : List UInt8) : bndAt least most (numL m ++ r) = some (m, r) := by simp [bndAt, nrAt_num h, h1, h2]

/-- a record as it should be -/
def Rec.ok (r : Rec) : Prop := 1 ≤ r.key.length ∧ r.key.length ≤ 10 ∧ r.value.length ≤ 40 ∧ (r.gone = true → r.value = [])

theorem recAt_rec {ahead : List UInt8} {r : Rec} (ha : ahead.length ≤ 10) (h : r.ok) (t : List UInt8) : recAt ahead (recL ahead r ++ t) = some (r, t) := by
  obtain ⟨h1, h2, h3, h4⟩ := h
  obtain ⟨c1, c2⟩ := common_le ahead r.key
  have c3 := common_take ahead r.key
  have e : (r.key.drop (common ahead r.key)).length = r.key.length - common ahead r.key := by simp
  have hk : ahead.take (common ahead r.key) ++ r.key.drop (common ahead r.key) = r.key := by rw [c3, List.take_append_drop]
  simp only [recAt, recL, List.append_assoc]
  generalize common ahead r.key = c at *
  rw [bndAt_num (by omega) (by omega) c1, Option.bind_some]
  simp only
  rw [bndAt_num (by omega) (by omega) (by omega), Option.bind_some]
  simp only
  rw [← e, takeAt_append, Option.bind_some]
  simp only
  obtain ⟨key, value, gone⟩ := r
  cases gone with
  | true =>
    have hv : value = [] := h4 rfl
    subst hv
    simp only [tailOf, if_true]
    rw [bndAt_num (by omega) (by omega) (by omega), Option.bind_some]
    simp only [valAt, if_true]
    rw [hk]
  | false =>
    simp only [tailOf, Bool.false_eq_true, if_false, List.append_assoc]
    simp only at h3
    rw [bndAt_num (by omega) (by omega) (by omega), Option.bind_some]
    simp only [valAt]
    rw [if_neg (by omega), Nat.add_sub_cancel_left, takeAt_append]
    simp only [Option.map_some]
    rw [hk]

theorem recsAt_recs : ∀ (rs : List Rec) (ahead t : List UInt8), ahead.length ≤ 10 → (∀ r ∈ rs, r.ok) → recsAt rs.length ahead (recsL ahead rs ++ t) = some (rs, t)
  | [], ahead, t, _, _ => by simp [recsAt, recsL]
  | r :: rs, ahead, t, ha, h => by
    have hr := h r (by simp)
    simp only [List.length_cons, recsAt, recsL, List.append_assoc]
    rw [recAt_rec ha hr, Option.bind_some]
    simp only
    rw [recsAt_recs rs r.key t hr.2.1 (fun r hr => h r (by simp [hr]))]
    rfl

theorem blockAt_block {rs : List Rec} (h0 : rs ≠ []) (h4 : rs.length ≤ 4) (h : ∀ r ∈ rs, r.ok) (t : List UInt8) : blockAt (blockL rs ++ t) = some (rs, true, t) := by
  have hl := List.length_pos_iff.2 h0
  simp only [blockAt, blockL, blockB, List.append_assoc]
  rw [bndAt_num (by omega) (by omega) h4, Option.bind_some]
  simp only
  rw [if_neg (by omega), recsAt_recs rs [] _ (by simp) h, Option.bind_some]
  simp only [endAt]
  rw [← checkL_length (numL rs.length ++ recsL [] rs), takeAt_append, Option.bind_some]
  simp only
  rw [if_pos]
  congr 1
  have e : ∀ a b c : List UInt8, (a ++ (b ++ c)).length - c.length = (a ++ b).length := by intro a b c; simp; omega
  rw [e, ← List.append_assoc, List.take_left]

theorem blockAt_end (t : List UInt8) : blockAt (numL 0 ++ t) = some ([], false, t) := by
  simp only [blockAt]
  rw [bndAt_num (by omega) (by omega) (by omega)]
  rfl

theorem blocksAt_blocks : ∀ (f : Nat) (rs : List Rec) (t : List UInt8), rs.length < f → (∀ r ∈ rs, r.ok) → blocksAt f (blocksL rs ++ (numL 0 ++ t)) = some (rs, t)
  | 0, _, _, h, _ => by omega
  | f + 1, rs, t, hf, h => by
    by_cases h0 : rs = []
    · subst h0
      rw [blocksL_nil]
      simp only [List.nil_append, blocksAt]
      rw [blockAt_end]
      simp
    · have hl := List.length_pos_iff.2 h0
      rw [blocksL_more h0]
      simp only [List.append_assoc, blocksAt]
      rw [blockAt_block (by intro e; have := congrArg List.length e; rw [List.length_take, List.length_nil] at this; omega) (by simp; omega) (fun r hr => h r (List.mem_of_mem_take hr)), Option.bind_some]
      simp only [if_true]
      rw [blocksAt_blocks f (rs.drop 4) t (by simp; omega) (fun r hr => h r (List.mem_of_mem_drop hr))]
      simp

/-- a stream as it should be, its order aside -/
def Str.ok (x : Str) : Prop := x.a < 34359738368 ∧ x.b < 34359738368 ∧ x.recs.length < 34359738368 ∧ ∀ r ∈ x.recs, r.ok

theorem recL_pos (a : List UInt8) (r : Rec) : 1 ≤ (recL a r).length := by
  have := numL_pos (common a r.key)
  simp [recL]; omega

theorem recsL_length : ∀ (rs : List Rec) (a : List UInt8), rs.length ≤ (recsL a rs).length
  | [], _ => by simp
  | r :: rs, a => by
    have := recsL_length rs r.key
    have := recL_pos a r
    simp [recsL]; omega

theorem blocksL_length (n : Nat) : ∀ (rs : List Rec), rs.length ≤ n → rs.length ≤ (blocksL rs).length := by
  induction n with
  | zero => intro rs h; omega
  | succ n ih =>
    intro rs h
    by_cases h0 : rs = []
    · simp [h0]
    · have hl := List.length_pos_iff.2 h0
      rw [blocksL_more h0, List.length_append]
      have h1 := ih (rs.drop 4) (by simp; omega)
      have h2 := recsL_length (rs.take 4) []
      have h3 : (rs.take 4).length + (rs.drop 4).length = rs.length := by simp; omega
      simp only [blockL, blockB, List.length_append]
      omega

theorem coreAt_body {x : Str} (h : x.ok) : coreAt (bodyL x) = some (x, []) := by
  obtain ⟨h1, h2, h3, h4⟩ := h
  have hb := blocksL_length _ x.recs (Nat.le_refl _)
  have hlen : x.recs.length < (bodyL x).length + 1 := by simp only [bodyL, List.length_append]; omega
  have ek : ∀ t, kindAt (kindL x.full ++ t) = some (x.full, t) := by
    intro t
    cases x.full <;> simp [kindAt, kindL, takeAt]
  unfold coreAt
  rw [show kindAt (bodyL x) = some (x.full, numL x.a ++ (numL x.b ++ (blocksL x.recs ++ (numL 0 ++ numL x.recs.length)))) by
    simp only [bodyL, headL, List.append_assoc]
    exact ek _]
  simp only [Option.bind_some]
  rw [nrAt_num h1]
  simp only [Option.bind_some]
  rw [nrAt_num h2]
  simp only [Option.bind_some]
  rw [blocksAt_blocks _ _ _ hlen h4]
  simp only [Option.bind_some]
  have := nrAt_num h3 []
  rw [List.append_nil] at this
  rw [this]
  simp

/-- what is read of a text is read of a longer one too -/
theorem numFrom_more : ∀ (f i n : Nat) (l e : List UInt8) (x : Nat × Nat), numFrom f i n l = some x → numFrom f i n (l ++ e) = some x
  | 0, _, _, _, _, _, h => by simp [numFrom] at h
  | f + 1, _, _, [], _, _, h => by simp [numFrom] at h
  | f + 1, i, n, d :: r, e, x, h => by
    simp only [List.cons_append, numFrom] at h ⊢
    split
    · rename_i hd
      rw [if_pos hd] at h
      exact h
    · rename_i hd
      rw [if_neg hd] at h
      exact numFrom_more f _ _ r e x h

theorem nrAt_more {l e : List UInt8} {x : Nat × List UInt8} (h : nrAt l = some x) : nrAt (l ++ e) = some (x.1, x.2 ++ e) ∧ x.2.length < l.length := by
  unfold nrAt at h ⊢
  cases hn : numAt l with
  | none => rw [hn] at h; simp at h
  | some y =>
    rw [hn] at h
    simp only [Option.map_some, Option.some.injEq] at h
    subst h
    have hs := numAt_some hn
    rw [show numAt (l ++ e) = some y from numFrom_more _ _ _ l e y hn]
    simp only [Option.map_some, Option.some.injEq, Prod.mk.injEq, true_and, List.length_drop]
    exact ⟨List.drop_append_of_le_length hs.2.2.2, by omega⟩

theorem bndAt_more {least most : Nat} {l e : List UInt8} {x : Nat × List UInt8} (h : bndAt least most l = some x) : bndAt least most (l ++ e) = some (x.1, x.2 ++ e) ∧ x.2.length < l.length ∧ least ≤ x.1 ∧ x.1 ≤ most := by
  unfold bndAt at h ⊢
  cases hn : nrAt l with
  | none => rw [hn] at h; simp at h
  | some y =>
    rw [hn] at h
    simp only [Option.bind_some] at h
    split at h
    · rename_i hb
      simp only [Option.some.injEq] at h
      subst h
      obtain ⟨h1, h2⟩ := nrAt_more (e := e) hn
      rw [h1]
      simp only [Option.bind_some, if_pos hb]
      exact ⟨trivial, h2, hb⟩
    · simp at h

theorem takeAt_more {n : Nat} {l e : List UInt8} {x : List UInt8 × List UInt8} (h : takeAt n l = some x) : takeAt n (l ++ e) = some (x.1, x.2 ++ e) ∧ x.2.length + n = l.length := by
  unfold takeAt at h ⊢
  split at h
  · rename_i hn
    simp only [Option.some.injEq] at h
    subst h
    rw [if_pos (by simp; omega), List.take_append_of_le_length hn, List.drop_append_of_le_length hn]
    simp; omega
  · simp at h

theorem recAt_more {a l e : List UInt8} {x : Rec × List UInt8} (h : recAt a l = some x) : recAt a (l ++ e) = some (x.1, x.2 ++ e) ∧ x.2.length < l.length := by
  unfold recAt at h ⊢
  rcases Option.bind_eq_some_iff.1 h with ⟨c, hc, h⟩
  rcases Option.bind_eq_some_iff.1 h with ⟨m, hm, h⟩
  rcases Option.bind_eq_some_iff.1 h with ⟨t, ht, h⟩
  rcases Option.bind_eq_some_iff.1 h with ⟨s, hs, h⟩
  obtain ⟨c1, c2, -⟩ := bndAt_more (e := e) hc
  obtain ⟨m1, m2, -⟩ := bndAt_more (e := e) hm
  obtain ⟨t1, t2⟩ := takeAt_more (e := e) ht
  obtain ⟨s1, s2, -⟩ := bndAt_more (e := e) hs
  rw [c1, Option.bind_some]
  simp only
  rw [m1, Option.bind_some]
  simp only
  rw [t1, Option.bind_some]
  simp only
  rw [s1, Option.bind_some]
  simp only
  unfold valAt at h ⊢
  split
  · rename_i h0
    rw [if_pos h0] at h
    simp only [Option.some.injEq] at h
    subst h
    exact ⟨rfl, by simp only; omega⟩
  · rename_i h0
    rw [if_neg h0] at h
    rcases Option.map_eq_some_iff.1 h with ⟨v, hv, rfl⟩
    obtain ⟨v1, v2⟩ := takeAt_more (e := e) hv
    rw [v1]
    exact ⟨rfl, by simp only; omega⟩

theorem recsAt_more : ∀ (n : Nat) (a l e : List UInt8) (x : List Rec × List UInt8), recsAt n a l = some x → recsAt n a (l ++ e) = some (x.1, x.2 ++ e) ∧ x.2.length + n ≤ l.length ∧ x.1.length = n
  | 0, a, l, e, x, h => by
    simp only [recsAt, Option.some.injEq] at h
    subst h
    simp [recsAt]
  | n + 1, a, l, e, x, h => by
    simp only [recsAt] at h ⊢
    rcases Option.bind_eq_some_iff.1 h with ⟨r, hr, h⟩
    rcases Option.map_eq_some_iff.1 h with ⟨y, hy, rfl⟩
    obtain ⟨r1, r2⟩ := recAt_more (e := e) hr
    obtain ⟨y1, y2, y3⟩ := recsAt_more n r.1.key r.2 e y hy
    rw [r1, Option.bind_some]
    simp only
    rw [y1]
    exact ⟨rfl, by omega, by simp [y3]⟩

theorem blockAt_more {l e : List UInt8} {x : List Rec × Bool × List UInt8} (h : blockAt l = some x) : blockAt (l ++ e) = some (x.1, x.2.1, x.2.2 ++ e) ∧ x.2.2.length + x.1.length < l.length := by
  unfold blockAt at h ⊢
  rcases Option.bind_eq_some_iff.1 h with ⟨n, hn, h⟩
  obtain ⟨n1, n2, -⟩ := bndAt_more (e := e) hn
  rw [n1, Option.bind_some]
  simp only
  split
  · rename_i h0
    rw [if_pos h0] at h
    simp only [Option.some.injEq] at h
    subst h
    exact ⟨rfl, by simpa using n2⟩
  · rename_i h0
    rw [if_neg h0] at h
    rcases Option.bind_eq_some_iff.1 h with ⟨y, hy, h⟩
    obtain ⟨y1, y2, y3⟩ := recsAt_more _ _ _ e _ hy
    rw [y1, Option.bind_some]
    unfold endAt at h ⊢
    rcases Option.bind_eq_some_iff.1 h with ⟨s, hs, h⟩
    obtain ⟨s1, s2⟩ := takeAt_more (e := e) hs
    simp only
    rw [s1, Option.bind_some]
    simp only
    have e1 : (l ++ e).take ((l ++ e).length - (y.2 ++ e).length) = l.take (l.length - y.2.length) := by
      rw [List.length_append, List.length_append, Nat.add_sub_add_right, List.take_append_of_le_length (by omega)]
    rw [e1]
    split at h
    · rename_i hc
      simp only [Option.some.injEq] at h
      subst h
      rw [if_pos hc]
      exact ⟨rfl, by simp only; omega⟩
    · simp at h

theorem blocksAt_more : ∀ (f f' : Nat) (l e : List UInt8) (x : List Rec × List UInt8), f ≤ f' → blocksAt f l = some x → blocksAt f' (l ++ e) = some (x.1, x.2 ++ e) ∧ x.2.length + x.1.length < l.length
  | 0, _, _, _, _, _, h => by simp [blocksAt] at h
  | f + 1, 0, _, _, _, hf, _ => by omega
  | f + 1, f' + 1, l, e, x, hf, h => by
    simp only [blocksAt] at h ⊢
    rcases Option.bind_eq_some_iff.1 h with ⟨b, hb, h⟩
    obtain ⟨b1, b2⟩ := blockAt_more (e := e) hb
    rw [b1, Option.bind_some]
    simp only
    split
    · rename_i h0
      rw [if_pos h0] at h
      rcases Option.map_eq_some_iff.1 h with ⟨y, hy, rfl⟩
      obtain ⟨y1, y2⟩ := blocksAt_more f f' b.2.2 e y (by omega) hy
      rw [y1]
      exact ⟨rfl, by simp only [List.length_append]; omega⟩
    · rename_i h0
      rw [if_neg h0] at h
      simp only [Option.some.injEq] at h
      subst h
      exact ⟨rfl, b2⟩

theorem coreAt_more {l e : List UInt8} {x : Str × List UInt8} (h : coreAt l = some x) : coreAt (l ++ e) = some (x.1, x.2 ++ e) := by
  unfold coreAt at h ⊢
  rcases Option.bind_eq_some_iff.1 h with ⟨k, hk, h⟩
  rcases Option.bind_eq_some_iff.1 h with ⟨a, ha, h⟩
  rcases Option.bind_eq_some_iff.1 h with ⟨b, hb, h⟩
  rcases Option.bind_eq_some_iff.1 h with ⟨y, hy, h⟩
  rcases Option.bind_eq_some_iff.1 h with ⟨n, hn, h⟩
  have k1 : kindAt (l ++ e) = some (k.1, k.2 ++ e) := by
    unfold kindAt at hk ⊢
    rcases Option.bind_eq_some_iff.1 hk with ⟨t, ht, hk⟩
    obtain ⟨t1, -⟩ := takeAt_more (e := e) ht
    rw [t1, Option.bind_some]
    simp only
    split at hk
    · rename_i h1
      simp only [Option.some.injEq] at hk
      subst hk
      rw [if_pos h1]
    · rename_i h1
      split at hk
      · rename_i h2
        simp only [Option.some.injEq] at hk
        subst hk
        rw [if_neg h1, if_pos h2]
      · simp at hk
  obtain ⟨a1, -⟩ := nrAt_more (e := e) ha
  obtain ⟨b1, -⟩ := nrAt_more (e := e) hb
  obtain ⟨y1, -⟩ := blocksAt_more _ ((l ++ e).length + 1) _ e _ (by simp) hy
  obtain ⟨n1, -⟩ := nrAt_more (e := e) hn
  rw [k1, Option.bind_some]
  simp only
  rw [a1, Option.bind_some]
  simp only
  rw [b1, Option.bind_some]
  simp only
  rw [y1, Option.bind_some]
  simp only
  rw [n1, Option.bind_some]
  simp only
  split at h
  · rename_i hc
    simp only [Option.some.injEq] at h
    subst h
    rw [if_pos hc]
  · simp at h

/-- No beginning of a written text is one. -/
theorem coreAt_cut {x : Str} (h : x.ok) {j : Nat} (hj : j < (bodyL x).length) {y : Str} : coreAt ((bodyL x).take j) ≠ some (y, []) := by
  intro e
  have h1 := coreAt_more (e := (bodyL x).drop j) e
  rw [List.take_append_drop, coreAt_body h] at h1
  simp only [Option.some.injEq, Prod.mk.injEq, List.nil_append] at h1
  have := congrArg List.length h1.2
  simp at this
  omega

end Go.Proofs.YtgianpccgcjmjaaGreatDoor

/- inCommon, record. -/

namespace Go.Proofs.YtgianpccgcjmjaaGreatDoor

open Go.RowKit Go.Shelf

theorem common_lt : ∀ (a b : List UInt8) (k : Nat), k < common a b → ∃ (h1 : k < a.length) (h2 : k < b.length), a[k] = b[k]
  | [], b, k, h => by simp [common] at h
  | x :: a, [], k, h => by simp [common] at h
  | x :: a, y :: b, k, h => by
    simp only [common] at h
    split at h
    · rename_i e
      cases k with
      | zero => exact ⟨by simp, by simp, by simpa using e⟩
      | succ k =>
        obtain ⟨h1, h2, h3⟩ := common_lt a b k (by omega)
        exact ⟨by simpa using h1, by simpa using h2, by simpa using h3⟩
    · omega

theorem common_stop : ∀ (a b : List UInt8), common a b = a.length ∨ common a b = b.length ∨ ∃ (h1 : common a b < a.length) (h2 : common a b < b.length), a[common a b] ≠ b[common a b]
  | [], b => .inl (by simp [common])
  | x :: a, [] => .inr (.inl (by simp [common]))
  | x :: a, y :: b => by
    by_cases e : x = y
    · have ec : common (x :: a) (y :: b) = common a b + 1 := by simp [common, e]
      rcases common_stop a b with h | h | ⟨h1, h2, h3⟩
      · exact .inl (by rw [ec, h]; simp)
      · exact .inr (.inl (by rw [ec, h]; simp))
      · refine .inr (.inr ⟨by rw [ec]; simp; omega, by rw [ec]; simp; omega, ?_⟩)
        simp only [ec, List.getElem_cons_succ]
        exact h3
    · have ec : common (x :: a) (y :: b) = 0 := by simp [common, e]
      refine .inr (.inr ⟨by rw [ec]; simp, by rw [ec]; simp, ?_⟩)
      simp only [ec, List.getElem_cons_zero]
      exact e

set_option maxRecDepth 100000 in
set_option maxHeartbeats 1000000 in
theorem inCommon_any (a b : ByteArray) (w : World) (ha : a.size ≤ maxLen) :
    Calls Tryz.prog 147 #[.string a, .string b] w fun e w' => e = .returned (.int .i64 (common a.data.toList b.data.toList : Nat)) ∧ Keeps (fun _ => False) w w' := by
  have HLT : Hid (∀ k, k < common a.data.toList b.data.toList → ∃ (h1 : k < a.size) (h2 : k < b.size), a[k] = b[k]) := fun k hk => by
    obtain ⟨h1, h2, h3⟩ := common_lt _ _ k hk
    exact ⟨by simpa using h1, by simpa using h2, by simp only [Array.getElem_toList] at h3; exact h3⟩
  have HST : Hid (common a.data.toList b.data.toList = a.size ∨ common a.data.toList b.data.toList = b.size ∨ ∃ (h1 : common a.data.toList b.data.toList < a.size) (h2 : common a.data.toList b.data.toList < b.size), a[common a.data.toList b.data.toList] ≠ b[common a.data.toList b.data.toList]) := by
    rcases common_stop a.data.toList b.data.toList with h | h | ⟨h1, h2, h3⟩
    · exact .inl (by simpa using h)
    · exact .inr (.inl (by simpa using h))
    · exact .inr (.inr ⟨by simpa using h1, by simpa using h2, by simp only [Array.getElem_toList, ne_eq] at h3; exact h3⟩)
  have HLE : Hid (common a.data.toList b.data.toList ≤ a.size ∧ common a.data.toList b.data.toList ≤ b.size) := by
    have := common_le a.data.toList b.data.toList
    show _ ∧ _
    simpa using this
  generalize common a.data.toList b.data.toList = c at *
  unfold maxLen at ha
  go_enter Tryz.func147, Tryz.ntmps147
  go_wp2_with fail
  go_loopw [5] (fun i wr => ∃ k : Nat, k ≤ c ∧ i = .int .i64 k ∧ Keeps (fun _ => False) w wr) (fun i _ => c - (intOf i).toNat)
  case atStart => exact ⟨0, Nat.zero_le _, rfl, Keeps.refl _ _⟩
  case round =>
    obtain ⟨k, hk, rfl, hkr⟩ := hrel
    have HKR := hid hkr
    clear hkr
    by_cases hlt : k < c
    · obtain ⟨h1, h2, h3⟩ := HLT.out k hlt
      have d1 : decide (k < a.size) = true := decide_eq_true (by omega)
      have d2 : decide (k < b.size) = true := decide_eq_true (by omega)
      go_wp2_with fail
      go_quiet (fail)
      go_wp2
      exact ⟨⟨k + 1, by omega, by go_num, HKR.out.drN _⟩, by simp only [intOf]; omega⟩
    · have e : k = c := by omega
      subst e
      rcases HST.out with h | h | ⟨h1, h2, h3⟩
      · have d1 : decide (k < a.size) = false := decide_eq_false (by omega)
        go_wp2_with fail
        go_quiet (fail)
        go_wp2
        go_ret
        exact ⟨rfl, HKR.out.drN _⟩
      · by_cases ha1 : k < a.size
        · have d1 : decide (k < a.size) = true := decide_eq_true (by omega)
          have d2 : decide (k < b.size) = false := decide_eq_false (by omega)
          clear h ha1 HST HLE HLT hlt hk
          go_wp2_with fail
          go_quiet (fail)
          go_wp2
          go_ret
          exact ⟨rfl, HKR.out.drN _⟩
        · have d1 : decide (k < a.size) = false := decide_eq_false (by omega)
          clear h ha1 HST HLE HLT hlt hk
          go_wp2_with fail
          go_quiet (fail)
          go_wp2
          go_ret
          exact ⟨rfl, HKR.out.drN _⟩
      · have d1 : decide (k < a.size) = true := decide_eq_true (by omega)
        have d2 : decide (k < b.size) = true := decide_eq_true (by omega)
        have h4 : ¬ a[k].toNat = b[k].toNat := fun e => h3 (UInt8.toNat_inj.1 e)
        go_wp2_with fail
        go_quiet (fail)
        go_wp2
        go_ret
        exact ⟨rfl, HKR.out.drN _⟩

end Go.Proofs.YtgianpccgcjmjaaGreatDoor

/- record. -/

namespace Go.Proofs.YtgianpccgcjmjaaGreatDoor

open Go.RowKit Go.Shelf

def RecB.rec_ (r : RecB) : Rec := ⟨r.key.data.toList, r.value.data.toList, r.gone⟩

theorem extract_drop (s : ByteArray) (c : Nat) : s.extract c s.size = ofL (s.data.toList.drop c) := by
  apply ByteArray.ext
  simp only [ByteArray.data_extract, ofL]
  apply Array.ext'
  simp only [Array.toList_extract, List.extract_eq_take_drop]
  exact List.take_of_length_le (by simp)

/-- a number's text, and how long it may be -/
theorem num_text (n : Nat) (h : n < 9223372036854775808) : (ofL (numL n)).size ≤ 9 := by rw [ofL_size]; exact numL_len 8 n (by omega)

set_option maxRecDepth 100000 in
set_option maxHeartbeats 1000000 in
theorem record_gone (key value ahead : ByteArray) (w : World) (hk : key.size ≤ 1000) (ha : ahead.size ≤ 1000) :
    Calls Tryz.prog 127 #[.agg #[.string key, .string value, .bool true], .string ahead] w fun e w' => e = .returned (.string (ofL (recL ahead.data.toList ⟨key.data.toList, value.data.toList, true⟩))) ∧ Keeps (fun _ => False) w w' := by
  have HC := hid (fun W => inCommon_any ahead key W (by unfold maxLen; omega))
  obtain ⟨c, hc⟩ : ∃ c, c = common ahead.data.toList key.data.toList := ⟨_, rfl⟩
  have hcl : c ≤ key.size := by rw [hc]; have := (common_le ahead.data.toList key.data.toList).2; simpa using this
  rw [← hc] at HC
  have HE : Hid (ofL (recL ahead.data.toList ⟨key.data.toList, value.data.toList, true⟩) = ((ofL (numL c) ++ ofL (numL (key.size - c))) ++ ofL (key.data.toList.drop c)) ++ ofL (numL 0)) := by
    show _ = _
    rw [ofL_append, ofL_append, ofL_append]
    unfold recL tailOf
    simp [hc]
  have hx := extract_drop key c
  have hms : (ofL (key.data.toList.drop c)).size = key.size - c := by rw [ofL_size]; simp
  rw [← hms] at HE
  generalize ofL (key.data.toList.drop c) = more at *
  have HN := hid (fun (n : Nat) (h : n < 9223372036854775808) W => number_any n W h)
  have z1 := num_text c (by omega)
  have z2 := num_text more.size (by omega)
  have z3 := num_text 0 (by omega)
  have HC1 := hid (HN.out c (by omega))
  have HC2 := hid (HN.out more.size (by omega))
  have HC3 := hid (HN.out 0 (by omega))
  generalize ofL (numL c) = t1 at *
  generalize ofL (numL more.size) = t2 at *
  generalize ofL (numL 0) = t3 at *
  have hm1 : more.size ≤ 1000 := by omega
  clear hc HN hms
  go_enter Tryz.func127, Tryz.ntmps127
  go_wp2_with fail
  refine (HC.out _).mono ?_
  rintro e w1 ⟨rfl, k1⟩
  obtain ⟨q0, q1, q2, -⟩ := three_cells (box_kept k1 (fun h => h))
  have HK1 := hid k1
  clear k1
  go_wp2_with fail
  refine (HC1.out _).mono ?_
  rintro e w2 ⟨rfl, k2⟩
  have HK2 := hid (HK1.out.tr k2 (fun _ h => h))
  clear k2
  go_wp2_with fail
  refine (HC2.out _).mono ?_
  rintro e w3 ⟨rfl, k3⟩
  have hk3 := HK2.out.tr k3 (fun _ h => h)
  obtain ⟨p0, p1, p2, -⟩ := three_cells (box_kept hk3 (fun h => h))
  have HK3 := hid hk3
  clear k3 hk3 q0 q1 q2
  go_wp2_with fail
  refine (HC3.out _).mono ?_
  rintro e w4 ⟨rfl, k4⟩
  have HK4 := hid (HK3.out.tr k4 (fun _ h => h))
  clear k4
  go_wp2
  go_ret
  exact ⟨by rw [HE.out]; rfl, (((Keeps.refl _ _).al _).tr HK4.out (fun _ h => h))⟩

set_option maxRecDepth 100000 in
set_option maxHeartbeats 1000000 in
theorem record_put (key value ahead : ByteArray) (w : World) (hk : key.size ≤ 1000) (ha : ahead.size ≤ 1000) (hv : value.size ≤ 1000) :
    Calls Tryz.prog 127 #[.agg #[.string key, .string value, .bool false], .string ahead] w fun e w' => e = .returned (.string (ofL (recL ahead.data.toList ⟨key.data.toList, value.data.toList, false⟩))) ∧ Keeps (fun _ => False) w w' := by
  have HC := hid (fun W => inCommon_any ahead key W (by unfold maxLen; omega))
  obtain ⟨c, hc⟩ : ∃ c, c = common ahead.data.toList key.data.toList := ⟨_, rfl⟩
  have hcl : c ≤ key.size := by rw [hc]; have := (common_le ahead.data.toList key.data.toList).2; simpa using this
  rw [← hc] at HC
  have HE : Hid (ofL (recL ahead.data.toList ⟨key.data.toList, value.data.toList, false⟩) = (((ofL (numL c) ++ ofL (numL (key.size - c))) ++ ofL (key.data.toList.drop c)) ++ ofL (numL (1 + value.size))) ++ value) := by
    show _ = _
    conv => rhs; rw [← ofL_self value, ofL_append, ofL_append, ofL_append, ofL_append]
    unfold recL tailOf
    simp [hc, ofL_size]
  have hx := extract_drop key c
  have hms : (ofL (key.data.toList.drop c)).size = key.size - c := by rw [ofL_size]; simp
  rw [← hms] at HE
  generalize ofL (key.data.toList.drop c) = more at *
  have HN := hid (fun (n : Nat) (h : n < 9223372036854775808) W => number_any n W h)
  have z1 := num_text c (by omega)
  have z2 := num_text more.size (by omega)
  have z3 := num_text (1 + value.size) (by omega)
  have HC1 := hid (HN.out c (by omega))
  have HC2 := hid (HN.out more.size (by omega))
  have HC3 := hid (HN.out (1 + value.size) (by omega))
  generalize ofL (numL c) = t1 at *
  generalize ofL (numL more.size) = t2 at *
  generalize ofL (numL (1 + value.size)) = t3 at *
  have hm1 : more.size ≤ 1000 := by omega
  clear hc HN hms
  go_enter Tryz.func127, Tryz.ntmps127
  go_wp2_with fail
  refine (HC.out _).mono ?_
  rintro e w1 ⟨rfl, k1⟩
  obtain ⟨q0, q1, q2, -⟩ := three_cells (box_kept k1 (fun h => h))
  have HK1 := hid k1
  clear k1
  go_wp2_with fail
  refine (HC1.out _).mono ?_
  rintro e w2 ⟨rfl, k2⟩
  have HK2 := hid (HK1.out.tr k2 (fun _ h => h))
  clear k2
  go_wp2_with fail
  refine (HC2.out _).mono ?_
  rintro e w3 ⟨rfl, k3⟩
  have hk3 := HK2.out.tr k3 (fun _ h => h)
  obtain ⟨p0, p1, p2, -⟩ := three_cells (box_kept hk3 (fun h => h))
  have HK3 := hid hk3
  clear k3 hk3 q0 q1 q2
  have hcast : IntKind.i64.wrap (1 + (value.size : Int)) = ((1 + value.size : Nat) : Int) := by rw [IntKind.wrap_i64]; omega
  rw [← hcast] at HC3
  clear hcast
  go_wp2_with fail
  obtain ⟨U, hU⟩ : ∃ U, U = t1 ++ t2 ++ more := ⟨_, rfl⟩
  have hUs : U.size ≤ 1018 := by rw [hU]; simp only [ByteArray.size_append]; omega
  rw [← hU] at HE ⊢
  have hr1 : ∀ W, (Op.stringOp .add U t3).run Tryz.prog W = .ok (.string (U ++ t3)) W := fun W => run_string_add_sum W U t3 (by omega)
  have hr2 : ∀ W, (Op.stringOp .add (U ++ t3) value).run Tryz.prog W = .ok (.string (U ++ t3 ++ value)) W := fun W => run_string_add_sum W _ _ (by simp only [ByteArray.size_append]; omega)
  clear hU
  go_region_held3 (fun W => W.cell? ⟨w.heap.size, 1, none⟩ = some (.string value)) (go_keep) (first | (go_at_call 124; refine (HC3.out _).mono ?_; rintro e w4 ⟨rfl, k4⟩; have hk4 := (HK3.out.dr).tr k4 (fun _ h => h); obtain ⟨r0, r1, r2, -⟩ := three_cells (box_kept hk4 (fun h => h)); have HK4 := hid hk4; clear k4 hk4))
  go_wp2
  go_ret
  exact ⟨by rw [HE.out]; rfl, (((Keeps.refl _ _).al _).tr HK4.out (fun _ h => h))⟩

theorem record_any (r : RecB) (ahead : ByteArray) (w : World) (hk : r.key.size ≤ 1000) (ha : ahead.size ≤ 1000) (hv : r.value.size ≤ 1000) :
    Calls Tryz.prog 127 #[r.val, .string ahead] w fun e w' => e = .returned (.string (ofL (recL ahead.data.toList r.rec_))) ∧ Keeps (fun _ => False) w w' := by
  obtain ⟨key, value, gone⟩ := r
  cases gone with
  | true => exact record_gone key value ahead w hk ha
  | false => exact record_put key value ahead w hk ha hv

end Go.Proofs.YtgianpccgcjmjaaGreatDoor

/- A Writer: Head, Tail. -/

namespace Go.Proofs.YtgianpccgcjmjaaGreatDoor

open Go.RowKit Go.Shelf

theorem TurnsAt.kept {w w' : World} {S : Nat → Prop} (h : TurnsAt w) (hk : Keeps S w w') (hS : ¬ S 3) : TurnsAt w' := fun i hi => hk.cell (h i hi) hS

theorem kind_text (full : Bool) : (ofL (kindL full)).size = 4 := by cases full <;> rfl

set_option maxRecDepth 100000 in
set_option maxHeartbeats 1000000 in
theorem head_any (wb o : Nat) (cs : Array Value) (t : TypeId) (full : Bool) (a b sum : Nat) (w : World) (hb : w.heap[wb]? = some (.cells cs t (0, 0))) (ho : cs[o]? = some (.int .u32 (sum : Nat))) (hs : sum < 4294967296) (ha : a < 9223372036854775808) (hb' : b < 9223372036854775808) (ht : TurnsAt w) :
    Calls Tryz.prog 99 #[.pointer (some ⟨wb, o, none⟩), .bool full, .int .i64 (a : Nat), .int .i64 (b : Nat)] w fun e w' => e = .returned (.string (ofL (headL full a b))) ∧
      w'.heap[wb]? = some (.cells (cs.setIfInBounds o (.int .u32 (ovL sum (headL full a b) : Nat))) t (0, 0)) ∧ Keeps (· = wb) w w' := by
  have c0 : w.cell? ⟨wb, o, none⟩ = some (.int .u32 (sum : Nat)) := (cell_of_heap hb o).trans ho
  have HBL := hid hb
  have HF : Hid (∀ W, Keeps (fun _ => False) w W → W.heap[wb]? = some (.cells cs t (0, 0))) := fun W hW => (hW.block wb (Array.getElem?_eq_some_iff.1 hb).1 (fun h => h)).trans hb
  have HCO : Hid (∀ W, Keeps (fun _ => False) w W → W.cell? ⟨wb, o, none⟩ = some (.int .u32 (sum : Nat)) ∧ W.frozen? ⟨wb, o, none⟩ = false) := fun W hW => ⟨(cell_of_heap (HF.out W hW) o).trans ho, frozen_of_heap (HF.out W hW) o⟩
  have hk4 := kind_text full
  have z1 := num_text a ha
  have z2 := num_text b hb'
  have HN1 := hid (fun W => number_any a W ha)
  have HN2 := hid (fun W => number_any b W hb')
  have HE : Hid (ofL (headL full a b) = ofL (kindL full) ++ ofL (numL a) ++ ofL (numL b)) := by
    show _ = _
    rw [ofL_append, ofL_append]
    rfl
  have hL : (headL full a b).length ≤ 100 := by
    have := congrArg ByteArray.size HE.out
    rw [ofL_size] at this
    simp only [ByteArray.size_append] at this
    omega
  have HOV := hid (fun W (hW : Keeps (fun _ => False) w W) => checkOver_any sum (ofL (headL full a b)) W hs (by rw [ofL_size]; unfold maxLen; omega) (ht.kept hW (fun h => h)))
  rw [ofL_list] at HOV
  generalize ovL sum (headL full a b) = sm at *
  have HK : Hid (ofL (kindL full) = if full = true then ({ data := #[65, 78, 78, 70] } : ByteArray) else { data := #[65, 78, 78, 68] }) := by show _ = _; cases full <;> rfl
  rw [HE.out] at HOV ⊢
  rw [HK.out] at hk4 HOV ⊢
  generalize ofL (numL a) = t1 at *
  generalize ofL (numL b) = t2 at *
  clear hb ht hs ha hb' hL HK HE ho c0
  cases full with
  | true =>
    simp only [if_true] at hk4 HOV ⊢
    go_enter Tryz.func99, Tryz.ntmps99
    go_wp2_with fail
    refine (HN1.out _).mono ?_
    rintro e w1 ⟨rfl, k1⟩
    have HK1 := hid k1
    clear k1
    go_wp2_with fail
    refine (HN2.out _).mono ?_
    rintro e w2 ⟨rfl, k2⟩
    have HK2 := hid (HK1.out.tr k2 (fun _ h => h))
    obtain ⟨c1, f1⟩ := HCO.out _ HK2.out
    clear k2
    go_wp2_with fail
    refine (HOV.out _ HK2.out).mono ?_
    rintro e w2 ⟨rfl, rfl⟩
    go_wp2
    go_ret
    exact ⟨rfl, heap_setCell_same (HF.out _ HK2.out) _, (HK2.out.mono (T := (· = wb)) (fun _ _ h => h.elim)).tr (Keeps.setCell _ _ _) (fun _ h => h)⟩
  | false =>
    simp only [Bool.false_eq_true, if_false] at hk4 HOV ⊢
    go_enter Tryz.func99, Tryz.ntmps99
    go_wp2_with fail
    refine (HN1.out _).mono ?_
    rintro e w1 ⟨rfl, k1⟩
    have HK1 := hid k1
    clear k1
    go_wp2_with fail
    refine (HN2.out _).mono ?_
    rintro e w2 ⟨rfl, k2⟩
    have HK2 := hid (HK1.out.tr k2 (fun _ h => h))
    obtain ⟨c1, f1⟩ := HCO.out _ HK2.out
    clear k2
    go_wp2_with fail
    refine (HOV.out _ HK2.out).mono ?_
    rintro e w2 ⟨rfl, rfl⟩
    go_wp2
    go_ret
    exact ⟨rfl, heap_setCell_same (HF.out _ HK2.out) _, (HK2.out.mono (T := (· = wb)) (fun _ _ h => h.elim)).tr (Keeps.setCell _ _ _) (fun _ h => h)⟩

end Go.Proofs.YtgianpccgcjmjaaGreatDoor

/- A Writer: Tail. -/

namespace Go.Proofs.YtgianpccgcjmjaaGreatDoor

open Go.RowKit Go.Shelf

def tailL (sum count : Nat) : List UInt8 := (numL 0 ++ numL count) ++ sumL (ovL sum (numL 0 ++ numL count))

set_option maxRecDepth 100000 in
set_option maxHeartbeats 1000000 in
theorem tail_any (wb o : Nat) (cs : Array Value) (t : TypeId) (sum count : Nat) (w : World) (hb : w.heap[wb]? = some (.cells cs t (0, 0))) (ho : cs[o]? = some (.int .u32 (sum : Nat))) (ho1 : cs[o + 1]? = some (.int .i64 (count : Nat))) (hs : sum < 4294967296) (hc : count < 9223372036854775808) (ht : TurnsAt w) :
    Calls Tryz.prog 100 #[.pointer (some ⟨wb, o, none⟩)] w fun e w' => e = .returned (.string (ofL (tailL sum count))) ∧ Keeps (fun _ => False) w w' := by
  have HF : Hid (∀ W, Keeps (fun _ => False) w W → W.heap[wb]? = some (.cells cs t (0, 0))) := fun W hW => (hW.block wb (Array.getElem?_eq_some_iff.1 hb).1 (fun h => h)).trans hb
  have HCO : Hid (∀ W, Keeps (fun _ => False) w W → W.cell? ⟨wb, o, none⟩ = some (.int .u32 (sum : Nat)) ∧ W.cell? ⟨wb, o + 1, none⟩ = some (.int .i64 (count : Nat))) := fun W hW => ⟨(cell_of_heap (HF.out W hW) o).trans ho, (cell_of_heap (HF.out W hW) (o + 1)).trans ho1⟩
  obtain ⟨c0, c1⟩ := HCO.out w (Keeps.refl _ _)
  have z1 := num_text 0 (by omega)
  have z2 := num_text count hc
  have HN1 := hid (fun W => number_any 0 W (by omega))
  have HN2 := hid (fun W => number_any count W hc)
  have hE : ofL (numL 0 ++ numL count) = ofL (numL 0) ++ ofL (numL count) := (ofL_append _ _).symm
  have hsz : (ofL (numL 0 ++ numL count)).size ≤ 18 := by rw [hE]; simp only [ByteArray.size_append]; omega
  have HOV := hid (fun W (hW : Keeps (fun _ => False) w W) => checkOver_any sum (ofL (numL 0 ++ numL count)) W hs (by unfold maxLen; omega) (ht.kept hW (fun h => h)))
  rw [ofL_list] at HOV
  have HBY := hid (fun W => checkBytes_any (ovL sum (numL 0 ++ numL count)) W (ovL_lt _ _))
  have z3 : (ofL (sumL (ovL sum (numL 0 ++ numL count)))).size = 4 := by rw [ofL_size]; rfl
  have HR : Hid (ofL (tailL sum count) = ofL (numL 0 ++ numL count) ++ ofL (sumL (ovL sum (numL 0 ++ numL count)))) := (ofL_append _ _).symm
  rw [HR.out]
  generalize ovL sum (numL 0 ++ numL count) = sm at *
  generalize ofL (sumL sm) = t4 at *
  generalize ofL (numL 0 ++ numL count) = t3 at *
  generalize ofL (numL 0) = t1 at *
  generalize ofL (numL count) = t2 at *
  have hr1 : ∀ W, (Op.stringOp .add t1 t2).run Tryz.prog W = .ok (.string t3) W := fun W => by rw [hE]; exact run_string_add_sum W _ _ (by omega)
  clear hb ht hs hc ho ho1 HR hE
  go_enter Tryz.func100, Tryz.ntmps100
  go_wp2_with fail
  go_region_held3 (fun W => W.cell? ⟨wb, o + 1, none⟩ = some (.int .i64 (count : Nat))) (go_keep) (first
    | (go_at_call 124; have hh := HK1.out; clear hh; refine (HN2.out _).mono ?_; rintro e w2 ⟨rfl, k2⟩; have HK2 := hid (HK1.out.tr k2 (fun _ h => h)); obtain ⟨e0, e1⟩ := HCO.out _ HK2.out; clear k2)
    | (go_at_call 124; refine (HN1.out _).mono ?_; rintro e w1 ⟨rfl, k1⟩; have HK1 := hid ((Keeps.drew (fun _ => False) _).tr k1 (fun _ h => h)); obtain ⟨d0, d1⟩ := HCO.out _ HK1.out; clear k1))
  clear c0 c1
  go_wp2_with fail
  refine (HOV.out _ HK2.out).mono ?_
  rintro e w2 ⟨rfl, rfl⟩
  go_wp2_with fail
  refine (HBY.out _).mono ?_
  rintro e w3 ⟨rfl, k3⟩
  have HK3 := hid (HK2.out.tr k3 (fun _ h => h))
  clear k3
  go_wp2
  go_ret
  exact ⟨rfl, HK3.out⟩

end Go.Proofs.YtgianpccgcjmjaaGreatDoor
