import Derived.Test.YtpagenipflmlfaaGreatDoorM00
import Derived.Test.YtpagenipflmlfaaGreatDoorProg

/- A map's block, its entries told by a list of keys and elements in the order in which they were laid: what a look-up, a store, a deletion and a length come to. -/

namespace Go.Proofs.YtpagenipflmlfaaGreatDoor

open Go.RowKit Go.ChangeMaps Go.MapKept

set_option linter.unusedSectionVars false

section

variable {α β : Type} [DecidableEq α]

/-- what stands at a key -/
def look : List (α × β) → α → Option β
  | [], _ => none
  | (a, v) :: r, k => if a = k then some v else look r k

/-- a key with a new element: in its place, or behind all -/
def put : List (α × β) → α → β → List (α × β)
  | [], k, v => [(k, v)]
  | (a, x) :: r, k, v => if a = k then (k, v) :: r else (a, x) :: put r k v

/-- a key taken out -/
def del : List (α × β) → α → List (α × β)
  | [], _ => []
  | (a, x) :: r, k => if a = k then r else (a, x) :: del r k

theorem look_mem : ∀ {l : List (α × β)} {k : α} {v : β}, look l k = some v → (k, v) ∈ l
  | (a, x) :: r, k, v, h => by
    unfold look at h
    split at h
    · rename_i e; subst e; cases h; simp
    · exact List.mem_cons_of_mem _ (look_mem h)

theorem look_none : ∀ {l : List (α × β)} {k : α}, look l k = none ↔ ∀ p ∈ l, p.1 ≠ k
  | [], k => by simp [look]
  | (a, x) :: r, k => by
    unfold look
    split
    · rename_i e; subst e; simp
    · rename_i e
      rw [look_none]
      simp [e]

theorem look_of_mem : ∀ {l : List (α × β)} {k : α} {v : β}, (l.map (·.1)).Nodup → (k, v) ∈ l → look l k = some v
  | (a, x) :: r, k, v, hn, h => by
    simp only [List.map_cons, List.nodup_cons] at hn
    unfold look
    rcases List.mem_cons.1 h with e | h
    · cases e; simp
    · have : a ≠ k := by
        rintro rfl
        exact hn.1 (List.mem_map.2 ⟨_, h, rfl⟩)
      rw [if_neg this]
      exact look_of_mem hn.2 h

theorem look_at : ∀ {l : List (α × β)} {k : α} {v : β}, look l k = some v → ∃ j, l[j]? = some (k, v) ∧ (∀ u, put l k u = l.set j (k, u)) ∧ del l k = l.eraseIdx j
  | (a, x) :: r, k, v, h => by
    unfold look at h
    split at h
    · rename_i e
      subst e
      cases h
      exact ⟨0, rfl, fun u => by simp [put], by simp [del]⟩
    · rename_i e
      obtain ⟨j, h1, h2, h3⟩ := look_at h
      exact ⟨j + 1, by simpa using h1, fun u => by simp [put, e, h2 u], by simp [del, e, h3]⟩

theorem put_none : ∀ {l : List (α × β)} {k : α}, look l k = none → ∀ v, put l k v = l ++ [(k, v)]
  | [], k, _, v => rfl
  | (a, x) :: r, k, h, v => by
    unfold look at h
    split at h
    · cases h
    · rename_i e
      simp [put, e, put_none h v]

theorem del_none : ∀ {l : List (α × β)} {k : α}, look l k = none → del l k = l
  | [], k, _ => rfl
  | (a, x) :: r, k, h => by
    unfold look at h
    split at h
    · cases h
    · rename_i e
      simp [del, e, del_none h]

theorem look_put (l : List (α × β)) (k k' : α) (v : β) : look (put l k v) k' = if k = k' then some v else look l k' := by
  induction l with
  | nil => simp [put, look]
  | cons p r ih =>
    obtain ⟨a, x⟩ := p
    unfold put
    by_cases h : a = k
    · subst h
      by_cases h2 : a = k' <;> simp [look, h2]
    · rw [if_neg h]
      by_cases h2 : a = k'
      · subst h2
        simp [look, Ne.symm h]
      · simp [look, h2, ih]

theorem look_del (l : List (α × β)) (hn : (l.map (·.1)).Nodup) (k k' : α) : look (del l k) k' = if k = k' then none else look l k' := by
  induction l with
  | nil => simp [del, look]
  | cons p r ih =>
    obtain ⟨a, x⟩ := p
    simp only [List.map_cons, List.nodup_cons] at hn
    unfold del
    by_cases h : a = k
    · subst h
      rw [if_pos rfl]
      by_cases h2 : a = k'
      · subst h2
        rw [if_pos rfl]
        rw [look_none]
        intro p hp e
        exact hn.1 (List.mem_map.2 ⟨p, hp, e⟩)
      · simp [look, h2]
    · rw [if_neg h]
      by_cases h2 : a = k'
      · subst h2
        simp [look, Ne.symm h]
      · simp [look, h2, ih hn.2]

theorem keys_put_some {l : List (α × β)} {k : α} {x : β} (h : look l k = some x) (v : β) : (put l k v).map (·.1) = l.map (·.1) := by
  induction l with
  | nil => cases h
  | cons p r ih =>
    obtain ⟨a, y⟩ := p
    unfold look at h
    unfold put
    by_cases e : a = k
    · subst e; simp
    · rw [if_neg e] at h ⊢
      simp [ih h]

theorem look_map {γ : Type} (f : β → γ) (l : List (α × β)) (k : α) : look (l.map fun p => (p.1, f p.2)) k = (look l k).map f := by
  induction l with
  | nil => rfl
  | cons p r ih => obtain ⟨a, x⟩ := p; simp only [List.map_cons, look]; split <;> simp [ih]

theorem put_map {γ : Type} (f : β → γ) (l : List (α × β)) (k : α) (v : β) : put (l.map fun p => (p.1, f p.2)) k (f v) = (put l k v).map fun p => (p.1, f p.2) := by
  induction l with
  | nil => rfl
  | cons p r ih => obtain ⟨a, x⟩ := p; simp only [List.map_cons, put]; split <;> simp [ih]

theorem del_map {γ : Type} (f : β → γ) (l : List (α × β)) (k : α) : del (l.map fun p => (p.1, f p.2)) k = (del l k).map fun p => (p.1, f p.2) := by
  induction l with
  | nil => rfl
  | cons p r ih => obtain ⟨a, x⟩ := p; simp only [List.map_cons, del]; split <;> simp [ih]

theorem length_put (l : List (α × β)) (k : α) (v : β) : (put l k v).length = if (look l k).isSome then l.length else l.length + 1 := by
  induction l with
  | nil => simp [put, look]
  | cons p r ih =>
    obtain ⟨a, x⟩ := p
    unfold put look
    by_cases h : a = k
    · simp [h]
    · simp only [h, if_false, List.length_cons, ih]
      split <;> rfl

end

theorem nodup_of_map {γ δ : Type} (f : γ → δ) : ∀ l : List γ, (l.map f).Nodup → l.Nodup
  | [], _ => by simp
  | x :: r, h => by
    simp only [List.map_cons, List.nodup_cons] at h ⊢
    exact ⟨fun hx => h.1 (List.mem_map.2 ⟨x, hx, rfl⟩), nodup_of_map f r h.2⟩

theorem nodup_inj {γ : Type} {l : List γ} (h : l.Nodup) {i j : Nat} (hi : i < l.length) (hj : j < l.length) (e : l[i] = l[j]) : i = j := by
  rw [List.nodup_iff_pairwise_ne, List.pairwise_iff_getElem] at h
  rcases Nat.lt_trichotomy i j with hl | rfl | hl
  · exact absurd e (h i j hi hj hl)
  · rfl
  · exact absurd e.symm (h j i hj hi hl)

theorem eraseIdx_map {γ δ : Type} (f : γ → δ) : ∀ (l : List γ) (j : Nat), (l.eraseIdx j).map f = (l.map f).eraseIdx j
  | [], j => by simp
  | x :: r, 0 => by simp
  | x :: r, j + 1 => by simp [eraseIdx_map f r j]

/-! ### a map's block -/

/-- Keys of a type are told by the values of α. -/
structure KeyOk {α : Type} (d : TypeDesc) (mk : α → Value) : Prop where
  isKey : ∀ a, IsKey d (mk a)
  inj : ∀ a b, mk a = mk b → a = b
  bits : ∀ a, Instr.sameBits 10000 (mk a) (mk a) = true

theorem strKeyOk : KeyOk .string Value.string := ⟨fun _ => trivial, fun a b h => by injection h, fun a => by simp only [Instr.sameBits]; exact (MapKept.bytes_beq a a).2 rfl⟩

theorem intKeyOk : KeyOk (.int .i64) (Value.int .i64) := ⟨fun _ => rfl, fun a b h => by injection h, fun a => by simp [Instr.sameBits]⟩

/-- Block b is a map whose entries are l. -/
def MapAt {α : Type} (mk : α → Value) (w : World) (b : Nat) (l : List (α × Value)) : Prop :=
  ∃ es clock, w.heap[b]? = some (.map es clock) ∧ Stamped es clock ∧ es.toList.map (fun e => (e.key, e.val)) = l.map (fun p => (mk p.1, p.2))

section

variable {α : Type} {mk : α → Value} {w w' : World} {b : Nat} {l : List (α × Value)}

theorem MapAt.lt (h : MapAt mk w b l) : b < w.heap.size := by
  obtain ⟨es, clock, hb, _⟩ := h
  exact (Array.getElem?_eq_some_iff.1 hb).1

theorem MapAt.kept {S : Nat → Prop} (h : MapAt mk w b l) (hk : Keeps S w w') (hS : ¬ S b) : MapAt mk w' b l := by
  have hlt := h.lt
  obtain ⟨es, clock, hb, r⟩ := h
  exact ⟨es, clock, (hk.block b hlt hS).trans hb, r⟩

theorem MapAt.made (mk : α → Value) (w : World) : MapAt mk (w.alloc (.map #[] 0)) w.heap.size [] :=
  ⟨#[], 0, (MapKept.heap_alloc w _).1, stamped_empty 0, rfl⟩

theorem MapAt.keys (h : MapAt mk w b l) : (l.map (fun p => mk p.1)).Nodup := by
  obtain ⟨es, clock, hb, hs, he⟩ := h
  have := hs.2.2
  have h2 : es.toList.map (·.key) = l.map (fun p => mk p.1) := by
    have := congrArg (List.map (·.1)) he
    simpa [List.map_map, Function.comp_def] using this
  rwa [h2] at this

theorem MapAt.nodup (h : MapAt mk w b l) : (l.map (·.1)).Nodup := by
  have := h.keys
  have e : l.map (fun p => mk p.1) = (l.map (·.1)).map mk := by simp [List.map_map, Function.comp_def]
  rw [e] at this
  exact nodup_of_map mk _ this

end

section

variable {P : Program} {α : Type} [DecidableEq α] {d : TypeDesc} {mk : α → Value} {w : World} {b : Nat} {l : List (α × Value)} {kt e t : TypeId}

theorem find_entries (K : KeyOk d mk) {es : List MapEntry} (he : es.map (fun e => (e.key, e.val)) = l.map (fun p => (mk p.1, p.2))) (hn : (l.map (·.1)).Nodup) (k : α) :
    (look l k = none ∧ Instr.findNow d (mk k) es 0 = some none) ∨ ∃ j v, look l k = some v ∧ l[j]? = some (k, v) ∧ (∀ u, put l k u = l.set j (k, u)) ∧ del l k = l.eraseIdx j ∧ (∃ e, es[j]? = some e ∧ e.key = mk k ∧ e.val = v) ∧ Instr.findNow d (mk k) es 0 = some (some (j, v)) := by
  have hkeys : ∀ x ∈ es, IsKey d x.key := by
    intro x hx
    have : (x.key, x.val) ∈ l.map (fun p => (mk p.1, p.2)) := by rw [← he]; exact List.mem_map.2 ⟨x, hx, rfl⟩
    obtain ⟨p, _, hp⟩ := List.mem_map.1 this
    rw [← (Prod.mk.inj hp).1]
    exact K.isKey _
  have hat : ∀ j : Nat, (es[j]?).map (fun e => (e.key, e.val)) = (l[j]?).map (fun p => (mk p.1, p.2)) := by
    intro j
    have := congrArg (fun z => z[j]?) he
    simpa [List.getElem?_map] using this
  rcases findNow_spec (K.isKey k) es 0 hkeys with ⟨h1, h2⟩ | ⟨j, e0, h1, h2, h3⟩
  · refine .inl ⟨?_, h1⟩
    rw [look_none]
    intro p hp hk
    have : (mk p.1, p.2) ∈ es.map (fun e => (e.key, e.val)) := by rw [he]; exact List.mem_map.2 ⟨p, hp, rfl⟩
    obtain ⟨x, hx, hxe⟩ := List.mem_map.1 this
    exact h2 x hx ((Prod.mk.inj hxe).1.trans (by rw [hk]))
  · right
    have hj := hat j
    rw [h2] at hj
    cases hlj : l[j]? with
    | none => rw [hlj] at hj; simp at hj
    | some p =>
      rw [hlj] at hj
      simp only [Option.map_some, Option.some.injEq, Prod.mk.injEq] at hj
      have hpk : p.1 = k := K.inj _ _ (hj.1.symm.trans h3)
      obtain ⟨pk, pv⟩ := p
      simp only at hpk hj
      subst hpk
      have hm : (pk, pv) ∈ l := List.mem_of_getElem? hlj
      have hl := look_of_mem hn hm
      obtain ⟨j', g1, g2, g3⟩ := look_at hl
      have hjj : j' = j := by
        have hlt : j < l.length := (List.getElem?_eq_some_iff.1 hlj).1
        have hlt' : j' < l.length := (List.getElem?_eq_some_iff.1 g1).1
        have e1 : (l.map (·.1))[j]'(by simpa using hlt) = (l.map (·.1))[j']'(by simpa using hlt') := by
          simp only [List.getElem_map]
          rw [(List.getElem?_eq_some_iff.1 hlj).2, (List.getElem?_eq_some_iff.1 g1).2]
        exact nodup_inj hn _ _ e1.symm
      subst hjj
      refine ⟨j', pv, hl, hlj, g2, g3, ⟨e0, h2, h3, hj.2⟩, ?_⟩
      rw [h1, hj.2]
      simp

/-- 'm[k]', 'v, ok := m[k]' -/
theorem MapAt.lookup (K : KeyOk d mk) (h : MapAt mk w b l) (ht : P.underlying t = some (.map kt e)) (hd : P.underlying kt = some d) {z : Value} (hz : (zeroValue e).run P w = .ok z w) (k : α) (c : Bool) :
    (Instr.lookup t (.map (some b)) (mk k) c).run P w = .ok (if c then .tuple #[(look l k).getD z, .bool (look l k).isSome] else (look l k).getD z) w := by
  have hn := h.nodup
  obtain ⟨es, clock, hb, hs, he⟩ := h
  rcases find_entries K he hn k with ⟨h1, h2⟩ | ⟨j, v, h1, _, _, _, _, h2⟩
  · simp [Instr.lookup, run_underlying ht, MapKept.run_getObj_map hb, run_checkKey hd (K.isKey k), Instr.findKey, run_underlying hd, h2, hz, h1, Result.andThen]
  · simp [Instr.lookup, run_underlying ht, MapKept.run_getObj_map hb, run_checkKey hd (K.isKey k), Instr.findKey, run_underlying hd, h2, h1, Result.andThen]

/-- 'm[k] = v' -/
theorem MapAt.update (K : KeyOk d mk) (h : MapAt mk w b l) (ht : P.underlying t = some (.map kt e)) (hd : P.underlying kt = some d) (k : α) (v : Value) :
    ∃ o, (Instr.mapUpdate t (.map (some b)) (mk k) v).run P w = .ok () (setBlock w b o) ∧ MapAt mk (setBlock w b o) b (put l k v) := by
  have hn := h.nodup
  have hlt := h.lt
  obtain ⟨es, clock, hb, hs, he⟩ := h
  have hset : ∀ o, (setBlock w b o).heap[b]? = some o := fun o => by simp [setBlock, hlt]
  rcases find_entries K he hn k with ⟨h1, h2⟩ | ⟨j, x, h1, hj, hp, _, ⟨e0, he0, hk0, hv0⟩, h2⟩
  · refine ⟨.map (es.push { key := mk k, val := v, born := clock }) (clock + 1), ?_, _, _, hset _, stamped_push hs ?_, ?_⟩
    · simp [Instr.mapUpdate, run_underlying ht, MapKept.run_getObj_map hb, run_checkKey hd (K.isKey k), Instr.findKey, run_underlying hd, h2, setObj, Sem.run, hb, setBlock, Result.andThen]
    · intro x hx hxk
      have : (x.key, x.val) ∈ l.map (fun p => (mk p.1, p.2)) := by rw [← he]; exact List.mem_map.2 ⟨x, hx, rfl⟩
      obtain ⟨p, hp, hpe⟩ := List.mem_map.1 this
      exact look_none.1 h1 p hp (K.inj _ _ ((Prod.mk.inj hpe).1.trans hxk))
    · rw [put_none h1]
      simp [he]
  · have hes : es[j]? = some e0 := by rw [← Array.getElem?_toList]; exact he0
    refine ⟨.map (es.modify j fun e => { e with key := mk k, val := v }) clock, ?_, _, _, hset _, stamped_modify hs j _ (fun _ _ => rfl) (fun e _ hej => ?_), ?_⟩
    · simp [Instr.mapUpdate, run_underlying ht, MapKept.run_getObj_map hb, run_checkKey hd (K.isKey k), Instr.findKey, run_underlying hd, h2, hes, hk0, Instr.keyThatStays, K.bits, setObj, Sem.run, hb, setBlock, Result.andThen]
    · rw [hes] at hej
      cases hej
      exact hk0.symm
    · rw [hp v]
      apply List.ext_getElem?
      intro i
      have hat : (es.toList[i]?).map (fun e => (e.key, e.val)) = (l[i]?).map (fun p => (mk p.1, p.2)) := by
        have := congrArg (fun z => z[i]?) he
        simpa [List.getElem?_map] using this
      simp only [List.getElem?_map, Array.getElem?_toList, Array.getElem?_modify, List.getElem?_set] at hat ⊢
      by_cases hij : j = i
      · subst hij
        have hjl : j < l.length := (List.getElem?_eq_some_iff.1 hj).1
        simp [hes, hjl]
      · simp [hij, hat]

/-- 'delete(m, k)' -/
theorem MapAt.delete (K : KeyOk d mk) (h : MapAt mk w b l) (ht : P.underlying t = some (.map kt e)) (hd : P.underlying kt = some d) (k : α) (ty : TypeId) :
    ∃ o, (Builtin.delete_ #[t, kt] ty #[.map (some b), mk k]).run P w = .ok (.tuple #[]) (setBlock w b o) ∧ MapAt mk (setBlock w b o) b (del l k) := by
  have hn := h.nodup
  have hlt := h.lt
  obtain ⟨es, clock, hb, hs, he⟩ := h
  have hset : ∀ o, (setBlock w b o).heap[b]? = some o := fun o => by simp [setBlock, hlt]
  rcases find_entries K he hn k with ⟨h1, h2⟩ | ⟨j, x, h1, hj, _, hdl, ⟨e0, he0, hk0, hv0⟩, h2⟩
  · refine ⟨.map es clock, ?_, es, clock, hset _, hs, ?_⟩
    · simp [Builtin.delete_, run_underlying ht, MapKept.run_getObj_map hb, run_checkKey hd (K.isKey k), Instr.findKey, run_underlying hd, h2, setObj, Sem.run, hb, setBlock, Result.andThen]
    · rw [del_none h1]; exact he
  · refine ⟨.map (es.eraseIdxIfInBounds j) clock, ?_, _, _, hset _, stamped_erase hs j, ?_⟩
    · simp [Builtin.delete_, run_underlying ht, MapKept.run_getObj_map hb, run_checkKey hd (K.isKey k), Instr.findKey, run_underlying hd, h2, setObj, Sem.run, hb, setBlock, Result.andThen]
    · rw [hdl]
      have hjs : j < es.size := by
        have := (List.getElem?_eq_some_iff.1 he0).1
        simpa using this
      simp only [Array.eraseIdxIfInBounds, hjs, dif_pos, Array.toList_eraseIdx]
      rw [eraseIdx_map, eraseIdx_map, he]

theorem MapAt.length (h : MapAt mk w b l) (ht : P.underlying t = some (.map kt e)) (ty : TypeId) :
    (Builtin.len_ #[t] ty #[.map (some b)]).run P w = .ok (.int .i64 l.length) w := by
  obtain ⟨es, clock, hb, hs, he⟩ := h
  have hl : es.size = l.length := by
    have := congrArg List.length he
    simpa using this
  simp [Builtin.len_, run_underlying ht, MapKept.run_getObj_map hb, hl, goInt, Result.andThen]

end

/-! ### going through a map -/

theorem filter_par {A B C : Type} (f : A → C) (g : B → C) (p : A → Bool) (q : B → Bool) : ∀ (la : List A) (lb : List B), la.map f = lb.map g → (∀ a ∈ la, ∀ b ∈ lb, f a = g b → p a = q b) → (la.filter p).map f = (lb.filter q).map g
  | [], [], _, _ => rfl
  | [], _ :: _, h, _ => by simp at h
  | _ :: _, [], h, _ => by simp at h
  | a :: la, b :: lb, h, hpq => by
    simp only [List.map_cons, List.cons.injEq] at h
    have ih := filter_par f g p q la lb h.2 (fun x hx y hy => hpq x (by simp [hx]) y (by simp [hy]))
    have h1 := hpq a (by simp) b (by simp) h.1
    by_cases hp : p a = true
    · have hq : q b = true := by rw [← h1]; exact hp
      simp [hp, hq, ih, h.1]
    · have hq : ¬ q b = true := by rw [← h1]; exact hp
      simp [hp, hq, ih]

/-- Block r goes through the map in block b; left is what has not come yet. -/
def IterAt {α : Type} (mk : α → Value) (w : World) (r b : Nat) (l left : List (α × Value)) : Prop :=
  ∃ es clock since seen, w.heap[b]? = some (.map es clock) ∧ Stamped es clock ∧ es.toList.map (fun e => (e.key, e.val)) = l.map (fun p => (mk p.1, p.2)) ∧
    w.heap[r]? = some (.mapIter (some b) since seen clock) ∧ (∀ x ∈ es.toList, x.born < since) ∧ since ≤ clock ∧
    (leftOf es seen).toList.map (fun e => (e.key, e.val)) = left.map (fun p => (mk p.1, p.2))

section

variable {P : Program} {α : Type} [DecidableEq α] {d : TypeDesc} {mk : α → Value} {w : World} {b r : Nat} {l left : List (α × Value)} {kt e t : TypeId}

theorem IterAt.map (h : IterAt mk w r b l left) : MapAt mk w b l := by
  obtain ⟨es, clock, since, seen, hb, hs, he, _⟩ := h
  exact ⟨es, clock, hb, hs, he⟩

theorem IterAt.kept {w' : World} {S : Nat → Prop} (h : IterAt mk w r b l left) (hk : Keeps S w w') (hb : ¬ S b) (hr : ¬ S r) : IterAt mk w' r b l left := by
  obtain ⟨es, clock, since, seen, h1, hs, he, h2, rest⟩ := h
  exact ⟨es, clock, since, seen, (hk.block b (Array.getElem?_eq_some_iff.1 h1).1 hb).trans h1, hs, he, (hk.block r (Array.getElem?_eq_some_iff.1 h2).1 hr).trans h2, rest⟩

/-- 'range m' -/
theorem MapAt.range (h : MapAt mk w b l) (ht : P.underlying t = some (.map kt e)) :
    ∃ o, (Instr.range t (.map (some b))).run P w = .ok (.pointer (some ⟨w.heap.size, 0, none⟩)) (w.alloc o) ∧ IterAt mk (w.alloc o) w.heap.size b l l := by
  have hlt := h.lt
  obtain ⟨es, clock, hb, hs, he⟩ := h
  refine ⟨.mapIter (some b) clock #[] clock, ?_, es, clock, clock, #[], (Below.heap_alloc _ _ _ hlt).trans hb, hs, he, (MapKept.heap_alloc w _).1, hs.1, Nat.le_refl _, ?_⟩
  · simp [Instr.range, run_underlying ht, MapKept.run_getObj_map hb, newObj, Sem.run, Result.andThen]
  · have : leftOf es #[] = es := by simp [leftOf]
    rw [this]; exact he

theorem del_filter {β : Type} (l : List (α × β)) (hn : (l.map (·.1)).Nodup) (k : α) : del l k = l.filter (fun p => p.1 ≠ k) := by
  induction l with
  | nil => rfl
  | cons p r ih =>
    obtain ⟨a, x⟩ := p
    simp only [List.map_cons, List.nodup_cons] at hn
    unfold del
    by_cases h : a = k
    · subst h
      rw [if_pos rfl]
      have : r.filter (fun p => p.1 ≠ a) = r := by
        rw [List.filter_eq_self]
        intro q hq
        simp only [ne_eq, decide_not, Bool.not_eq_eq_eq_not, Bool.not_true, decide_eq_false_iff_not]
        intro e
        exact hn.1 (List.mem_map.2 ⟨q, hq, e⟩)
      rw [List.filter_cons, if_neg (by simp), this]
    · rw [if_neg h, ih hn.2]
      simp [h]

theorem IterAt.next (K : KeyOk d mk) (h : IterAt mk w r b l left) (ty : TypeId) :
    (left = [] ∧ (Instr.next (.pointer (some ⟨r, 0, none⟩)) false ty).run P w = .ok (.tuple #[.bool false]) w) ∨
    ∃ k v w', (k, v) ∈ left ∧ (Instr.next (.pointer (some ⟨r, 0, none⟩)) false ty).run P w = .ok (.tuple #[.bool true, mk k, v]) w' ∧ IterAt mk w' r b l (del left k) ∧
      Keeps (· = r) w w' ∧ w'.heap.size = w.heap.size ∧ (Instr.entry (.pointer (some ⟨r, 0, none⟩))).run P w' = .ok (.tuple #[mk k, v]) w' := by
  have hmap := h.map
  obtain ⟨es, clock, since, seen, hb, hs, he, hr, hold, hsc, hleft⟩ := h
  have hbr : b ≠ r := by rintro rfl; rw [hb] at hr; cases hr
  rcases run_next_at (P := P) w ty r b since clock seen es clock hr hb hold hsc with ⟨h0, hrun⟩ | ⟨e0, he0, w1, hw1, hrun⟩
  · refine .inl ⟨?_, hrun⟩
    have : (leftOf es seen).toList = [] := by
      apply List.eq_nil_of_length_eq_zero
      simpa using h0
    rw [this] at hleft
    simpa using hleft.symm
  · right
    have hm : (e0.key, e0.val) ∈ left.map (fun p => (mk p.1, p.2)) := by rw [← hleft]; exact List.mem_map.2 ⟨e0, he0, rfl⟩
    obtain ⟨⟨k, v⟩, hkv, hpe⟩ := List.mem_map.1 hm
    simp only [Prod.mk.injEq] at hpe
    have hk1 : Keeps (· = r) w w1 := by rcases hw1 with rfl | rfl; exact Keeps.refl _ _; exact Keeps.drew _ _
    have hz1 : w1.heap = w.heap := by rcases hw1 with rfl | rfl <;> rfl
    have hrlt : r < w.heap.size := (Array.getElem?_eq_some_iff.1 hr).1
    have hb' : (setBlock w1 r (.mapIter (some b) since (seen.push e0.born) clock)).heap[b]? = some (.map es clock) := by
      simp [setBlock, hz1, Ne.symm hbr, hb]
    have hr' : (setBlock w1 r (.mapIter (some b) since (seen.push e0.born) clock)).heap[r]? = some (.mapIter (some b) since (seen.push e0.born) clock) := by
      simp [setBlock, hz1, hrlt]
    have hin : e0 ∈ es.toList := by
      simp only [leftOf, Array.toList_filter] at he0
      exact (List.mem_filter.1 he0).1
    refine ⟨k, v, _, hkv, by rw [hrun, hpe.1, hpe.2], ⟨es, clock, since, seen.push e0.born, hb', hs, he, hr', hold, hsc, ?_⟩, hk1.trans (Keeps.setBlock _ _ _) (fun i _ hi => hi), by simp [setBlock, hz1], ?_⟩
    · have hnl : (left.map (·.1)).Nodup := by
        have h1 : ((leftOf es seen).toList.map (·.key)).Nodup := by
          have : (leftOf es seen).toList.Sublist es.toList := by simp only [leftOf, Array.toList_filter]; exact List.filter_sublist
          exact List.Nodup.sublist (List.Sublist.map _ this) hs.2.2
        have h2 : (leftOf es seen).toList.map (·.key) = (left.map (·.1)).map mk := by
          have := congrArg (List.map (·.1)) hleft
          simpa [List.map_map, Function.comp_def] using this
        rw [h2] at h1
        exact nodup_of_map mk _ h1
      rw [del_filter left hnl]
      have h3 : (leftOf es (seen.push e0.born)).toList = (leftOf es seen).toList.filter (fun x => x.born != e0.born) := by
        simp only [leftOf, Array.toList_filter, List.filter_filter]
        apply List.filter_congr
        intro x _
        simp only [Array.contains_push, Bool.not_or, bne]
        rw [Bool.and_comm]
      rw [h3]
      refine filter_par _ _ _ _ _ _ hleft (fun x hx pr _ hxp => ?_)
      have hxin : x ∈ es.toList := by
        simp only [leftOf, Array.toList_filter] at hx
        exact (List.mem_filter.1 hx).1
      have iff1 : x.born = e0.born ↔ x.key = e0.key := by
        obtain ⟨i, hi, rfl⟩ := List.getElem_of_mem hxin
        obtain ⟨j, hj, hje⟩ := List.getElem_of_mem hin
        constructor
        · intro h
          have : i = j := nodup_inj hs.2.1 (by simpa using hi) (by simpa using hj) (by simp only [List.getElem_map]; rw [h, hje])
          subst this
          rw [hje]
        · intro h
          have : i = j := nodup_inj hs.2.2 (by simpa using hi) (by simpa using hj) (by simp only [List.getElem_map]; rw [h, hje])
          subst this
          rw [hje]
      have hxk := (Prod.mk.inj hxp).1
      have iff2 : x.born = e0.born ↔ pr.1 = k := by
        rw [iff1, hxk, ← hpe.1]
        exact ⟨fun h => K.inj _ _ h, fun h => by rw [h]⟩
      rw [Bool.eq_iff_iff]
      simp only [bne_iff_ne, ne_eq, decide_not, Bool.not_eq_eq_eq_not, Bool.not_true, decide_eq_false_iff_not]
      exact not_congr iff2
    · have := run_entry_at (P := P) _ r b since seen es clock e0 hr' hb' hin hs.2.1
      rw [this, hpe.1, hpe.2]

end

/-! ### at the operations, for the walk -/

section

variable {P : Program} {α : Type} [DecidableEq α] {d : TypeDesc} {mk : α → Value} (w : World) {ops : Array Oper} {rest : List Oper} {o : Oper} {a : Act} {Q : Exit → Act → World → Prop}

theorem wpList_lookup_at (hg : o.guard = none) (m x : Operand) (t : TypeId) (hop : o.op = Op.lookup t m x false) (kt e : TypeId) (K : KeyOk d mk) (ht : P.underlying t = some (.map kt e)) (hd : P.underlying kt = some d)
    (z : Value) (hz : (zeroValue e).run P w = .ok z w) (b : Nat) (hm : a.eval m = .map (some b)) (k : α) (hx : a.eval x = mk k) (l : List (α × Value)) (hown : MapAt mk w b l)
    (hK : wpList P ops Q rest (a.put o.dst ((look l k).getD z)) w) : wpList P ops Q (o :: rest) a w := by
  refine wpList_plain hg fun K' hK' => ?_
  unfold Oper.wp
  simp [execOp, hop, hm, hx, hown.lookup K ht hd hz k false, Result.andThen]
  exact hK' _ _ hK

theorem wpList_lookup_ok_at (hg : o.guard = none) (m x : Operand) (t : TypeId) (hop : o.op = Op.lookup t m x true) (kt e : TypeId) (K : KeyOk d mk) (ht : P.underlying t = some (.map kt e)) (hd : P.underlying kt = some d)
    (z : Value) (hz : (zeroValue e).run P w = .ok z w) (b : Nat) (hm : a.eval m = .map (some b)) (k : α) (hx : a.eval x = mk k) (l : List (α × Value)) (hown : MapAt mk w b l)
    (hK : wpList P ops Q rest (a.put o.dst (.tuple #[(look l k).getD z, .bool (look l k).isSome])) w) : wpList P ops Q (o :: rest) a w := by
  refine wpList_plain hg fun K' hK' => ?_
  unfold Oper.wp
  simp [execOp, hop, hm, hx, hown.lookup K ht hd hz k true, Result.andThen]
  exact hK' _ _ hK

theorem wpList_mapUpdate_at (hg : o.guard = none) (m x v : Operand) (t : TypeId) (hop : o.op = Op.mapUpdate t m x v) (kt e : TypeId) (K : KeyOk d mk) (ht : P.underlying t = some (.map kt e)) (hd : P.underlying kt = some d)
    (b : Nat) (hm : a.eval m = .map (some b)) (k : α) (hx : a.eval x = mk k) (val : Value) (hv : a.eval v = val) (l : List (α × Value)) (hown : MapAt mk w b l)
    (hK : ∀ w', MapAt mk w' b (put l k val) → Keeps (· = b) w w' → w'.heap.size = w.heap.size → wpList P ops Q rest (a.put o.dst undef) w') : wpList P ops Q (o :: rest) a w := by
  refine wpList_plain hg fun K' hK' => ?_
  obtain ⟨ob, hrun, hw'⟩ := hown.update (e := e) K ht hd k val
  unfold Oper.wp
  simp [execOp, hop, hm, hx, hv, hrun, Result.andThen]
  exact hK' _ _ (hK _ hw' (Keeps.setBlock _ _ _) (by simp [setBlock]))

theorem wpList_delete_at (hg : o.guard = none) (m x : Operand) (t kt : TypeId) (hop : o.op = Op.call { callee := Callee.builtin Builtin.delete, args := #[m, x], argTypes := #[t, kt] }) (e : TypeId) (K : KeyOk d mk) (ht : P.underlying t = some (.map kt e)) (hd : P.underlying kt = some d)
    (b : Nat) (hm : a.eval m = .map (some b)) (k : α) (hx : a.eval x = mk k) (l : List (α × Value)) (hown : MapAt mk w b l)
    (hK : ∀ w', MapAt mk w' b (del l k) → Keeps (· = b) w w' → w'.heap.size = w.heap.size → wpList P ops Q rest (a.put o.dst (.tuple #[])) w') : wpList P ops Q (o :: rest) a w := by
  refine wpList_plain hg fun K' hK' => ?_
  obtain ⟨ob, hrun, hw'⟩ := hown.delete K ht hd k o.type
  unfold Oper.wp
  simp [execOp, hop, resolve, invoke, builtin, hm, hx, hrun, Result.andThen]
  exact hK' _ _ (hK _ hw' (Keeps.setBlock _ _ _) (by simp [setBlock]))

theorem wpList_len_at (hg : o.guard = none) (m : Operand) (t : TypeId) (hop : o.op = Op.call { callee := Callee.builtin Builtin.len, args := #[m], argTypes := #[t] }) (kt e : TypeId) (ht : P.underlying t = some (.map kt e))
    (b : Nat) (hm : a.eval m = .map (some b)) (l : List (α × Value)) (hown : MapAt mk w b l)
    (hK : wpList P ops Q rest (a.put o.dst (.int .i64 l.length)) w) : wpList P ops Q (o :: rest) a w := by
  refine wpList_plain hg fun K' hK' => ?_
  unfold Oper.wp
  simp [execOp, hop, resolve, invoke, builtin, hm, hown.length ht o.type, Result.andThen]
  exact hK' _ _ hK

theorem wpList_range_at (hg : o.guard = none) (m : Operand) (t : TypeId) (hop : o.op = Op.range t m) (kt e : TypeId) (ht : P.underlying t = some (.map kt e))
    (b : Nat) (hm : a.eval m = .map (some b)) (l : List (α × Value)) (hown : MapAt mk w b l)
    (hK : ∀ w', IterAt mk w' w.heap.size b l l → Keeps (fun _ => False) w w' → w'.heap.size = w.heap.size + 1 → wpList P ops Q rest (a.put o.dst (.pointer (some ⟨w.heap.size, 0, none⟩))) w') : wpList P ops Q (o :: rest) a w := by
  refine wpList_plain hg fun K' hK' => ?_
  obtain ⟨ob, hrun, hw'⟩ := hown.range (P := P) ht
  unfold Oper.wp
  simp [execOp, hop, hm, hrun, Result.andThen]
  exact hK' _ _ (hK _ hw' (Keeps.alloc _ _ _) (by simp))

theorem wpList_next_at (hg : o.guard = none) (it : Operand) (hop : o.op = Op.next it false) (K : KeyOk d mk) (b r : Nat) (hit : a.eval it = .pointer (some ⟨r, 0, none⟩)) (l left : List (α × Value)) (h : IterAt mk w r b l left)
    (hDone : left = [] → wpList P ops Q rest (a.put o.dst (.tuple #[.bool false])) w)
    (hMore : ∀ k v w', (k, v) ∈ left → IterAt mk w' r b l (del left k) → Keeps (· = r) w w' → w'.heap.size = w.heap.size → (Instr.entry (.pointer (some ⟨r, 0, none⟩))).run P w' = .ok (.tuple #[mk k, v]) w' → wpList P ops Q rest (a.put o.dst (.tuple #[.bool true, mk k, v])) w') :
    wpList P ops Q (o :: rest) a w := by
  refine wpList_plain hg fun K' hK' => ?_
  unfold Oper.wp
  rcases h.next (P := P) K o.type with ⟨h0, hrun⟩ | ⟨k, v, w', hkv, hrun, hit', hk, hsz, hen⟩
  · simp [execOp, hop, hit, hrun, Result.andThen]
    exact hK' _ _ (hDone h0)
  · simp [execOp, hop, hit, hrun, Result.andThen]
    exact hK' _ _ (hMore k v w' hkv hit' hk hsz hen)

end

/-! ### a map that may be nil -/

/-- A map value: nil, and there is nothing; or a block. -/
def OptMap {α : Type} (mk : α → Value) (w : World) (ob : Option Nat) (l : List (α × Value)) : Prop :=
  match ob with
  | none => l = []
  | some b => MapAt mk w b l

theorem OptMap.kept {α : Type} {mk : α → Value} {w w' : World} {ob : Option Nat} {l : List (α × Value)} {S : Nat → Prop} (h : OptMap mk w ob l) (hk : Keeps S w w') (hS : ∀ b, ob = some b → ¬ S b) : OptMap mk w' ob l := by
  cases ob with
  | none => exact h
  | some b => exact MapAt.kept h hk (hS b rfl)

theorem OptMap.lt {α : Type} {mk : α → Value} {w : World} {ob : Option Nat} {l : List (α × Value)} (h : OptMap mk w ob l) {b : Nat} (hb : ob = some b) : b < w.heap.size := by
  subst hb
  exact MapAt.lt h

section

variable {P : Program} {α : Type} [DecidableEq α] {d : TypeDesc} {mk : α → Value} {w : World} {ob : Option Nat} {l : List (α × Value)} {kt e t : TypeId}

theorem OptMap.lookup (K : KeyOk d mk) (h : OptMap mk w ob l) (ht : P.underlying t = some (.map kt e)) (hd : P.underlying kt = some d) {z : Value} (hz : (zeroValue e).run P w = .ok z w) (k : α) (c : Bool) :
    (Instr.lookup t (.map ob) (mk k) c).run P w = .ok (if c then .tuple #[(look l k).getD z, .bool (look l k).isSome] else (look l k).getD z) w := by
  cases ob with
  | some b => exact MapAt.lookup K h ht hd hz k c
  | none =>
    have h' : l = [] := h
    subst h'
    simp [Instr.lookup, run_underlying ht, run_checkKey hd (K.isKey k), Instr.findKey, run_underlying hd, Instr.findNow, look, hz, Result.andThen]

theorem OptMap.length (h : OptMap mk w ob l) (ht : P.underlying t = some (.map kt e)) (ty : TypeId) :
    (Builtin.len_ #[t] ty #[.map ob]).run P w = .ok (.int .i64 l.length) w := by
  cases ob with
  | some b => exact MapAt.length h ht ty
  | none =>
    have h' : l = [] := h
    subst h'
    simp [Builtin.len_, run_underlying ht, goInt, Result.andThen]

theorem OptMap.nodup (h : OptMap mk w ob l) : (l.map (·.1)).Nodup := by
  cases ob with
  | some b => exact MapAt.nodup h
  | none =>
    have h' : l = [] := h
    subst h'
    simp

variable {ops : Array Oper} {rest : List Oper} {o : Oper} {a : Act} {Q : Exit → Act → World → Prop}

theorem wpList_lookup_opt (w : World) (hg : o.guard = none) (m x : Operand) (t : TypeId) (hop : o.op = Op.lookup t m x false) (kt e : TypeId) (K : KeyOk d mk) (ht : P.underlying t = some (.map kt e)) (hd : P.underlying kt = some d)
    (z : Value) (hz : (zeroValue e).run P w = .ok z w) (ob : Option Nat) (hm : a.eval m = .map ob) (k : α) (hx : a.eval x = mk k) (l : List (α × Value)) (hown : OptMap mk w ob l)
    (hK : wpList P ops Q rest (a.put o.dst ((look l k).getD z)) w) : wpList P ops Q (o :: rest) a w := by
  refine wpList_plain hg fun K' hK' => ?_
  unfold Oper.wp
  simp [execOp, hop, hm, hx, hown.lookup K ht hd hz k false, Result.andThen]
  exact hK' _ _ hK

theorem wpList_len_opt (w : World) (hg : o.guard = none) (m : Operand) (t : TypeId) (hop : o.op = Op.call { callee := Callee.builtin Builtin.len, args := #[m], argTypes := #[t] }) (kt e : TypeId) (ht : P.underlying t = some (.map kt e))
    (ob : Option Nat) (hm : a.eval m = .map ob) (l : List (α × Value)) (hown : OptMap mk w ob l)
    (hK : wpList P ops Q rest (a.put o.dst (.int .i64 l.length)) w) : wpList P ops Q (o :: rest) a w := by
  refine wpList_plain hg fun K' hK' => ?_
  unfold Oper.wp
  simp [execOp, hop, resolve, invoke, builtin, hm, hown.length ht o.type, Result.andThen]
  exact hK' _ _ hK

end

end Go.Proofs.YtpagenipflmlfaaGreatDoor

/- Small functions of the program and of the statements: what they give. -/

namespace Go.Proofs.YtpagenipflmlfaaGreatDoor

open Go.RowKit

theorem ret_bool {a b : Bool} (h : a = b) : Ending.returned (.bool a) = .returned (.bool b) := by rw [h]

theorem ret_int {k : IntKind} {a b : Int} (h : a = b) : Ending.returned (.int k a) = .returned (.int k b) := by rw [h]

theorem ret_string {a b : ByteArray} (h : a = b) : Ending.returned (.string a) = .returned (.string b) := by rw [h]

theorem extract_all (s : ByteArray) (n : Nat) (h : s.size ≤ n) : s.extract 0 n = s := by
  apply ByteArray.ext
  simp only [ByteArray.data_extract]
  rw [Array.extract_eq_self_of_le]
  exact h

/-- is it a key? -/
def keyB (s : ByteArray) : Bool := decide (1 ≤ s.size) && decide (s.size ≤ 10)

/-- is it a value? -/
def valB (s : ByteArray) : Bool := decide (s.size ≤ 40)

theorem isKey_any (s : ByteArray) (w : World) (hs : s.size ≤ maxLen) :
    Calls Tryz.prog 50 #[.string s] w fun e w' => e = .returned (.bool (keyB s)) ∧ w' = w := by
  unfold maxLen at hs
  go_enter Tryz.func50, Tryz.ntmps50
  go_wp2
  all_goals go_ret
  · refine ⟨ret_bool ?_, rfl⟩
    unfold keyB
    rw [Bool.eq_iff_iff]
    simp
    omega
  · refine ⟨ret_bool ?_, rfl⟩
    unfold keyB
    rw [Bool.eq_iff_iff]
    simp
    omega

theorem isValue_any (s : ByteArray) (w : World) (hs : s.size ≤ maxLen) :
    Calls Tryz.prog 82 #[.string s] w fun e w' => e = .returned (.bool (valB s)) ∧ w' = w := by
  unfold maxLen at hs
  go_enter Tryz.func82, Tryz.ntmps82
  go_wp2
  all_goals go_ret
  refine ⟨ret_bool ?_, rfl⟩
  unfold valB
  rw [Bool.eq_iff_iff]
  simp
  omega

/-- which of n things a raw number speaks of -/
def pickZ (c : Int) (n : Int) : Int := if c < 0 then (-(c + 1)) % n else c % n

theorem pick_any (c n : Int) (w : World) (hc : -9223372036854775808 ≤ c ∧ c ≤ 9223372036854775807) (hn : 1 ≤ n ∧ n ≤ 1000000) :
    Calls Tryz.prog 19 #[.int .i64 c, .int .i64 n] w fun e w' => e = .returned (.int .i64 (pickZ c n)) ∧ w' = w := by
  obtain ⟨h1, h2⟩ := hc
  obtain ⟨h3, h4⟩ := hn
  go_enter Tryz.func19, Tryz.ntmps19
  go_wp2
  all_goals go_ret
  · refine ⟨ret_int ?_, rfl⟩
    unfold pickZ
    rw [if_pos (by assumption), ← Int.neg_tmod, Int.tmod_eq_emod_of_nonneg (by omega)]
  · refine ⟨ret_int ?_, rfl⟩
    unfold pickZ
    rw [if_neg (by omega)]

theorem cut_any (s : ByteArray) (w : World) (hs : s.size ≤ maxLen) :
    Calls Tryz.prog 22 #[.string s] w fun e w' => e = .returned (.string (s.extract 0 40)) ∧ w' = w := by
  unfold maxLen at hs
  go_enter Tryz.func22, Tryz.ntmps22
  go_wp2
  all_goals go_ret
  · exact ⟨rfl, rfl⟩
  · refine ⟨ret_string ?_, rfl⟩
    rw [extract_all s 40 (by omega)]

/-- the k-th of twelve keys -/
def keyZ (k : Int) : ByteArray := (ByteArray.mk #[107, 101, 121]).extract 0 (1 + k % 3).toNat ++ (ByteArray.mk #[97, 98, 99, 100, 101, 102, 103, 104, 105, 106, 107, 108]).extract k.toNat (k + 1).toNat

theorem key_any (k : Int) (w : World) (hk : 0 ≤ k ∧ k < 12) :
    Calls Tryz.prog 21 #[.int .i64 k] w fun e w' => e = .returned (.string (keyZ k)) ∧ Keeps (fun _ => False) w w' := by
  obtain ⟨h1, h2⟩ := hk
  go_enter Tryz.func21, Tryz.ntmps21
  go_wp2
  go_region
  go_wp2
  go_ret
  exact ⟨rfl, Keeps.drew _ _⟩

end Go.Proofs.YtpagenipflmlfaaGreatDoor

/- What one call does to a store, told by the steps that take it back: undoBy, assign, putBack, enter, remove. -/

namespace Go.Proofs.YtpagenipflmlfaaGreatDoor

open Go.RowKit

theorem Tryz.infoFn : (Tryz.prog.info? 1).map (fun i => (i.zero, i.size, i.bytes)) = some (some .nilFunc, 1, 8) := by kernel_rfl

/-- Block cb holds the list fs of steps; C: the blocks that it lies in. -/
def Chg (w : World) (cb : Nat) (fs : List Value) (C : List Nat) : Prop :=
  ∃ v, w.heap[cb]? = some (.cells #[v] 69 (0, 0)) ∧ Row w 1 1 v fs.length fs ∧ v.ownBlock ≠ some cb ∧ C = cb :: v.ownBlock.toList

theorem Chg.kept {w w' : World} {cb : Nat} {fs : List Value} {C : List Nat} {S : Nat → Prop} (h : Chg w cb fs C) (hk : Keeps S w w') (hS : ∀ k, k ∈ C → ¬ S k) : Chg w' cb fs C := by
  obtain ⟨v, hb, hr, hne, rfl⟩ := h
  refine ⟨v, ?_, hr.kept hk (fun g hg => hS g (by simp [hg])), hne, rfl⟩
  rw [hk.block cb (Array.getElem?_eq_some_iff.1 hb).1 (hS cb (by simp))]
  exact hb

theorem Chg.lt {w : World} {cb : Nat} {fs : List Value} {C : List Nat} (h : Chg w cb fs C) : ∀ k ∈ C, k < w.heap.size := by
  obtain ⟨v, hb, hr, hne, rfl⟩ := h
  intro k hk
  rcases List.mem_cons.1 hk with rfl | hk
  · exact (Array.getElem?_eq_some_iff.1 hb).1
  · exact hr.lt (by simpa using hk)

theorem undoBy_cell {w w1 : World} {cb : Nat} {v : Value} {o : Obj} (hlt : cb < w.heap.size) (hb : Hid (w.heap[cb]? = some (.cells #[v] 69 (0, 0)))) (hne : Hid (v.ownBlock ≠ some cb)) (hg : (w.alloc o).grownBy w1 v.ownBlock) :
    w1.cell? ⟨cb, 0, none⟩ = some v ∧ w1.frozen? ⟨cb, 0, none⟩ = false ∧ w.heap.size + 1 ≤ w1.heap.size := by
  have h1 : w1.heap[cb]? = some (.cells #[v] 69 (0, 0)) := by
    rw [hg.block cb (by simp; omega) (fun e => hne.out e.symm), Below.heap_alloc _ _ _ hlt]
    exact hb.out
  exact ⟨by simp [World.cell?, h1], by simp [World.frozen?, h1], by simpa using hg.size⟩

set_option maxRecDepth 100000 in
set_option maxHeartbeats 400000 in
theorem undoBy_any (cb : Nat) (fs : List Value) (C : List Nat) (fn : Fn) (cap : Array Value) (w : World) (h : Chg w cb fs C) (hl : fs.length < 1000000000000) :
    Calls Tryz.prog 53 #[.pointer (some ⟨cb, 0, none⟩), .func fn #[] cap] w fun e w' => e = .returned (.tuple #[]) ∧
      ∃ C', Chg w' cb (fs ++ [.func fn #[] cap]) C' ∧ Keeps (· ∈ C) w w' ∧ ∀ k ∈ C', k ∈ C ∨ w.heap.size ≤ k := by
  obtain ⟨v, hb, hr, hne, rfl⟩ := h
  have hc : w.cell? ⟨cb, 0, none⟩ = some v := by simp [World.cell?, hb]
  have hfz : w.frozen? ⟨cb, 0, none⟩ = false := by simp [World.frozen?, hb]
  have hlt : cb < w.heap.size := (Array.getElem?_eq_some_iff.1 hb).1
  obtain ⟨i0, hi, hz0, hz1, hz2⟩ := info_parts Tryz.infoFn
  have HB : Hid (w.heap[cb]? = some (.cells #[v] 69 (0, 0))) := hb
  have HN : Hid (v.ownBlock ≠ some cb) := hne
  have HL : Hid (fs.length < 1000000000000) := hl
  clear hb hne hl
  go_enter Tryz.func53, Tryz.ntmps53
  go_wp2_with (first | (at_builtin; go_must (refine wpList_append_row _ rfl _ _ 67 rfl 1 i0 .nilFunc 1 8 Tryz.underlying67 hi hz0 hz1 hz2 rfl v fs.length fs rfl (hr.kept (Keeps.alloc (fun _ => False) _ _) (fun _ _ h => h)) ⟨w.heap.size, 0, none⟩ 1 1 [.func fn #[] cap] rfl rfl (cell_one_new _ _ _) (by simp [Value.oneCell']) (by have := HL.out; unfold maxLen; omega) (by have := HL.out; omega) ?_; intro v' w1 hown' hgrow _ hat; obtain ⟨g', cap', rfl⟩ := hown'.succ; obtain ⟨hc1, hf1, hz1⟩ := undoBy_cell hlt HB HN hgrow)) | fail)
  go_end0
  have hk1 : Keeps (· ∈ cb :: v.ownBlock.toList) w w1 := (Keeps.alloc _ w _).trans (Keeps.grown hgrow) (fun k _ hk => by simp [hk.symm])
  have hb1 : w1.heap[cb]? = some (.cells #[v] 69 (0, 0)) := by
    rw [hgrow.block cb (by simp; omega) (fun e => HN.out e.symm), Below.heap_alloc _ _ _ hlt]
    exact HB.out
  have hne' : g' ≠ cb := by
    rintro rfl
    rcases hat with h | h
    · exact HN.out h.symm
    · simp [Value.ownBlock] at h; omega
  refine ⟨rfl, _, ⟨_, heap_setCell_same hb1 _, ?_, ?_, rfl⟩, hk1.trans (Keeps.setCell _ _ _) (fun k _ hk => by simp at hk; simp [hk]), ?_⟩
  · have := hown'.kept (Keeps.setCell w1 ⟨cb, 0, none⟩ (.slice (some ⟨g', 0, none⟩) (fs.length + 1) cap')) (fun g hg => by simp [Value.ownBlock] at hg; subst hg; exact hne')
    simpa using this
  · simpa [Value.ownBlock] using hne'
  · intro k hk
    simp [Value.ownBlock] at hk
    rcases hk with rfl | rfl
    · simp
    · rcases hat with h | h
      · left; rw [← h]; simp [Value.ownBlock]
      · right; simp [Value.ownBlock] at h; omega

theorem assign_cells {w w1 : World} {cb : Nat} {fs : List Value} {C : List Nat} {pb po : Nat} {u v x : Value} {t t' : TypeId} (h : Chg w cb fs C) (hk : Keeps (· ∈ C) ((w.alloc (.cells #[v] t)).alloc (.cells #[x] t')) w1)
    (hc : w.cell? ⟨pb, po, none⟩ = some u) (hf : w.frozen? ⟨pb, po, none⟩ = false) (hp : pb ∉ C) :
    w1.cell? ⟨pb, po, none⟩ = some u ∧ w1.frozen? ⟨pb, po, none⟩ = false ∧ w1.cell? ⟨w.heap.size, 0, none⟩ = some v := by
  have hlt : pb < w.heap.size := World.block_lt_of_cell? _ _ hc
  refine ⟨hk.cell (p := ⟨pb, po, none⟩) (by rw [World.cell?_alloc_past _ _ _ (by simp; omega), World.cell?_alloc_past _ _ _ hlt]; exact hc) hp, ?_, ?_⟩
  · rw [hk.frozen (p := ⟨pb, po, none⟩) (by simp; omega) hp, World.frozen?_alloc_past _ _ _ (by simp; omega), World.frozen?_alloc_past _ _ _ hlt]
    exact hf
  · refine hk.cell (p := ⟨w.heap.size, 0, none⟩) (by rw [World.cell?_alloc_past _ _ _ (by simp), World.cell?_alloc_at _ _ _ _ rfl]; rfl) (fun h' => ?_)
    have := h.lt _ h'
    simp at this

theorem assign_end {w w1 : World} {C : List Nat} {pb : Nat} {v x : Value} {t t' : TypeId} (hk : Keeps (· ∈ C) ((w.alloc (.cells #[v] t)).alloc (.cells #[x] t')) w1)
    (hlt : pb < w.heap.size) (hp : pb ∉ C) (u : Value) (po : Nat) :
    Keeps (fun k => k ∈ C ∨ k = pb) w (w1.setCell ⟨pb, po, none⟩ u) ∧ (w1.setCell ⟨pb, po, none⟩ u).heap[pb]? = (w.setCell ⟨pb, po, none⟩ u).heap[pb]? := by
  have h1 : Keeps (· ∈ C) w w1 := ((Keeps.alloc _ w _).trans (Keeps.alloc (fun _ => False) _ _) (fun _ _ h => h.elim)).trans hk (fun _ _ h => h)
  refine ⟨(h1.mono (fun _ _ h => .inl h)).trans (Keeps.setCell _ _ _) (fun k _ hk => .inr hk), ?_⟩
  simp only [World.setCell, Array.getElem?_modify, h1.block pb hlt hp]

set_option maxRecDepth 100000 in
set_option maxHeartbeats 400000 in
theorem assign_int (cb : Nat) (fs : List Value) (C : List Nat) (pb po : Nat) (old new : Int) (w : World) (h : Chg w cb fs C) (hc : w.cell? ⟨pb, po, none⟩ = some (.int .i64 old)) (hfz : w.frozen? ⟨pb, po, none⟩ = false) (hp : pb ∉ C) (hl : fs.length < 1000000000000) :
    Calls Tryz.prog 43 #[.pointer (some ⟨cb, 0, none⟩), .pointer (some ⟨pb, po, none⟩), .int .i64 new] w fun e w' => e = .returned (.tuple #[]) ∧
      ∃ fs' C', fs'.length = fs.length + 1 ∧ Chg w' cb fs' C' ∧ Keeps (fun k => k ∈ C ∨ k = pb) w w' ∧ (∀ k ∈ C', k ∈ C ∨ w.heap.size ≤ k) ∧ w'.heap[pb]? = (w.setCell ⟨pb, po, none⟩ (.int .i64 new)).heap[pb]? := by
  have hlt : pb < w.heap.size := World.block_lt_of_cell? _ _ hc
  have HL : Hid (fs.length < 1000000000000) := hl
  have HP : Hid (pb ∉ C) := hp
  clear hl hp
  have hmf : ∀ (fn : Fn) (first cap : Array Value) (w : World), (Instr.makeFunc fn first cap).run Tryz.prog w = .ok (.func fn first cap) w := fun _ _ _ _ => rfl
  go_enter Tryz.func43, Tryz.ntmps43
  go_wp2_with (go_at_call 53; go_must (refine (undoBy_any cb fs C _ _ _ (h.kept ((Keeps.alloc (fun _ => False) w _).trans (Keeps.alloc (fun _ => False) _ _) (fun _ _ h => h)) (fun _ _ h => h)) (by have := HL.out; omega)).mono ?_; rintro e w1 ⟨rfl, C1, hC1, hk1, hC1'⟩; obtain ⟨hcs, hfs, hbx⟩ := assign_cells h hk1 hc hfz HP.out))
  go_end0
  obtain ⟨hk2, hb2⟩ := assign_end hk1 hlt HP.out (.int .i64 new) po
  refine ⟨rfl, _, C1, ?_, hC1.kept (Keeps.setCell _ _ _) (fun k hk e => ?_), hk2, fun k hk => ?_, hb2⟩
  · simp
  · have e' : k = pb := e
    subst e'
    rcases hC1' k hk with h1 | h1
    · exact HP.out h1
    · simp at h1; omega
  · rcases hC1' k hk with h1 | h1
    · exact .inl h1
    · simp at h1; right; omega

set_option maxRecDepth 100000 in
set_option maxHeartbeats 400000 in
theorem assign_map (cb : Nat) (fs : List Value) (C : List Nat) (pb po : Nat) (old new : Option Nat) (w : World) (h : Chg w cb fs C) (hc : w.cell? ⟨pb, po, none⟩ = some (.map old)) (hfz : w.frozen? ⟨pb, po, none⟩ = false) (hp : pb ∉ C) (hl : fs.length < 1000000000000) :
    Calls Tryz.prog 42 #[.pointer (some ⟨cb, 0, none⟩), .pointer (some ⟨pb, po, none⟩), .map new] w fun e w' => e = .returned (.tuple #[]) ∧
      ∃ fs' C', fs'.length = fs.length + 1 ∧ Chg w' cb fs' C' ∧ Keeps (fun k => k ∈ C ∨ k = pb) w w' ∧ (∀ k ∈ C', k ∈ C ∨ w.heap.size ≤ k) ∧ w'.heap[pb]? = (w.setCell ⟨pb, po, none⟩ (.map new)).heap[pb]? := by
  have hlt : pb < w.heap.size := World.block_lt_of_cell? _ _ hc
  have HL : Hid (fs.length < 1000000000000) := hl
  have HP : Hid (pb ∉ C) := hp
  clear hl hp
  have hmf : ∀ (fn : Fn) (first cap : Array Value) (w : World), (Instr.makeFunc fn first cap).run Tryz.prog w = .ok (.func fn first cap) w := fun _ _ _ _ => rfl
  go_enter Tryz.func42, Tryz.ntmps42
  go_wp2_with (go_at_call 53; go_must (refine (undoBy_any cb fs C _ _ _ (h.kept ((Keeps.alloc (fun _ => False) w _).trans (Keeps.alloc (fun _ => False) _ _) (fun _ _ h => h)) (fun _ _ h => h)) (by have := HL.out; omega)).mono ?_; rintro e w1 ⟨rfl, C1, hC1, hk1, hC1'⟩; obtain ⟨hcs, hfs, hbx⟩ := assign_cells h hk1 hc hfz HP.out))
  go_end0
  obtain ⟨hk2, hb2⟩ := assign_end hk1 hlt HP.out (.map new) po
  refine ⟨rfl, _, C1, ?_, hC1.kept (Keeps.setCell _ _ _) (fun k hk e => ?_), hk2, fun k hk => ?_, hb2⟩
  · simp
  · have e' : k = pb := e
    subst e'
    rcases hC1' k hk with h1 | h1
    · exact HP.out h1
    · simp at h1; omega
  · rcases hC1' k hk with h1 | h1
    · exact .inl h1
    · simp at h1; right; omega

end Go.Proofs.YtpagenipflmlfaaGreatDoor
