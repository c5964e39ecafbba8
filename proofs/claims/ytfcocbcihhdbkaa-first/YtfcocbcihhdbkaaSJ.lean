/- become, walked. -/
import Derived.Test.YtfcocbcihhdbkaaSI
import Derived.Deep.LoopGhost
namespace Go.Proofs.Ytfcocbcihhdbkaa
open Go.RowKit

/-- what becomes of a key that a work has written: its version, with the new state's number -/
def verOf (writes : List (ByteArray × Ver)) (state : Int) (key : ByteArray) : Ver := { ((look writes key).getD Ver.zero) with state := state }

/-- What become leaves: it has found a clash at the j-th key; or all have been added. -/
def BecomePost (w : World) (R : Rep) (x : WkR) (cb : Nat) (fs0 : List Value) (C0 : List Nat) (e : Ending) (w' : World) : Prop :=
  ∃ v ks, Rises ks ∧ ks.Perm (x.writes.map (·.1)) ∧
    ((∃ j Rj kbs C, ∃ h : j < ks.length, x.began < lastOf (versOf R.hist ks[j]) ∧ e = .returned (.int .i64 4) ∧ BecomeAt w R cb fs0 C0 v ks (verOf x.writes (R.now + 1)) j w' Rj kbs C) ∨
     ((∀ k ∈ ks, lastOf (versOf R.hist k) ≤ x.began) ∧ e = .returned (.int .i64 0) ∧ ∃ Rn fs C, StoreAt w' { Rn with now := R.now + 1 } ∧ Grew R ks (verOf x.writes (R.now + 1)) Rn ∧ Chg w' cb fs C ∧ fs.length ≤ fs0.length + ks.length + 1 ∧
        Keeps (fun k => k ∈ R.fp ∨ k ∈ C0) w w' ∧ (∀ k ∈ C, k ∉ Rn.fp) ∧ (∀ k ∈ Rn.fp, k ∈ R.fp ∨ w.heap.size ≤ k) ∧ (∀ k ∈ C, k ∈ C0 ∨ w.heap.size ≤ k)))

theorem Row.form {w : World} {e : TypeId} {size : Nat} {v : Value} {n : Nat} {xs : List Value} (h : Row w e size v n xs) : ∃ a cap, v = .slice a n cap ∧ n ≤ maxLen ∧ (0 < n → ∃ g, a = some ⟨g, 0, none⟩) := by
  rcases h.2 with ⟨rfl, rfl⟩ | ⟨g, cap, cur, rfl, _, h1, h2, _⟩
  · exact ⟨none, 0, rfl, by unfold maxLen; omega, fun h => by omega⟩
  · exact ⟨_, cap, rfl, by omega, fun _ => ⟨g, rfl⟩⟩

/-- Ahead of the first key. -/
theorem becomeAt_start {w w1 : World} {R : Rep} {cb : Nat} {C0 : List Nat} {v : Value} {ks : List ByteArray} {ver : ByteArray → Ver} (h : StoreAt w R) (t : Tied R) (hc : Chg w cb [] C0) (hC : ∀ k ∈ C0, k ∉ R.fp) (hk0 : Keeps (fun _ => False) w w1) (hr : Row w1 9 1 v ks.length (ks.map Value.string))
    (hv : ∀ k, v.ownBlock = some k → w.heap.size ≤ k) : BecomeAt w R cb [] C0 v ks ver 0 w1 R [] C0 := by
  refine ⟨h.kept hk0 (fun _ _ h => h), by simpa using Grew.refl t ver, by simpa using hc.kept hk0 (fun _ _ h => h), rfl, fun i hi => by simp at hi, hr, hk0.mono (fun _ _ h => h.elim), hC, fun k hk => .inl hk, fun k hk => .inl hk, ?_, Nat.le_refl _⟩
  intro k hk'
  have hfl := fp_lt h
  have hcl := hc.lt
  rcases hk' with hk' | hk' | ⟨_, hk', _⟩
  · have := hv k hk'
    exact ⟨fun hf => by have := hfl _ hf; omega, fun hf => by have := hcl _ hf; omega⟩
  · simp at hk'
  · simp at hk'

theorem BecomeAt.kept {w wr wr' : World} {R Rj : Rep} {cb : Nat} {fs0 : List Value} {C0 C kbs : List Nat} {v : Value} {ks : List ByteArray} {ver : ByteArray → Ver} {j : Nat} (h : BecomeAt w R cb fs0 C0 v ks ver j wr Rj kbs C) (hk : Keeps (fun _ => False) wr wr') : BecomeAt w R cb fs0 C0 v ks ver j wr' Rj kbs C :=
  ⟨h.store.kept hk (fun _ _ h => h), h.grew, h.chg.kept hk (fun _ _ h => h), h.len, fun i hi => ⟨(hk.block _ (Array.getElem?_eq_some_iff.1 (h.boxes i hi).1).1 (fun h => h)).trans (h.boxes i hi).1, (hk.block _ (Array.getElem?_eq_some_iff.1 (h.boxes i hi).2).1 (fun h => h)).trans (h.boxes i hi).2⟩, h.row.kept hk (fun _ _ h => h), h.keeps.tr hk (fun _ h => h.elim), h.fpC, h.fpE, h.cE, h.apart, h.klen⟩

theorem take_fresh {ks : List ByteArray} (hr : Rises ks) {j : Nat} (hj : j < ks.length) {key : ByteArray} (hk : ks[j] = key) : memB (ks.take j) key = false := by
  rw [Bool.eq_false_iff]
  intro h
  rw [memB_iff] at h
  obtain ⟨i, hi, e⟩ := List.getElem_of_mem h
  simp only [List.length_take] at hi
  rw [List.getElem_take] at e
  have := List.pairwise_iff_getElem.1 hr i j (by omega) hj (by omega)
  rw [e, hk, ltK_irrefl] at this
  cases this

theorem written_look {R : Rep} {n : Int} {x : WkR} {ks : List ByteArray} {j : Nat} {key : ByteArray} (g : Good R) (hx : (n, x) ∈ R.works) (hp : ks.Perm (x.writes.map (·.1))) (hj : j < ks.length) (hk : ks[j] = key) : ∃ q2 q3, look x.writes key = some ⟨0, q2, q3⟩ := by
  have hm : key ∈ x.writes.map (·.1) := hp.mem_iff.1 (hk ▸ List.getElem_mem hj)
  cases hl : look x.writes key with
  | none =>
    obtain ⟨p, hp1, e⟩ := List.mem_map.1 hm
    exact absurd e (look_none.1 hl p hp1)
  | some v =>
    have := (g.wkeys _ hx _ (look_mem hl)).2.2
    obtain ⟨st, q2, q3⟩ := v
    have hst : st = 0 := this
    subst hst
    exact ⟨q2, q3, rfl⟩

theorem vers_small {R : Rep} (g : Good R) (key : ByteArray) : (versOf R.hist key).length < 1000000000000 := by
  unfold versOf
  cases hl : look R.hist key with
  | none => simp
  | some y =>
    have hm := look_mem hl
    have h2 := rising_length y.vers 0 R.now (g.rising _ hm) (g.states _ hm)
    have h3 := g.now
    simp only [Option.map_some, Option.getD_some]
    omega

theorem AddPost.keeps {R : Rep} {key : ByteArray} {v : Ver} {w w' : World} (h : AddPost R key v w w') : Keeps (· ∈ R.fp) w w' := by
  obtain ⟨_, _, _, _, h, _⟩ := h
  exact h

/-- add's boxes. -/
def saddW (w : World) (sb : Nat) (key : ByteArray) (v : Ver) : World := (((w.alloc (.cells #[.pointer (some ⟨sb, 0, none⟩)] 23)).alloc (.cells #[.string key] 9)).alloc (.cells #[.int .i64 v.state, .string v.value, .bool v.gone] 79))

theorem sadd_heap (w : World) (o1 o2 o3 : Obj) : (((w.alloc o1).alloc o2).alloc o3).heap[w.heap.size]? = some o1 ∧ (((w.alloc o1).alloc o2).alloc o3).heap[w.heap.size + 1]? = some o2 ∧ (((w.alloc o1).alloc o2).alloc o3).heap[w.heap.size + 2]? = some o3 := by
  refine ⟨?_, ?_, ?_⟩
  · rw [Below.heap_alloc _ _ _ (by simp; omega), Below.heap_alloc _ _ _ (by simp)]
    exact heap_new w o1
  · rw [Below.heap_alloc _ _ _ (by simp)]
    have := heap_new (w.alloc o1) o2
    simpa using this
  · have := heap_new ((w.alloc o1).alloc o2) o3
    simpa using this

/-- The boxes of add behind Add. -/
theorem sadd_boxes {w W wb : World} {R : Rep} {x1 x2 y1 y2 y3 : Value} {t1 t2 t3 : TypeId} (hS : StoreAt w R) (hW : Keeps (fun _ => False) (((w.alloc (.cells #[x1] t1)).alloc (.cells #[x2] t2)).alloc (.cells #[y1, y2, y3] t3)) W)
    (hk : Keeps (· ∈ R.fp) W wb) :
    wb.cell? ⟨w.heap.size, 0, none⟩ = some x1 ∧ wb.cell? ⟨w.heap.size + 1, 0, none⟩ = some x2 ∧ wb.cell? ⟨w.heap.size + 1 + 1, 0, none⟩ = some y1 ∧ wb.cell? ⟨w.heap.size + 1 + 1, 1, none⟩ = some y2 ∧ wb.cell? ⟨w.heap.size + 1 + 1, 2, none⟩ = some y3 := by
  have hfl := fp_lt hS
  obtain ⟨e1, e2, e3⟩ := sadd_heap w (.cells #[x1] t1) (.cells #[x2] t2) (.cells #[y1, y2, y3] t3)
  have hz := hW.size
  simp at hz
  have g : ∀ k o, w.heap.size ≤ k → k < w.heap.size + 3 → (((w.alloc (.cells #[x1] t1)).alloc (.cells #[x2] t2)).alloc (.cells #[y1, y2, y3] t3)).heap[k]? = some o → wb.heap[k]? = some o := fun k o h1 h2 h3 => by
    rw [hk.block k (by omega) (fun e => by have := hfl _ e; omega), hW.block k (by simp; omega) (fun h => h)]
    exact h3
  exact ⟨cell_of_heap (g _ _ (by omega) (by omega) e1) 0, cell_of_heap (g _ _ (by omega) (by omega) e2) 0, cell_of_heap (g _ _ (by omega) (by omega) e3) 0, cell_of_heap (g _ _ (by omega) (by omega) e3) 1, cell_of_heap (g _ _ (by omega) (by omega) e3) 2⟩

/-- What add leaves. -/
def SAddPost (R : Rep) (key : ByteArray) (v : Ver) (cb : Nat) (fs : List Value) (C : List Nat) (w w' : World) : Prop :=
  ∃ wa wb C', Keeps (fun _ => False) w wa ∧ wa.heap[w.heap.size]? = some (.cells #[.pointer (some ⟨R.sb, 0, none⟩)] 23 (0, 0)) ∧ wa.heap[w.heap.size + 1]? = some (.cells #[.string key] 9 (0, 0)) ∧ w.heap.size + 1 < wa.heap.size ∧
    AddPost R key v wa wb ∧ Keeps (· ∈ C) wb w' ∧ Chg w' cb (fs ++ [clo w.heap.size]) C' ∧ ∀ k ∈ C', k ∈ C ∨ wb.heap.size ≤ k

theorem sadd_post {w W wb w' : World} {R : Rep} {key : ByteArray} {v : Ver} {cb : Nat} {fs : List Value} {C C' : List Nat} (hW : Keeps (fun _ => False) (saddW w R.sb key v) W) (hadd : AddPost R key v W wb) (hk : Keeps (· ∈ C) wb w') (hc : Chg w' cb (fs ++ [clo w.heap.size]) C') (hC : ∀ k ∈ C', k ∈ C ∨ wb.heap.size ≤ k) : SAddPost R key v cb fs C w w' := by
  obtain ⟨e1, e2, e3⟩ := sadd_heap w (.cells #[.pointer (some ⟨R.sb, 0, none⟩)] 23) (.cells #[.string key] 9) (.cells #[.int .i64 v.state, .string v.value, .bool v.gone] 79)
  have hz := hW.size
  simp [saddW] at hz
  have h0 : Keeps (fun _ => False) w (saddW w R.sb key v) := (((Keeps.refl (fun _ => False) w).al _).al _).al _
  refine ⟨W, wb, C', h0.tr hW (fun _ h => h), ?_, ?_, by omega, hadd, hk, hc, hC⟩
  · rw [hW.block _ (by simp [saddW]; omega) (fun h => h)]
    exact e1
  · rw [hW.block _ (by simp [saddW]) (fun h => h)]
    exact e2

set_option maxRecDepth 100000 in
set_option maxHeartbeats 1000000 in
/-- add: a version more, and the step that takes it back -/
theorem sadd_any (R : Rep) (key : ByteArray) (st : Int) (q2 : ByteArray) (q3 : Bool) (cb : Nat) (fs : List Value) (C : List Nat) (w : World) (h : StoreAt w R) (t : Tied R) (hkl : R.keys.length < 1000000000000) (hvl : (versOf R.hist key).length < 1000000000000) (hc : Chg w cb fs C) (hC : ∀ k ∈ C, k ∉ R.fp) (hl : fs.length < 1000000000000) :
    Calls Try.prog 52 #[.pointer (some ⟨R.sb, 0, none⟩), .pointer (some ⟨cb, 0, none⟩), .string key, .agg #[.int .i64 st, .string q2, .bool q3]] w fun e w' => e = .returned (.tuple #[]) ∧ SAddPost R key ⟨st, q2, q3⟩ cb fs C w w' := by
  have HADD : Hid (∀ W, Keeps (fun _ => False) (saddW w R.sb key ⟨st, q2, q3⟩) W → Calls Try.prog 69 #[.pointer (some ⟨R.sb, 7, none⟩), .string key, .agg #[.int .i64 st, .string q2, .bool q3]] W fun e w' => e = .returned (.tuple #[]) ∧ AddPost R key ⟨st, q2, q3⟩ W w') := fun W hW =>
    add_any R key ⟨st, q2, q3⟩ W (h.kept (((((Keeps.refl (fun _ => False) w).al _).al _).al _).tr hW (fun _ h => h)) (fun _ _ h => h)) t hkl hvl
  have HST : Hid (StoreAt w R) := h
  have HC : Hid (Chg w cb fs C) := hc
  have HCF : Hid (∀ k ∈ C, k ∉ R.fp) := hC
  have HL : Hid (fs.length < 1000000000000) := hl
  have hlt := h.lt
  have hmf : ∀ (fn : Fn) (first cap : Array Value) (w : World), (Instr.makeFunc fn first cap).run Try.prog w = .ok (.func fn first cap) w := fun _ _ _ _ => rfl
  clear h t hkl hvl hc hC hl
  go_enter Try.func52, Try.ntmps52
  go_wp2_with fail
  obtain ⟨-, -, hv2, hv3, hv4⟩ := sadd_boxes (wb := (saddW w R.sb key ⟨st, q2, q3⟩).drew) HST.out (Keeps.drew (fun _ => False) (saddW w R.sb key ⟨st, q2, q3⟩)) (Keeps.refl _ _)
  simp only [saddW] at hv2 hv3 hv4
  go_region_held3 (fun W => W.cell? ⟨w.heap.size, 0, none⟩ = some (.pointer (some ⟨R.sb, 0, none⟩)) ∧ W.cell? ⟨w.heap.size + 1, 0, none⟩ = some (.string key) ∧ W.cell? ⟨w.heap.size + 1 + 1, 0, none⟩ = some (.int .i64 st) ∧ W.cell? ⟨w.heap.size + 1 + 1, 1, none⟩ = some (.string q2) ∧ W.cell? ⟨w.heap.size + 1 + 1, 2, none⟩ = some (.bool q3)) (go_keep) (first | (go_at_call 69; refine (HADD.out _ ((Keeps.refl (fun _ => False) _).dr)).mono ?_; rintro e wb ⟨rfl, hadd⟩; obtain ⟨hbx0, hbx1, hbx2, hbx3, hbx4⟩ := sadd_boxes HST.out ((Keeps.refl (fun _ => False) _).dr) hadd.keeps; have HAP := hid hadd; clear hadd))
  have hchb : Chg wb cb fs C := HC.out.kept ((((((Keeps.refl (fun k => k ∈ R.fp) w).al _).al _).al _).dr).tr HAP.out.keeps (fun _ h => h)) (fun k hk hf => HCF.out k hk hf)
  have HUB := undoBy_any cb fs C (.func 70) #[.pointer (some ⟨w.heap.size, 0, none⟩), .pointer (some ⟨w.heap.size + 1, 0, none⟩)] wb hchb HL.out
  clear hchb
  go_wp2_with (go_at_call 42; go_must (refine HUB.mono ?_; rintro e wc ⟨rfl, C', hcc, hkc, hC'⟩))
  go_end0
  exact ⟨rfl, sadd_post ((Keeps.refl (fun _ => False) _).dr) HAP.out hkc hcc hC'⟩

theorem become_end {w wr wc : World} {R Rj : Rep} {x : WkR} {cb : Nat} {fs' : List Value} {C0 C C' kbs : List Nat} {v : Value} {ks : List ByteArray} (hris : Rises ks) (hperm : ks.Perm (x.writes.map (·.1)))
    (hlast : ∀ i' (h : i' < ks.length), i' < ks.length → lastOf (versOf R.hist ks[i']) ≤ x.began) (h : BecomeAt w R cb [] C0 v ks (verOf x.writes (R.now + 1)) ks.length wr Rj kbs C) (hfl : fs'.length = ks.length + 1) (hcc : Chg wc cb fs' C')
    (hkc : Keeps (fun k => k ∈ C ∨ k = R.sb) wr wc) (hC' : ∀ k ∈ C', k ∈ C ∨ wr.heap.size ≤ k) (hhp : wc.heap[R.sb]? = (wr.setCell ⟨R.sb, 0, none⟩ (.int .i64 (R.now + 1))).heap[R.sb]?) :
    BecomePost w R x cb [] C0 (.returned (.int .i64 0)) wc := by
  obtain ⟨hsb, hwks, hnw⟩ := h.grew.sb
  have hfl' := fp_lt h.store
  have hnd := h.store.nodup
  have htop : wc.heap[Rj.sb]? = some (.cells (topCells { Rj with now := R.now + 1 }) 66 (0, 0)) := by
    have := h.store.set (R' := { Rj with now := R.now + 1 }) rfl (i := 0) (v := .int .i64 (R.now + 1)) rfl
    rw [hsb] at this ⊢
    rw [hhp]
    exact this
  have hst : StoreAt wc { Rj with now := R.now + 1 } := h.store.nums hkc (fun k hk hb => by
    rcases hb with hb | rfl
    · exact h.fpC k hb (by simp only [Rep.fp, List.mem_cons]; exact .inr hk)
    · rw [← hsb] at hk
      exact (List.nodup_cons.1 hnd).1 hk) (R.now + 1) Rj.floor Rj.begun htop
  refine ⟨v, ks, hris, hperm, .inr ⟨fun k hk => ?_, rfl, Rj, fs', C', hst, by have := h.grew; rwa [List.take_length] at this, hcc, by simp; omega, ?_, ?_, h.fpE, ?_⟩⟩
  · obtain ⟨i, hi, rfl⟩ := List.getElem_of_mem hk
    exact hlast i hi hi
  · refine h.keeps.trans hkc (fun i hi hb => ?_)
    rcases hb with hb | rfl
    · rcases h.cE i hb with h1 | h1
      · exact .inr h1
      · omega
    · exact .inl (by simp [Rep.fp])
  · intro k hk hf
    rcases hC' k hk with h1 | h1
    · exact h.fpC k h1 hf
    · have := hfl' k hf; omega
  · intro k hk
    have hwz : w.heap.size ≤ wr.heap.size := h.keeps.size
    rcases hC' k hk with h1 | h1
    · exact h.cE k h1
    · exact .inr (by omega)

set_option maxRecDepth 100000 in
set_option maxHeartbeats 2000000 in
theorem become_any (R : Rep) (n : Int) (x : WkR) (cb : Nat) (C0 : List Nat) (w : World) (h : StoreAt w R) (g : Good R) (t : Tied R) (hx : (n, x) ∈ R.works) (hc : Chg w cb [] C0) (hC : ∀ k ∈ C0, k ∉ R.fp) (hkl : R.keys.length < 900000000000) :
    Calls Try.prog 32 #[.pointer (some ⟨R.sb, 0, none⟩), .pointer (some ⟨cb, 0, none⟩), workPtr x] w (BecomePost w R x cb [] C0) := by
  obtain ⟨c0, c1, hM⟩ := h.works.work hx
  have hnow := g.now
  have h30 := g.writes30 _ hx
  have hwk := g.wkeys _ hx
  have n0 : w.cell? ⟨R.sb, 0, none⟩ = some (.int .i64 R.now) := h.cell 0
  have hlt := h.lt
  have hkeys := keys_core x.blk x.mb (x.writes.map fun q => (q.1, q.2.val)) w c1 hM (fun p hp => by
    obtain ⟨q, hq, rfl⟩ := List.mem_map.1 hp
    have := (hwk q hq).1
    simp [keyB] at this
    unfold maxLen
    show q.1.size ≤ _
    omega) (by simp; simp at h30; omega)
  have hpm : (x.writes.map fun q => (q.1, q.2.val)).map (·.1) = x.writes.map (·.1) := by simp [List.map_map, Function.comp_def]
  rw [hpm] at hkeys
  have HST := hid h
  have HG := hid g
  have HT := hid t
  have HX := hid hx
  have HC := hid hc
  have HCF := hid hC
  have HKL := hid hkl
  obtain ⟨hnow1, hnow2⟩ := hnow
  unfold workPtr
  clear h g t hx hc hC hkl hM c0 c1 hwk h30 hpm
  go_enter Try.func32, Try.ntmps32
  go_wp2_with (go_at_call 38; go_must (refine hkeys.mono ?_; rintro e w1 ⟨v, ks, rfl, hrow, hris, hperm, hk1, hvb⟩; obtain ⟨av, capv, rfl, hnl, hav⟩ := hrow.form))
  have hkn : ks.length ≤ 30 := by
    have h1 := hperm.length_eq
    have h2 := HG.out.writes30 _ HX.out
    simp at h1 h2
    omega
  have hst : BecomeAt w R cb [] C0 (.slice av ks.length capv) ks (verOf x.writes (R.now + 1)) 0 w1 R [] C0 := becomeAt_start HST.out HT.out HC.out HCF.out hk1 hrow (fun k hk => Nat.le_of_lt (hvb k hk))
  have HRIS := hid hris
  have HPERM := hid hperm
  clear hrow hris hperm hk1 hkeys n0 hvb
  go_loopw [19] (fun i wr => ∃ (j : Nat) (Rj : Rep) (kbs C : List Nat), j ≤ ks.length ∧ i = .int .i64 j ∧ (∀ i' (h : i' < ks.length), i' < j → lastOf (versOf R.hist ks[i']) ≤ x.began) ∧ BecomeAt w R cb [] C0 (.slice av ks.length capv) ks (verOf x.writes (R.now + 1)) j wr Rj kbs C) (fun i _ => ks.length - (intOf i).toNat)
  case atStart => exact ⟨0, R, [], C0, Nat.zero_le _, rfl, fun i' _ h => by omega, hst⟩
  case round =>
    obtain ⟨j, Rj, kbs, C, hj, rfl, hlast, hB⟩ := hrel
    have HB := hid hB
    have HLAST := hid hlast
    clear hst hB hlast
    by_cases hjn : j < ks.length
    · obtain ⟨g, rfl⟩ := hav (by omega)
      have hcell : wr.cell? ⟨g, j, none⟩ = some (.string ks[j]) := by
        rw [HB.out.row.cellAt j (by omega)]
        simp [hjn]
      obtain ⟨key, hkey⟩ : ∃ key, ks[j] = key := ⟨_, rfl⟩
      rw [hkey] at hcell
      obtain ⟨hsb, hwks, hnw⟩ := HB.out.grew.sb
      have hnin : memB (ks.take j) key = false := take_fresh HRIS.out hjn hkey
      have hvv : versOf Rj.hist key = versOf R.hist key := by rw [HB.out.grew.vers, hnin]; rfl
      have hxj : (n, x) ∈ Rj.works := by rw [hwks]; exact HX.out
      obtain ⟨e0, e1, eM⟩ := HB.out.store.works.work hxj
      have hxl : x.blk < wr.heap.size := World.block_lt_of_cell? _ _ e0
      have HLC : Hid (∀ W, Keeps (fun _ => False) wr W → Calls Try.prog 51 #[.pointer (some ⟨R.sb, 7, none⟩), .string key] W fun e w' => e = .returned (.int .i64 (lastOf (versOf R.hist key))) ∧ w' = W) := fun W hk => by
        have hS := HB.out.store.kept hk (fun _ _ h => h)
        have := last_core Rj.sb key Rj.vm _ _ (versOf Rj.hist key) W (hS.cell 8) hS.past.histMap rfl (hS.past.slice key) (by rw [hvv]; exact (HG.out.vers key).2)
        rw [hsb, hvv] at this
        exact this
      have HVV := hid hvv
      have HSBJ := hid hsb
      have HNIN := hid hnin
      have HEM := hid eM
      have HKEY := hid hkey
      clear hvv hsb hnw hnin eM hkey hwks hxj
      by_cases hcl : x.began < lastOf (versOf R.hist key)
      · obtain ⟨lv, hlv⟩ : ∃ lv, lastOf (versOf R.hist key) = lv := ⟨_, rfl⟩
        rw [hlv] at HLC hcl
        have HLV := hid hlv
        clear hlv
        go_wp2_with fail
        go_region_held3 (fun W => W.cell? ⟨x.blk, 0, none⟩ = some (.int .i64 x.began)) (go_keep) (first | (go_at_call 51; refine (HLC.out _ ((Keeps.refl (fun _ => False) wr).dr)).mono ?_; rintro e w' ⟨rfl, rfl⟩))
        go_wp2
        go_ret
        refine ⟨.slice (some ⟨g, 0, none⟩) ks.length capv, ks, HRIS.out, HPERM.out, .inl ⟨j, Rj, kbs, C, hjn, ?_, rfl, HB.out.kept ((Keeps.refl (fun _ => False) wr).dr)⟩⟩
        rw [HKEY.out, HLV.out]
        exact hcl
      · have hcl' : lastOf (versOf R.hist key) ≤ x.began := by omega
        have HCL := hid hcl'
        obtain ⟨lv, hlv⟩ : ∃ lv, lastOf (versOf R.hist key) = lv := ⟨_, rfl⟩
        rw [hlv] at HLC hcl' hcl
        clear hlv
        obtain ⟨q2, q3, hq⟩ : ∃ q2 q3, look x.writes key = some ⟨0, q2, q3⟩ := written_look HG.out HX.out HPERM.out hjn HKEY.out
        have hver : verOf x.writes (R.now + 1) key = ⟨R.now + 1, q2, q3⟩ := by unfold verOf; rw [hq]; rfl
        have HVER := hid hver
        have HLKQ : Hid ((look (x.writes.map fun q => (q.1, q.2.val)) key).getD (.agg #[.int .i64 0, .string ByteArray.empty, .bool false]) = .agg #[.int .i64 0, .string q2, .bool q3]) := by
          rw [look_map, hq]
          exact rfl
        have HADD : Hid (∀ W, Keeps (fun _ => False) wr W → Calls Try.prog 52 #[.pointer (some ⟨R.sb, 0, none⟩), .pointer (some ⟨cb, 0, none⟩), .string key, .agg #[.int .i64 (R.now + 1), .string q2, .bool q3]] W fun e w' => e = .returned (.tuple #[]) ∧ SAddPost Rj key ⟨R.now + 1, q2, q3⟩ cb ([] ++ kbs.map clo) C W w') := fun W hk => by
          have := sadd_any Rj key (R.now + 1) q2 q3 cb ([] ++ kbs.map clo) C W (HB.out.store.kept hk (fun _ _ h => h)) HB.out.grew.tied (by have := HB.out.klen; have := HKL.out; omega) (by rw [HVV.out]; exact vers_small HG.out key) (HB.out.chg.kept hk (fun _ _ h => h)) HB.out.fpC (by have := HB.out.len; simp; omega)
          rw [HSBJ.out] at this
          exact this
        clear hq hver
        go_wp2_with fail
        go_region_held3 (fun W => W.cell? ⟨x.blk, 0, none⟩ = some (.int .i64 x.began)) (go_keep) (first | (go_at_call 51; refine (HLC.out _ ((Keeps.refl (fun _ => False) wr).dr)).mono ?_; rintro e w' ⟨rfl, rfl⟩))
        go_wp2_with (first
          | (at_lookup; go_must (refine wpList_lookup_at _ rfl _ _ 74 rfl 9 79 strKeyOk Try.underlying74 Try.underlying9 _ (Try.zeroVersion _) x.mb rfl key rfl _ (HEM.out.kept ((Keeps.refl (fun _ => False) wr).dr) (fun h => h)) ?_; rw [HLKQ.out]))
          | (go_at_call 52; go_must (refine (HADD.out _ (((Keeps.refl (fun _ => False) wr).al _).dr)).mono ?_; rintro e wc ⟨rfl, hs⟩)))
        obtain ⟨wa, wb, C', a1, a2, a3, a4, a5, a6, a7, a8⟩ := hs
        have k1 : Keeps (fun _ => False) wr _ := ((Keeps.refl (fun _ => False) wr).al (.cells #[.int .i64 (R.now + 1), .string q2, .bool q3] 79)).dr
        obtain ⟨R', hN⟩ := HB.out.next (key := key) hjn (by rw [← HKEY.out]; simp [hjn]) HNIN.out (k1.tr a1 (fun _ h => h)) k1.size (by rw [← HSBJ.out]; exact a2) a3 a4 (by rw [HVER.out]; exact a5) a6 a7 a8
        refine ⟨⟨j + 1, R', _, C', by omega, by simp, fun i' h hi => ?_, hN⟩, ?_⟩
        · rcases Nat.lt_or_ge i' j with h1 | h1
          · exact HLAST.out i' h h1
          · obtain rfl : i' = j := by omega
            rw [HKEY.out]
            exact HCL.out
        · simp only [intOf]
          omega
    · obtain rfl : j = ks.length := by omega
      obtain ⟨hsb, hwks, hnw⟩ := HB.out.grew.sb
      have hsC : R.sb ∉ C := fun hf => HB.out.fpC _ hf (by rw [← hsb]; simp [Rep.fp])
      have hlen : ([] ++ kbs.map clo).length = ks.length := by have := HB.out.len; simp [this]
      have hc0 : wr.cell? ⟨R.sb, 0, none⟩ = some (.int .i64 R.now) := by
        have := HB.out.store.cell 0
        rw [hsb] at this
        rw [this]
        simp [topCells, hnw]
      have hf0 : wr.frozen? ⟨R.sb, 0, none⟩ = false := by rw [← hsb]; exact HB.out.store.frozen 0
      have HAS := assign_int cb _ C R.sb 0 R.now (R.now + 1) wr HB.out.chg hc0 hf0 hsC (by rw [hlen]; omega)
      rw [hlen] at HAS
      clear hsC hlen hc0 hf0 hsb hwks hnw
      go_wp2_with (go_at_call 24; go_must (refine HAS.mono ?_; rintro e wc ⟨rfl, fs', C', hfl, hcc, hkc, hC', hhp⟩))
      go_ret
      exact become_end HRIS.out HPERM.out HLAST.out HB.out hfl hcc hkc hC' hhp

end Go.Proofs.Ytfcocbcihhdbkaa
