/- become, walked. -/
import Derived.Test.YthgojidgaeimnaaSI
import Derived.Deep.LoopGhost
namespace Go.Proofs.Ythgojidgaeimnaa
open Go.RowKit

/-- what becomes of a key that a work has written: its version, with the new state's number -/
def verOf (writes : List (ByteArray × Ver)) (state : Int) (key : ByteArray) : Ver := { ((look writes key).getD Ver.zero) with state := state }

/-- What become leaves: it has found a clash at the j-th key; or all have been added. -/
def BecomePost (w : World) (R : Rep) (x : WkR) (cb : Nat) (fs0 : List Value) (C0 : List Nat) (e : Ending) (w' : World) : Prop :=
  ∃ v ks, Rises ks ∧ ks.Perm (x.writes.map (·.1)) ∧
    ((∃ j Rj kbs C, ∃ h : j < ks.length, x.began < lastOf (versOf R.hist ks[j]) ∧ e = .returned (.int .i64 4) ∧ BecomeAt w R cb fs0 C0 v ks (verOf x.writes (R.now + 1)) j w' Rj kbs C) ∨
     ((∀ k ∈ ks, lastOf (versOf R.hist k) ≤ x.began) ∧ e = .returned (.int .i64 0) ∧ ∃ Rn fs C, StoreAt w' { Rn with now := R.now + 1 } ∧ Grew R ks (verOf x.writes (R.now + 1)) Rn ∧ Chg w' cb fs C ∧ fs.length ≤ fs0.length + ks.length + 1 ∧
        Keeps (fun k => k ∈ R.fp ∨ k ∈ C0) w w' ∧ (∀ k ∈ C, k ∉ Rn.fp) ∧ (∀ k ∈ Rn.fp, k ∈ R.fp ∨ w.heap.size < k) ∧ (∀ k ∈ C, k ∈ C0 ∨ w.heap.size < k)))

theorem Row.form {w : World} {e : TypeId} {size : Nat} {v : Value} {n : Nat} {xs : List Value} (h : Row w e size v n xs) : ∃ a cap, v = .slice a n cap ∧ n ≤ maxLen ∧ (0 < n → ∃ g, a = some ⟨g, 0, none⟩) := by
  rcases h.2 with ⟨rfl, rfl⟩ | ⟨g, cap, cur, rfl, _, h1, h2, _⟩
  · exact ⟨none, 0, rfl, by unfold maxLen; omega, fun h => by omega⟩
  · exact ⟨_, cap, rfl, by omega, fun _ => ⟨g, rfl⟩⟩

/-- Ahead of the first key. -/
theorem becomeAt_start {w w1 : World} {R : Rep} {cb : Nat} {C0 : List Nat} {v : Value} {ks : List ByteArray} {ver : ByteArray → Ver} (h : StoreAt w R) (t : Tied R) (hc : Chg w cb [] C0) (hC : ∀ k ∈ C0, k ∉ R.fp) (hk : Keeps (fun _ => False) (w.alloc (.cells #[.pointer (some ⟨R.sb, 0, none⟩)] 23)) w1) (hr : Row w1 9 1 v ks.length (ks.map Value.string))
    (hv : ∀ k, v.ownBlock = some k → w.heap.size < k) : BecomeAt w R cb [] C0 v ks ver 0 w1 R [] C0 := by
  have hk0 : Keeps (fun _ => False) w w1 := (Keeps.alloc (fun _ => False) _ _).tr hk (fun _ h => h)
  refine ⟨h.kept hk0 (fun _ _ h => h), by simpa using Grew.refl t ver, by simpa using hc.kept hk0 (fun _ _ h => h), rfl, fun i hi => by simp at hi, box_kept hk (fun h => h), hr, hk0.mono (fun _ _ h => h.elim), hC, fun k hk => .inl hk, fun k hk => .inl hk, ?_, Nat.le_refl _⟩
  intro k hk'
  have hfl := fp_lt h
  have hcl := hc.lt
  rcases hk' with rfl | hk' | hk'
  · exact ⟨fun hf => by have := hfl _ hf; omega, fun hf => by have := hcl _ hf; omega⟩
  · have := hv k hk'
    exact ⟨fun hf => by have := hfl _ hf; omega, fun hf => by have := hcl _ hf; omega⟩
  · simp at hk'

theorem BecomeAt.kept {w wr wr' : World} {R Rj : Rep} {cb : Nat} {fs0 : List Value} {C0 C kbs : List Nat} {v : Value} {ks : List ByteArray} {ver : ByteArray → Ver} {j : Nat} (h : BecomeAt w R cb fs0 C0 v ks ver j wr Rj kbs C) (hk : Keeps (fun _ => False) wr wr') : BecomeAt w R cb fs0 C0 v ks ver j wr' Rj kbs C :=
  ⟨h.store.kept hk (fun _ _ h => h), h.grew, h.chg.kept hk (fun _ _ h => h), h.len, fun i hi => (hk.block _ (Array.getElem?_eq_some_iff.1 (h.boxes i hi)).1 (fun h => h)).trans (h.boxes i hi), (hk.block _ (Array.getElem?_eq_some_iff.1 h.sbox).1 (fun h => h)).trans h.sbox, h.row.kept hk (fun _ _ h => h), h.keeps.tr hk (fun _ h => h.elim), h.fpC, h.fpE, h.cE, h.apart, h.klen⟩

theorem take_fresh {ks : List ByteArray} (hr : Rises ks) {j : Nat} (hj : j < ks.length) {key : ByteArray} (hk : ks[j] = key) : memB (ks.take j) key = false := by
  rw [Bool.eq_false_iff]
  intro h
  rw [memB_iff] at h
  obtain ⟨i, hi, e⟩ := List.getElem_of_mem h
  simp only [List.length_take] at hi
  rw [List.getElem_take] at e
  have := List.pairwise_iff_getElem.1 hr i j (by omega) hj (by omega)
  rw [e, hk, ltK_irrefl] at this
  cases this

theorem written_look {R : Rep} {n : Int} {x : WkR} {ks : List ByteArray} {j : Nat} {key : ByteArray} (g : Good R) (hx : (n, x) ∈ R.works) (hp : ks.Perm (x.writes.map (·.1))) (hj : j < ks.length) (hk : ks[j] = key) : ∃ q2 q3, look x.writes key = some ⟨0, q2, q3⟩ := by
  have hm : key ∈ x.writes.map (·.1) := hp.mem_iff.1 (hk ▸ List.getElem_mem hj)
  cases hl : look x.writes key with
  | none =>
    obtain ⟨p, hp1, e⟩ := List.mem_map.1 hm
    exact absurd e (look_none.1 hl p hp1)
  | some v =>
    have := (g.wkeys _ hx _ (look_mem hl)).2.2
    obtain ⟨st, q2, q3⟩ := v
    have hst : st = 0 := this
    subst hst
    exact ⟨q2, q3, rfl⟩

theorem vers_small {R : Rep} (g : Good R) (key : ByteArray) : (versOf R.hist key).length < 1000000000000 := by
  unfold versOf
  cases hl : look R.hist key with
  | none => simp
  | some y =>
    have hm := look_mem hl
    have h2 := rising_length y.vers 1 R.now (g.rising _ hm) (g.states _ hm)
    have h3 := g.now
    simp only [Option.map_some, Option.getD_some]
    omega

theorem AddPost.keeps {R : Rep} {key : ByteArray} {v : Ver} {w w' : World} (h : AddPost R key v w w') : Keeps (· ∈ R.fp) w w' := by
  obtain ⟨_, _, _, _, h, _⟩ := h
  exact h

/-- The boxes of a round behind Add. -/
theorem round_boxes {wr wb : World} {Rj : Rep} {s : Nat} {u : Value} {key q2 : ByteArray} {q3 : Bool} {nw : Int} (hS : StoreAt wr Rj) (hs : s ∉ Rj.fp) (hu : wr.cell? ⟨s, 0, none⟩ = some u)
    (hk : Keeps (· ∈ Rj.fp) (((((wr.alloc (.cells #[.string key] 9)).alloc (.cells #[.int .i64 nw, .string q2, .bool q3] 78)).drew).drew).drew) wb) :
    wb.cell? ⟨s, 0, none⟩ = some u ∧ wb.cell? ⟨wr.heap.size, 0, none⟩ = some (.string key) ∧ wb.cell? ⟨wr.heap.size + 1, 0, none⟩ = some (.int .i64 nw) ∧ wb.cell? ⟨wr.heap.size + 1, 1, none⟩ = some (.string q2) ∧ wb.cell? ⟨wr.heap.size + 1, 2, none⟩ = some (.bool q3) := by
  have hfl := fp_lt hS
  have hk1 : Keeps (· ∈ Rj.fp) wr wb := (((((Keeps.refl _ wr).al _).al _).dr).dr).dr.tr hk (fun _ h => h)
  have h0 : wb.heap[wr.heap.size]? = some (.cells #[.string key] 9 (0, 0)) := by
    rw [hk.block wr.heap.size (by simp [World.drew]; omega) (fun e => by have := hfl _ e; omega)]
    have := heap_new wr (.cells #[.string key] 9)
    exact (Below.heap_alloc _ _ _ (by simp)).trans this
  have h1 : wb.heap[wr.heap.size + 1]? = some (.cells #[.int .i64 nw, .string q2, .bool q3] 78 (0, 0)) := by
    rw [hk.block (wr.heap.size + 1) (by simp [World.drew]) (fun e => by have := hfl _ e; omega)]
    have := heap_new (wr.alloc (.cells #[.string key] 9)) (.cells #[.int .i64 nw, .string q2, .bool q3] 78)
    simpa [World.drew] using this
  exact ⟨hk1.cell (p := ⟨s, 0, none⟩) hu hs, cell_of_heap h0 0, cell_of_heap h1 0, cell_of_heap h1 1, cell_of_heap h1 2⟩

theorem round_box (wr : World) (o o2 : Obj) : ((((wr.alloc o).alloc o2).drew).drew).drew.heap[wr.heap.size]? = some o :=
  (Below.heap_alloc _ _ _ (by simp)).trans (heap_new wr o)

theorem become_end {w wr wc : World} {R Rj : Rep} {x : WkR} {cb : Nat} {fs' : List Value} {C0 C C' kbs : List Nat} {v : Value} {ks : List ByteArray} (hris : Rises ks) (hperm : ks.Perm (x.writes.map (·.1)))
    (hlast : ∀ i' (h : i' < ks.length), i' < ks.length → lastOf (versOf R.hist ks[i']) ≤ x.began) (h : BecomeAt w R cb [] C0 v ks (verOf x.writes (R.now + 1)) ks.length wr Rj kbs C) (hfl : fs'.length = ks.length + 1) (hcc : Chg wc cb fs' C')
    (hkc : Keeps (fun k => k ∈ C ∨ k = R.sb) wr wc) (hC' : ∀ k ∈ C', k ∈ C ∨ wr.heap.size ≤ k) (hhp : wc.heap[R.sb]? = (wr.setCell ⟨R.sb, 0, none⟩ (.int .i64 (R.now + 1))).heap[R.sb]?) :
    BecomePost w R x cb [] C0 (.returned (.int .i64 0)) wc := by
  obtain ⟨hsb, hwks, hnw⟩ := h.grew.sb
  have hfl' := fp_lt h.store
  have hnd := h.store.nodup
  have htop : wc.heap[Rj.sb]? = some (.cells (topCells { Rj with now := R.now + 1 }) 65 (0, 0)) := by
    have := h.store.set (R' := { Rj with now := R.now + 1 }) rfl (i := 0) (v := .int .i64 (R.now + 1)) rfl
    rw [hsb] at this ⊢
    rw [hhp]
    exact this
  have hst : StoreAt wc { Rj with now := R.now + 1 } := h.store.nums hkc (fun k hk hb => by
    rcases hb with hb | rfl
    · exact h.fpC k hb (by simp only [Rep.fp, List.mem_cons]; exact .inr hk)
    · rw [← hsb] at hk
      exact (List.nodup_cons.1 hnd).1 hk) (R.now + 1) Rj.floor Rj.begun htop
  refine ⟨v, ks, hris, hperm, .inr ⟨fun k hk => ?_, rfl, Rj, fs', C', hst, by have := h.grew; rwa [List.take_length] at this, hcc, by simp; omega, ?_, ?_, h.fpE, ?_⟩⟩
  · obtain ⟨i, hi, rfl⟩ := List.getElem_of_mem hk
    exact hlast i hi hi
  · refine h.keeps.trans hkc (fun i hi hb => ?_)
    rcases hb with hb | rfl
    · rcases h.cE i hb with h1 | h1
      · exact .inr h1
      · omega
    · exact .inl (by simp [Rep.fp])
  · intro k hk hf
    rcases hC' k hk with h1 | h1
    · exact h.fpC k h1 hf
    · have := hfl' k hf; omega
  · intro k hk
    have hwz : w.heap.size < wr.heap.size := (Array.getElem?_eq_some_iff.1 h.sbox).1
    rcases hC' k hk with h1 | h1
    · exact h.cE k h1
    · exact .inr (by omega)

set_option maxRecDepth 100000 in
set_option maxHeartbeats 2000000 in
theorem become_any (R : Rep) (n : Int) (x : WkR) (cb : Nat) (C0 : List Nat) (w : World) (h : StoreAt w R) (g : Good R) (t : Tied R) (hx : (n, x) ∈ R.works) (hc : Chg w cb [] C0) (hC : ∀ k ∈ C0, k ∉ R.fp) (hkl : R.keys.length < 1000000) :
    Calls Try.prog 32 #[.pointer (some ⟨R.sb, 0, none⟩), .pointer (some ⟨cb, 0, none⟩), workPtr x] w (BecomePost w R x cb [] C0) := by
  obtain ⟨c0, c1, hM⟩ := h.works.work hx
  have hnow := g.now
  have h30 := g.writes30 _ hx
  have hwk := g.wkeys _ hx
  have n0 : w.cell? ⟨R.sb, 0, none⟩ = some (.int .i64 R.now) := h.cell 0
  have hlt := h.lt
  have hkeys := keys_core x.blk x.mb (x.writes.map fun q => (q.1, q.2.val)) (w.alloc (.cells #[.pointer (some ⟨R.sb, 0, none⟩)] 23)) (by rw [World.cell?_alloc_past _ _ _ (World.block_lt_of_cell? _ _ c1)]; exact c1) (hM.kept (Keeps.alloc (fun _ => False) _ _) (fun h => h)) (fun p hp => by
    obtain ⟨q, hq, rfl⟩ := List.mem_map.1 hp
    have := (hwk q hq).1
    simp [keyB] at this
    unfold maxLen
    show q.1.size ≤ _
    omega) (by simp; simp at h30; omega)
  have hpm : (x.writes.map fun q => (q.1, q.2.val)).map (·.1) = x.writes.map (·.1) := by simp [List.map_map, Function.comp_def]
  rw [hpm] at hkeys
  have HST : Hid (StoreAt w R) := h
  have HG : Hid (Good R) := g
  have HT : Hid (Tied R) := t
  have HX : Hid ((n, x) ∈ R.works) := hx
  have HC : Hid (Chg w cb [] C0) := hc
  have HCF : Hid (∀ k ∈ C0, k ∉ R.fp) := hC
  have HKL : Hid (R.keys.length < 1000000) := hkl
  obtain ⟨hnow1, hnow2⟩ := hnow
  unfold workPtr
  have hmf : ∀ (fn : Fn) (first cap : Array Value) (w : World), (Instr.makeFunc fn first cap).run Try.prog w = .ok (.func fn first cap) w := fun _ _ _ _ => rfl
  clear h g t hx hc hC hkl hM c0 c1 hwk h30 hpm
  go_enter Try.func32, Try.ntmps32
  go_wp2_with (go_at_call 38; go_must (refine hkeys.mono ?_; rintro e w1 ⟨v, ks, rfl, hrow, hris, hperm, hk1, hvb⟩; obtain ⟨av, capv, rfl, hnl, hav⟩ := hrow.form))
  have hkn : ks.length ≤ 30 := by
    have h1 := hperm.length_eq
    have h2 := HG.out.writes30 _ HX.out
    simp at h1 h2
    omega
  have hk01 : Keeps (fun _ => False) w w1 := (Keeps.alloc (fun _ => False) _ _).tr hk1 (fun _ h => h)
  have hst : BecomeAt w R cb [] C0 (.slice av ks.length capv) ks (verOf x.writes (R.now + 1)) 0 w1 R [] C0 := becomeAt_start HST.out HT.out HC.out HCF.out hk1 hrow (fun k hk => by have := hvb k hk; simp at this; omega)
  have HRIS : Hid (Rises ks) := hris
  have HPERM : Hid (ks.Perm (x.writes.map (·.1))) := hperm
  clear hrow hris hperm hk1 hkeys n0 hvb
  go_loopw [19] (fun i wr => ∃ (j : Nat) (Rj : Rep) (kbs C : List Nat), j ≤ ks.length ∧ i = .int .i64 j ∧ (∀ i' (h : i' < ks.length), i' < j → lastOf (versOf R.hist ks[i']) ≤ x.began) ∧ BecomeAt w R cb [] C0 (.slice av ks.length capv) ks (verOf x.writes (R.now + 1)) j wr Rj kbs C) (fun i _ => ks.length - (intOf i).toNat)
  case atStart => exact ⟨0, R, [], C0, Nat.zero_le _, rfl, fun i' _ h => by omega, hst⟩
  case round =>
    obtain ⟨j, Rj, kbs, C, hj, rfl, hlast, hB⟩ := hrel
    have HB : Hid (BecomeAt w R cb [] C0 (.slice av ks.length capv) ks (verOf x.writes (R.now + 1)) j wr Rj kbs C) := hB
    have HLAST : Hid (∀ i' (h : i' < ks.length), i' < j → lastOf (versOf R.hist ks[i']) ≤ x.began) := hlast
    clear hst hB hlast
    by_cases hjn : j < ks.length
    · obtain ⟨g, rfl⟩ := hav (by omega)
      have hcell : wr.cell? ⟨g, j, none⟩ = some (.string ks[j]) := by
        rw [HB.out.row.cellAt j (by omega)]
        simp [hjn]
      obtain ⟨key, hkey⟩ : ∃ key, ks[j] = key := ⟨_, rfl⟩
      rw [hkey] at hcell
      obtain ⟨hsb, hwks, hnw⟩ := HB.out.grew.sb
      have hnin : memB (ks.take j) key = false := take_fresh HRIS.out hjn hkey
      have hvv : versOf Rj.hist key = versOf R.hist key := by rw [HB.out.grew.vers, hnin]; rfl
      have hxj : (n, x) ∈ Rj.works := by rw [hwks]; exact HX.out
      obtain ⟨e0, e1, eM⟩ := HB.out.store.works.work hxj
      have hb0 : wr.cell? ⟨w.heap.size, 0, none⟩ = some (.pointer (some ⟨R.sb, 0, none⟩)) := cell_of_heap HB.out.sbox 0
      have hxl : x.blk < wr.heap.size := World.block_lt_of_cell? _ _ e0
      have hwl : w.heap.size < wr.heap.size := World.block_lt_of_cell? _ _ hb0
      have HLC : Hid (∀ W, Keeps (fun _ => False) wr W → Calls Try.prog 51 #[.pointer (some ⟨R.sb, 5, none⟩), .string key] W fun e w' => e = .returned (.int .i64 (lastOf (versOf R.hist key))) ∧ w' = W) := fun W hk => by
        have hS := HB.out.store.kept hk (fun _ _ h => h)
        have := last_core Rj.sb key Rj.vm _ _ (versOf Rj.hist key) W (hS.cell 6) hS.past.histMap rfl (hS.past.slice key) (by rw [hvv]; exact (HG.out.vers key).2)
        rw [hsb, hvv] at this
        exact this
      have HVV : Hid (versOf Rj.hist key = versOf R.hist key) := hvv
      have HSBJ : Hid (Rj.sb = R.sb) := hsb
      have HNW : Hid (Rj.now = R.now) := hnw
      have HNIN : Hid (memB (ks.take j) key = false) := hnin
      have HEM : Hid (MapAt Value.string wr x.mb (x.writes.map fun q => (q.1, q.2.val))) := eM
      have HKEY : Hid (ks[j] = key) := hkey
      clear hvv hsb hnw hnin eM hkey hwks hxj
      by_cases hcl : x.began < lastOf (versOf R.hist key)
      · obtain ⟨lv, hlv⟩ : ∃ lv, lastOf (versOf R.hist key) = lv := ⟨_, rfl⟩
        rw [hlv] at HLC hcl
        have HLV : Hid (lastOf (versOf R.hist key) = lv) := hlv
        clear hlv
        go_wp2_with fail
        go_region_held3 (fun W => W.cell? ⟨w.heap.size, 0, none⟩ = some (.pointer (some ⟨R.sb, 0, none⟩)) ∧ W.cell? ⟨wr.heap.size, 0, none⟩ = some (.string key) ∧ W.cell? ⟨x.blk, 0, none⟩ = some (.int .i64 x.began)) (go_keep) (first | (go_at_call 51; refine (HLC.out _ (((Keeps.refl (fun _ => False) wr).al _).dr)).mono ?_; rintro e w' ⟨rfl, rfl⟩))
        go_wp2
        go_ret
        refine ⟨.slice (some ⟨g, 0, none⟩) ks.length capv, ks, HRIS.out, HPERM.out, .inl ⟨j, Rj, kbs, C, hjn, ?_, rfl, HB.out.kept (((Keeps.refl (fun _ => False) wr).al _).dr)⟩⟩
        rw [HKEY.out, HLV.out]
        exact hcl
      · have hcl' : lastOf (versOf R.hist key) ≤ x.began := by omega
        have HCL : Hid (lastOf (versOf R.hist key) ≤ x.began) := hcl'
        obtain ⟨lv, hlv⟩ : ∃ lv, lastOf (versOf R.hist key) = lv := ⟨_, rfl⟩
        rw [hlv] at HLC hcl' hcl
        clear hlv
        obtain ⟨q2, q3, hq⟩ : ∃ q2 q3, look x.writes key = some ⟨0, q2, q3⟩ := written_look HG.out HX.out HPERM.out hjn HKEY.out
        have HQ : Hid (look x.writes key = some ⟨0, q2, q3⟩) := hq
        have HLKK : Hid (∀ W, Keeps (fun _ => False) wr W → (Instr.lookup 73 (.map (some x.mb)) (.string key) false).run Try.prog W = .ok (.agg #[.int .i64 0, .string q2, .bool q3]) W) := fun W hk => by
          have := (HEM.out.kept hk (fun h => h)).lookup (P := Try.prog) (t := 73) strKeyOk Try.underlying73 Try.underlying9 (Try.zeroVersion W) key false
          rw [look_map, hq] at this
          exact this
        clear hq
        go_wp2_with fail
        go_region_held3 (fun W => W.cell? ⟨w.heap.size, 0, none⟩ = some (.pointer (some ⟨R.sb, 0, none⟩)) ∧ W.cell? ⟨wr.heap.size, 0, none⟩ = some (.string key) ∧ W.cell? ⟨x.blk, 0, none⟩ = some (.int .i64 x.began)) (go_keep) (first | (go_at_call 51; refine (HLC.out _ (((Keeps.refl (fun _ => False) wr).al _).dr)).mono ?_; rintro e w' ⟨rfl, rfl⟩))
        go_wp2_with fail
        have hlk1 := HLKK.out ((wr.alloc (.cells #[.string key] 9)).drew.drew) (((Keeps.refl (fun _ => False) wr).al _).dr.dr)
        have hlk2 := fun o => HLKK.out (((wr.alloc (.cells #[.string key] 9)).alloc o).drew.drew) ((((Keeps.refl (fun _ => False) wr).al _).al _).dr.dr)
        go_region_held3 (fun W => W.cell? ⟨x.blk, 1, none⟩ = some (.map (some x.mb)) ∧ W.cell? ⟨wr.heap.size, 0, none⟩ = some (.string key)) (go_keep) (fail)
        all_goals clear hlk1 hlk2 HLKK HLC
        all_goals
          have hver : verOf x.writes (R.now + 1) key = ⟨R.now + 1, q2, q3⟩ := by unfold verOf; rw [HQ.out]; rfl
          have HVER : Hid (verOf x.writes (R.now + 1) key = ⟨R.now + 1, q2, q3⟩) := hver
          clear hver
          have HADD : Hid (∀ W, Keeps (fun _ => False) wr W → Calls Try.prog 52 #[.pointer (some ⟨R.sb, 5, none⟩), .string key, .agg #[.int .i64 (R.now + 1), .string q2, .bool q3]] W fun e w' => e = .returned (.tuple #[]) ∧ AddPost Rj key (verOf x.writes (R.now + 1) key) W w') := fun W hk => by
            have hS := HB.out.store.kept hk (fun _ _ h => h)
            have := add_any Rj key (verOf x.writes (R.now + 1) key) W hS HB.out.grew.tied (by have := HB.out.klen; have := HKL.out; omega) (by rw [HVV.out]; exact vers_small HG.out key)
            rw [HSBJ.out, HVER.out] at this
            rw [HVER.out]
            exact this
          go_wp2_with fail
          go_region_held3 (fun W => W.cell? ⟨w.heap.size, 0, none⟩ = some (.pointer (some ⟨R.sb, 0, none⟩)) ∧ W.cell? ⟨wr.heap.size, 0, none⟩ = some (.string key) ∧ W.cell? ⟨wr.heap.size + 1, 0, none⟩ = some (.int .i64 (R.now + 1)) ∧ W.cell? ⟨wr.heap.size + 1, 1, none⟩ = some (.string q2) ∧ W.cell? ⟨wr.heap.size + 1, 2, none⟩ = some (.bool q3)) (go_keep) (first | (go_at_call 52; refine (HADD.out _ (((((Keeps.refl (fun _ => False) wr).al _).al _).dr).dr).dr).mono ?_; rintro e wb ⟨rfl, hadd⟩; obtain ⟨hbx0, hbx1, hbx2, hbx3, hbx4⟩ := round_boxes HB.out.store (HB.out.apart _ (.inl rfl)).1 hb0 hadd.keeps; have HAP : Hid (AddPost Rj key (verOf x.writes (R.now + 1) key) (((((wr.alloc (.cells #[.string key] 9)).alloc (.cells #[.int .i64 (R.now + 1), .string q2, .bool q3] 78)).drew).drew).drew) wb) := hadd; clear hadd))
          have hchb : Chg wb cb ([] ++ kbs.map (clo w.heap.size)) C := HB.out.chg.kept ((((((Keeps.refl (fun k => k ∈ Rj.fp) wr).al _).al _).dr).dr).dr.tr HAP.out.keeps (fun _ h => h)) (fun k hk hf => HB.out.fpC k hk hf)
          have hlb : ([] ++ kbs.map (clo w.heap.size)).length < 1048576 := by have := HB.out.len; simp; omega
          have HUB := undoBy_any cb _ C (.func 53) #[.pointer (some ⟨w.heap.size, 0, none⟩), .pointer (some ⟨wr.heap.size, 0, none⟩)] wb hchb hlb
          clear hchb hlb
          go_wp2_with (go_at_call 42; go_must (refine HUB.mono ?_; rintro e wc ⟨rfl, C', hcc, hkc, hC'⟩))
          obtain ⟨R', hN⟩ := HB.out.next hjn (by rw [← HKEY.out]; simp [hjn]) HNIN.out ((((((Keeps.refl (fun _ => False) wr).al _).al _).dr).dr).dr) (round_box wr _ _) (by simp [World.drew]; omega) HAP.out hkc hcc hC'
          refine ⟨⟨j + 1, R', _, C', by omega, by simp, fun i' h hi => ?_, hN⟩, ?_⟩
          · rcases Nat.lt_or_ge i' j with h1 | h1
            · exact HLAST.out i' h h1
            · obtain rfl : i' = j := by omega
              rw [HKEY.out]
              exact HCL.out
          · simp only [intOf]
            omega
    · obtain rfl : j = ks.length := by omega
      obtain ⟨hsb, hwks, hnw⟩ := HB.out.grew.sb
      have hb0 : wr.cell? ⟨w.heap.size, 0, none⟩ = some (.pointer (some ⟨R.sb, 0, none⟩)) := cell_of_heap HB.out.sbox 0
      have hsC : R.sb ∉ C := fun hf => HB.out.fpC _ hf (by rw [← hsb]; simp [Rep.fp])
      have hlen : ([] ++ kbs.map (clo w.heap.size)).length = ks.length := by have := HB.out.len; simp [this]
      have hc0 : wr.cell? ⟨R.sb, 0, none⟩ = some (.int .i64 R.now) := by
        have := HB.out.store.cell 0
        rw [hsb] at this
        rw [this]
        simp [topCells, hnw]
      have hf0 : wr.frozen? ⟨R.sb, 0, none⟩ = false := by rw [← hsb]; exact HB.out.store.frozen 0
      have HAS := assign_int cb _ C R.sb 0 R.now (R.now + 1) wr HB.out.chg hc0 hf0 hsC (by rw [hlen]; omega)
      rw [hlen] at HAS
      have HSBJ : Hid (Rj.sb = R.sb) := hsb
      clear hsC hlen hc0 hf0 hsb hwks hnw
      go_wp2_with (go_at_call 24; go_must (refine HAS.mono ?_; rintro e wc ⟨rfl, fs', C', hfl, hcc, hkc, hC', hhp⟩))
      go_ret
      exact become_end HRIS.out HPERM.out HLAST.out HB.out hfl hcc hkc hC' hhp

end Go.Proofs.Ythgojidgaeimnaa
