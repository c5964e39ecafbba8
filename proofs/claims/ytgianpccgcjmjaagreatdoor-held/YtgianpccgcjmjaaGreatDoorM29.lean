import Derived.Test.YtgianpccgcjmjaaGreatDoorM28

/- A copying: goOn whole, Next. -/
namespace Go.Proofs.YtgianpccgcjmjaaGreatDoor
open Go.RowKit Go.Shelf

attribute [local go_sem] Oper.semAt_some

/-- what a copying tells next -/
def tell4 (keys : List ByteArray) (vers : ByteArray → List Ver) (x : Cop) : List RecB := (tellL keys vers x).take 4

theorem atVer_mem {vs : List Ver} {t : Int} {v : Ver} (h : atVer vs t = some v) : v ∈ vs := by
  unfold atVer at h
  split at h
  · cases h
  · exact List.mem_of_getElem? h

theorem tell_mem {keys : List ByteArray} {vers : ByteArray → List Ver} {x : Cop} {r : RecB} (h : r ∈ tellL keys vers x) : ∃ v, r.key ∈ keys ∧ v ∈ vers r.key ∧ r.value = v.value ∧ atVer (vers r.key) x.to = some v ∧ r.gone = v.gone ∧ tellsB x v = true := by
  unfold tellL at h
  obtain ⟨k, hk, h⟩ := List.mem_filterMap.1 h
  have hk' := List.mem_of_mem_drop hk
  unfold tellOf at h
  cases hv : atVer (vers k) x.to with
  | none => rw [hv] at h; cases h
  | some v =>
    rw [hv] at h
    cases ht : tellsB x v with
    | true =>
      have e : r = ⟨k, v.value, v.gone⟩ := by
        simp only [tellV, ht, if_true, Option.some.injEq] at h
        exact h.symm
      subst e
      exact ⟨v, hk', atVer_mem hv, rfl, hv, rfl, ht⟩
    | false =>
      simp only [tellV, ht] at h
      cases h

theorem tell_small {R : Rep} (g : Good R) (x : Cop) : ∀ r ∈ tellL R.keys (versOf R.hist) x, (1 ≤ r.key.size ∧ r.key.size ≤ 10) ∧ r.value.size ≤ 40 := fun r hr => by
  obtain ⟨v, h1, h2, h3, -⟩ := tell_mem hr
  obtain ⟨y, hy⟩ := (g.keys _).1 h1
  have hk := g.hkeys _ (look_mem hy)
  have hv := ((base_vers g r.key).2.1 v h2).2
  unfold keyB at hk
  unfold valB at hv
  rw [h3]
  simp at hk hv
  omega

theorem TurnsAt.lt {w : World} (h : TurnsAt w) : 3 < w.heap.size := World.block_lt_of_cell? _ _ (h 0 (by omega))

theorem goOn_any (R : Rep) (x : Cop) (xb : Nat) (w : World) (h : StoreAt w R) (g : Good R) (hr : Rises R.keys) (hl : R.keys.length ≤ 200000000000) (ok : x.Ok) (ht : TurnsAt w) (hxt : xb ≠ 3) (hx : w.heap[xb]? = some (.cells x.cells 95 (0, 0))) :
    Calls Tryz.prog 72 #[.pointer (some ⟨R.sb, 0, none⟩), .pointer (some ⟨xb, 0, none⟩)] w (GoPost xb (goX x (tell4 R.keys (versOf R.hist) x)) w) := by
  have htt := toTell_any R x 4 w h g hr hl (by omega)
  have hsm : Small (tell4 R.keys (versOf R.hist) x) := fun r hr => by have := tell_small g x r (List.mem_of_mem_take hr); omega
  have hln : (tell4 R.keys (versOf R.hist) x).length ≤ 4 := by unfold tell4; rw [List.length_take]; omega
  rw [show (tellL R.keys (versOf R.hist) x).take 4 = tell4 R.keys (versOf R.hist) x from rfl] at htt
  generalize tell4 R.keys (versOf R.hist) x = recs at *
  obtain ⟨full, xa, xt, xh, xn, xs, xc⟩ := x
  obtain ⟨⟨ha0, ha1⟩, ⟨hb0, hb1⟩, hn, ⟨hs0, hs1⟩, ⟨hc0, hc1⟩⟩ := ok
  simp only at ha0 ha1 hb0 hb1 hs0 hs1 hc0 hc1
  obtain ⟨a, rfl⟩ := Int.eq_ofNat_of_zero_le ha0
  obtain ⟨b, rfl⟩ := Int.eq_ofNat_of_zero_le hb0
  obtain ⟨s, rfl⟩ := Int.eq_ofNat_of_zero_le hs0
  obtain ⟨c, rfl⟩ := Int.eq_ofNat_of_zero_le hc0
  cases xh with
  | false =>
    have := goOn_head R.sb xb full a b s xn c w hx (by omega) (by omega) (by omega) ht hxt
    simpa [goX] using this
  | true =>
    rcases List.eq_nil_or_concat recs with rfl | ⟨l, r, rfl⟩
    · have := goOn_tail R.sb xb full a b s c xn w hx (by omega) (by omega) ht htt
      simpa [goX] using this
    · simp only [List.concat_eq_append] at *
      have := goOn_block R.sb xb full a b s c xn l r w hx (by omega) (by omega) ht hxt (by simp at hln; omega) hsm htt
      have e : goX ⟨full, a, b, true, xn, s, c⟩ (l ++ [r]) = (blockL ((l ++ [r]).map RecB.rec_), false, ⟨full, a, b, true, r.key ++ ⟨#[0]⟩, (ovL s (blockL ((l ++ [r]).map RecB.rec_)) : Nat), ((c + (l.length + 1) : Nat) : Int)⟩) := by
        unfold goX
        rw [if_neg (by simp), if_neg (by simp)]
        simp
      rw [e]
      exact this

set_option maxRecDepth 100000 in
set_option maxHeartbeats 2000000 in
theorem next_none (R : Rep) (n : Int) (w : World) (h : StoreAt w R) (hn : look R.copyings n = none) :
    Calls Tryz.prog 38 #[.pointer (some ⟨R.sb, 0, none⟩), .int .i64 n] w fun e w' => e = .returned (.tuple #[.string ⟨#[]⟩, .bool false, .int .i64 1]) ∧ Keeps (fun _ => False) w w' := by
  have hmf : ∀ (fn : Fn) (first cap : Array Value) (w : World), (Instr.makeFunc fn first cap).run Tryz.prog w = .ok (.func fn first cap) w := fun _ _ _ _ => rfl
  have HF := hid (findCopying_any R n _ (h.kept (((Keeps.refl (fun _ => False) w).al (.cells #[.int .i64 0] 34)).al (.cells #[.slice none 0 0] 67)) (fun _ _ h => h)))
  rw [hn] at HF
  simp only [Option.getD_none, Option.isSome_none, Cop.val, Cop.zero] at HF
  clear h hn
  generalize R.sb = sb at *
  go_enter_defers Tryz.func38, Tryz.ntmps38
  go_wp2_with fail
  refine HF.out.mono ?_
  rintro e w1 ⟨rfl, k1⟩
  have hE0 : w1.heap[w.heap.size]? = some (.cells #[.int .i64 0] 34 (0, 0)) := (k1.block w.heap.size (by simp; omega) (fun h => h)).trans ((Below.heap_alloc _ _ _ (by simp)).trans (heap_new w _))
  have hC0 : w1.heap[w.heap.size + 1]? = some (.cells #[.slice none 0 0] 67 (0, 0)) := (k1.block (w.heap.size + 1) (by simp) (fun h => h)).trans (by have := heap_new (w.alloc (.cells #[.int .i64 0] 34)) (.cells #[.slice none 0 0] 67); simpa using this)
  have hz1 : w.heap.size + 2 ≤ w1.heap.size := by have := k1.size; simp at this; omega
  have y0 : w1.cell? ⟨w.heap.size, 0, none⟩ = some (.int .i64 0) := cell_of_heap hE0 0
  have y1 : w1.frozen? ⟨w.heap.size, 0, none⟩ = false := frozen_of_heap hE0 0
  have HE0 := hid hE0
  have HC0 := hid hC0
  have HK1 := hid k1
  have hzl : w.heap.size < w1.heap.size := by omega
  clear hE0 hC0 k1 HF
  go_wp2
  refine leaves_cons (f := 70) (args := #[.pointer (some ⟨w.heap.size + 1, 0, none⟩), .pointer (some ⟨w.heap.size, 0, none⟩)]) (by simp) (by simp [go_sem]) ?_
  have hEa := heap_setCell_same (i := 0) HE0.out (.int .i64 1)
  have hCa := ((Keeps.setCell w1 ⟨w.heap.size, 0, none⟩ (.int .i64 1)).block (w.heap.size + 1) (Array.getElem?_eq_some_iff.1 HC0.out).1 (by simp)).trans HC0.out
  have hka : Keeps (fun _ => False) w (w1.setCell ⟨w.heap.size, 0, none⟩ (.int .i64 1)) := ((((Keeps.refl (fun _ => False) w).al _).al _).tr HK1.out (fun _ h => h)).st (p := ⟨w.heap.size, 0, none⟩) (.inl (Nat.le_refl _)) _
  generalize w1.setCell ⟨w.heap.size, 0, none⟩ (.int .i64 1) = w2 at *
  refine (next1_none (w.heap.size + 1) w.heap.size 1 (by omega) _ ?_ ?_).mono ?_
  · exact cell_of_heap ((Below.heap_alloc _ _ _ (Array.getElem?_eq_some_iff.1 hCa).1).trans hCa) 0
  · exact cell_of_heap ((Below.heap_alloc _ _ _ (Array.getElem?_eq_some_iff.1 hEa).1).trans hEa) 0
  rintro e u' w'' ⟨rfl, rfl, hk⟩
  have hb : w''.cell? ⟨w.heap.size, 0, none⟩ = some (.int .i64 1) := hk.cell (p := ⟨w.heap.size, 0, none⟩) (cell_of_heap ((Below.heap_alloc _ _ _ (Array.getElem?_eq_some_iff.1 hEa).1).trans hEa) 0) (fun h => h)
  have hkk : Keeps (fun _ => False) w w'' := (hka.al _).tr hk (fun _ h => h)
  simp [Leaves, settle, results, Tryz.results38, go_sem, hb]
  exact hkk

/-- what Next leaves -/
def NextPost (R : Rep) (n : Int) (last : Bool) (x : Cop) (w w' : World) : Prop :=
  StoreAt w' { R with copyings := if last = true then del R.copyings n else put R.copyings n x } ∧ Keeps (· ∈ R.fp) w w'

set_option maxRecDepth 100000 in
set_option maxHeartbeats 4000000 in
theorem next_some (R : Rep) (n : Int) (x : Cop) (w : World) (h : StoreAt w R) (g : Good R) (hr : Rises R.keys) (hl : R.keys.length ≤ 200000000000) (ok : x.Ok) (ht : TurnsAt w) (hn : look R.copyings n = some x) :
    Calls Tryz.prog 38 #[.pointer (some ⟨R.sb, 0, none⟩), .int .i64 n] w fun e w' => e = .returned (.tuple #[.string (ofL (goX x (tell4 R.keys (versOf R.hist) x)).1), .bool (goX x (tell4 R.keys (versOf R.hist) x)).2.1, .int .i64 0]) ∧ NextPost R n (goX x (tell4 R.keys (versOf R.hist) x)).2.1 (goX x (tell4 R.keys (versOf R.hist) x)).2.2 w w' := by
  have hmf : ∀ (fn : Fn) (first cap : Array Value) (w : World), (Instr.makeFunc fn first cap).run Tryz.prog w = .ok (.func fn first cap) w := fun _ _ _ _ => rfl
  obtain ⟨q, hcm⟩ : ∃ q, R.cm = some q := by
    cases hcm : R.cm with
    | some q => exact ⟨q, rfl⟩
    | none =>
      have := h.works.copyMap
      rw [hcm] at this
      have h2 : (R.copyings.map fun p => (p.1, p.2.val)) = [] := this
      have h3 : R.copyings = [] := by simpa using h2
      rw [h3] at hn
      cases hn
  have htl := ht.lt
  have HF := hid (findCopying_any R n _ (h.kept (((Keeps.refl (fun _ => False) w).al (.cells #[.int .i64 0] 34)).al (.cells #[.slice none 0 0] 67)) (fun _ _ h => h)))
  rw [hn] at HF
  simp only [Option.getD_some, Option.isSome_some] at HF
  have HG := hid (fun W xb (hW : Keeps (fun _ => False) w W) (hxb : w.heap.size ≤ xb) (hx : W.heap[xb]? = some (.cells x.cells 95 (0, 0))) => goOn_any R x xb W (h.kept hW (fun _ _ h => h)) g hr hl ok (ht.kept hW (fun h => h)) (by omega) hx)
  have HXV : Hid (x.val = .agg x.cells) := rfl
  have hflt := fp_lt h
  have hsl := h.lt
  have hqf : q ∈ R.fp := (fp_split R).mem_iff.2 (List.mem_cons_of_mem _ (List.mem_append_left _ (by simp [pcOf, hcm])))
  have hql := hflt q hqf
  have hqs : R.sb ≠ q := fun e => by
    have hnd := (fp_split R).nodup_iff.1 h.nodup
    rw [List.nodup_cons] at hnd
    exact hnd.1 (e ▸ List.mem_append_left _ (by simp [pcOf, hcm]))
  have HST := hid h
  have HCM := hid hcm
  have HLK := hid hn
  generalize goX x (tell4 R.keys (versOf R.hist) x) = res at *
  obtain ⟨tx, last, f1, a1, t1, h1, n1, s1, c1⟩ := res
  obtain ⟨xf, xa, xt, xh, xn, xs, xc⟩ := x
  simp only [Cop.val] at HF
  simp only [Cop.cells] at HG
  clear h g hr hl ok ht hcm hn HXV
  go_enter_defers Tryz.func38, Tryz.ntmps38
  go_wp2_with fail
  refine HF.out.mono ?_
  rintro e w1 ⟨rfl, k1⟩
  have kw1 : Keeps (fun _ => False) w w1 := (((Keeps.refl (fun _ => False) w).al _).al _).tr k1 (fun _ h => h)
  have hE0 : w1.heap[w.heap.size]? = some (.cells #[.int .i64 0] 34 (0, 0)) := (k1.block w.heap.size (by simp; omega) (fun h => h)).trans ((Below.heap_alloc _ _ _ (by simp)).trans (heap_new w _))
  have hC0 : Chg w1 (w.heap.size + 1) [] [w.heap.size + 1] := (chg_new w (.cells #[.int .i64 0] 34)).kept k1 (fun _ _ h => h)
  have hz1 : w.heap.size + 2 ≤ w1.heap.size := by have := k1.size; simp at this; omega
  have HG1 := hid (HG.out _ w1.heap.size (kw1.al (.cells #[.bool xf, .int .i64 xa, .int .i64 xt, .bool xh, .string xn, .int .u32 xs, .int .i64 xc] 95)) (by omega) (heap_new w1 _))
  have HE0 := hid hE0
  have HC0 := hid hC0
  have HK1 := hid kw1
  clear hE0 hC0 k1 kw1 HF HG
  go_wp2_with fail
  refine HG1.out.mono ?_
  rintro e w2 ⟨rfl, hx2, k2⟩
  have kw2 : Keeps (fun _ => False) w w2 := (HK1.out.al _).trans k2 (fun k hk h => by omega)
  have hE2 : w2.heap[w.heap.size]? = some (.cells #[.int .i64 0] 34 (0, 0)) := (k2.block w.heap.size (by simp; omega) (by omega)).trans ((Below.heap_alloc _ _ _ (by omega)).trans HE0.out)
  have hC2 : Chg w2 (w.heap.size + 1) [] [w.heap.size + 1] := (HC0.out.kept (Keeps.alloc (fun _ => False) _ _) (fun _ _ h => h)).kept k2 (fun k hk e => by simp at hk; omega)
  have hS2 := HST.out.kept kw2 (fun _ _ h => h)
  have c6 : w2.cell? ⟨R.sb, 6, none⟩ = some (.map (some q)) := (hS2.cell 6).trans (by rw [← HCM.out]; rfl)
  have hM2 : MapAt (Value.int .i64) w2 q (R.copyings.map fun p => (p.1, p.2.val)) := by have := hS2.works.copyMap; rw [HCM.out] at this; exact this
  have hz2 : w1.heap.size + 1 ≤ w2.heap.size := by have := k2.size; simp at this; omega
  obtain ⟨xb, hxb⟩ : ∃ xb, w1.heap.size = xb := ⟨_, rfl⟩
  rw [hxb] at hx2 k2 hz1 hz2 ⊢
  have hxw : w.heap.size + 2 ≤ xb := by omega
  cases last with
  | true =>
    have HR := hid (remove_cop (w.heap.size + 1) [] [w.heap.size + 1] q n _ ((look R.copyings n).getD Cop.zero) w2 hC2 hM2 (cops_look _ _) (by simp; omega) (by simp))
    have HE2 := hid hE2
    have HK2 := hid kw2
    have HS2 := hid hS2
    clear hE2 kw2 hS2 hC2 hM2 k2 hx2 HG1 hxb hz2
    go_wp2_with (go_at_call 73; go_must (refine (HR.out).mono ?_; rintro e w3 ⟨rfl, fs3, C3, hf3, hC3, hk3, hC3', hm3⟩; have hE3 : w3.heap[w.heap.size]? = some (.cells #[.int .i64 0] 34 (0, 0)) := (hk3.block w.heap.size (Array.getElem?_eq_some_iff.1 HE2.out).1 (by rintro (hc | hc); (simp at hc); omega)).trans HE2.out; have y0 : w3.cell? ⟨w.heap.size, 0, none⟩ = some (.int .i64 0) := cell_of_heap hE3 0; have y1 : w3.frozen? ⟨w.heap.size, 0, none⟩ = false := frozen_of_heap hE3 0; have HE3 := hid hE3; have HM3 := hid hm3; have HK3 := hid hk3; clear hE3 hm3 hk3))
    refine leaves_cons (f := 70) (args := #[.pointer (some ⟨w.heap.size + 1, 0, none⟩), .pointer (some ⟨w.heap.size, 0, none⟩)]) (by simp) (by simp [go_sem]) ?_
    have hE4 := heap_setCell_same (i := 0) HE3.out (.int .i64 0)
    refine (next1_ok (w.heap.size + 1) w.heap.size _ ?_).mono ?_
    · exact cell_of_heap hE4 0
    rintro e u' w'' ⟨rfl, rfl, rfl⟩
    have hpost : NextPost R n true ⟨f1, a1, t1, h1, n1, s1, c1⟩ w (w3.setCell ⟨w.heap.size, 0, none⟩ (.int .i64 0)) := by
      have hm := HM3.out
      rw [cops_del] at hm
      have s3 := HS2.out.coped HCM.out HK3.out (fun k hk hf => by have := hflt k hf; simp at hk; omega) hm
      refine ⟨s3.kept (Keeps.setCell _ _ _) (fun k hk e => ?_), ?_⟩
      · have e' : k = w.heap.size := e
        have hk' : k ∈ R.fp := hk
        have := hflt k hk'
        omega
      · refine ((HK2.out.mono (fun _ _ h => h.elim)).trans HK3.out (fun k hk h => ?_)).st (.inl (Nat.le_refl _)) _
        rcases h with h | h
        · simp at h; omega
        · rw [h]; exact hqf
    have hb := cell_of_heap hE4 0
    generalize w3.setCell ⟨w.heap.size, 0, none⟩ (.int .i64 0) = W3 at hpost hb
    simp at hb
    simp [Leaves, settle, results, Tryz.results38, go_sem, hb]
    exact hpost
  | false =>
    have HR := hid (enter_cop (w.heap.size + 1) [] [w.heap.size + 1] q n _ ((look R.copyings n).getD Cop.zero) ⟨f1, a1, t1, h1, n1, s1, c1⟩ w2.drew (hC2.kept (Keeps.drew (fun _ => False) _) (fun _ _ h => h)) (hM2.kept (Keeps.drew (fun _ => False) _) (fun h => h)) (cops_look _ _) (by simp; omega) (by simp))
    have HE2 := hid hE2
    have HK2 := hid kw2
    have HS2 := hid hS2
    have z0 := cell_of_heap hx2 0
    have z1 := cell_of_heap hx2 1
    have z2 := cell_of_heap hx2 2
    have z3 := cell_of_heap hx2 3
    have z4 := cell_of_heap hx2 4
    have z5 := cell_of_heap hx2 5
    have z6 := cell_of_heap hx2 6
    simp [Cop.cells] at z0 z1 z2 z3 z4 z5 z6
    have HSB : Hid (¬ (R.sb ∈ [w.heap.size + 1] ∨ R.sb = q)) := fun h' => h'.elim (fun hc => by simp at hc; omega) (fun e => hqs e)
    have HXB : Hid (¬ (xb ∈ [w.heap.size + 1] ∨ xb = q)) := fun h' => h'.elim (fun hc => by simp at hc; omega) (fun e => by omega)
    simp only [Cop.val] at HR
    clear hE2 kw2 hS2 hC2 hM2 k2 hx2 HG1 hxb hz2
    go_wp2_with fail
    go_region_held3 (fun W => W.cell? ⟨R.sb, 6, none⟩ = some (.map (some q)) ∧ W.cell? ⟨xb, 0, none⟩ = some (.bool f1) ∧ W.cell? ⟨xb, 1, none⟩ = some (.int .i64 a1) ∧ W.cell? ⟨xb, 2, none⟩ = some (.int .i64 t1) ∧ W.cell? ⟨xb, 3, none⟩ = some (.bool h1) ∧ W.cell? ⟨xb, 4, none⟩ = some (.string n1) ∧ W.cell? ⟨xb, 5, none⟩ = some (.int .u32 s1) ∧ W.cell? ⟨xb, 6, none⟩ = some (.int .i64 c1)) (go_keep) (first | (go_at_call 46; refine (HR.out).mono ?_; rintro e w3 ⟨rfl, fs3, C3, hf3, hC3, hk3, hC3', hm3⟩; have q6 := hk3.cell (p := ⟨R.sb, 6, none⟩) ((Keeps.drew (fun _ => False) w2).cell c6 (fun h => h)) HSB.out; have r0 := hk3.cell (p := ⟨xb, 0, none⟩) ((Keeps.drew (fun _ => False) w2).cell z0 (fun h => h)) HXB.out; have r1 := hk3.cell (p := ⟨xb, 1, none⟩) ((Keeps.drew (fun _ => False) w2).cell z1 (fun h => h)) HXB.out; have r2 := hk3.cell (p := ⟨xb, 2, none⟩) ((Keeps.drew (fun _ => False) w2).cell z2 (fun h => h)) HXB.out; have r3 := hk3.cell (p := ⟨xb, 3, none⟩) ((Keeps.drew (fun _ => False) w2).cell z3 (fun h => h)) HXB.out; have r4 := hk3.cell (p := ⟨xb, 4, none⟩) ((Keeps.drew (fun _ => False) w2).cell z4 (fun h => h)) HXB.out; have r5 := hk3.cell (p := ⟨xb, 5, none⟩) ((Keeps.drew (fun _ => False) w2).cell z5 (fun h => h)) HXB.out; have r6 := hk3.cell (p := ⟨xb, 6, none⟩) ((Keeps.drew (fun _ => False) w2).cell z6 (fun h => h)) HXB.out))
    have hE3 : w3.heap[w.heap.size]? = some (.cells #[.int .i64 0] 34 (0, 0)) := (hk3.block w.heap.size (Array.getElem?_eq_some_iff.1 HE2.out).1 (by rintro (hc | hc); (simp at hc); omega)).trans HE2.out
    have y0 : w3.cell? ⟨w.heap.size, 0, none⟩ = some (.int .i64 0) := cell_of_heap hE3 0
    have y1 : w3.frozen? ⟨w.heap.size, 0, none⟩ = false := frozen_of_heap hE3 0
    have HE3 := hid hE3
    have HM3 : Hid (MapAt (Value.int .i64) w3 q (put (R.copyings.map fun p => (p.1, p.2.val)) n (Cop.val ⟨f1, a1, t1, h1, n1, s1, c1⟩))) := hm3
    have HK3 := hid hk3
    clear hE3 hm3 hk3 r0 r1 r2 r3 r4 r5 r6 q6 z0 z1 z2 z3 z4 z5 z6 c6
    go_wp2
    refine leaves_cons (f := 70) (args := #[.pointer (some ⟨w.heap.size + 1, 0, none⟩), .pointer (some ⟨w.heap.size, 0, none⟩)]) (by simp) (by simp [go_sem]) ?_
    have hE4 := heap_setCell_same (i := 0) HE3.out (.int .i64 0)
    refine (next1_ok (w.heap.size + 1) w.heap.size _ ?_).mono ?_
    · exact cell_of_heap hE4 0
    rintro e u' w'' ⟨rfl, rfl, rfl⟩
    have hpost : NextPost R n false ⟨f1, a1, t1, h1, n1, s1, c1⟩ w (w3.setCell ⟨w.heap.size, 0, none⟩ (.int .i64 0)) := by
      have hm := HM3.out
      rw [cops_put] at hm
      have s3 := (HS2.out.kept (Keeps.drew (fun _ => False) _) (fun _ _ h => h)).coped HCM.out HK3.out (fun k hk hf => by have := hflt k hf; simp at hk; omega) hm
      refine ⟨s3.kept (Keeps.setCell _ _ _) (fun k hk e => ?_), ?_⟩
      · have e' : k = w.heap.size := e
        have hk' : k ∈ R.fp := hk
        have := hflt k hk'
        omega
      · refine (((HK2.out.dr).mono (fun _ _ h => h.elim)).trans HK3.out (fun k hk h => ?_)).st (.inl (Nat.le_refl _)) _
        rcases h with h | h
        · simp at h; omega
        · rw [h]; exact hqf
    have hb := cell_of_heap hE4 0
    generalize w3.setCell ⟨w.heap.size, 0, none⟩ (.int .i64 0) = W3 at hpost hb
    simp at hb
    simp [Leaves, settle, results, Tryz.results38, go_sem, hb]
    exact hpost

end Go.Proofs.YtgianpccgcjmjaaGreatDoor

/- The calls of a work, from outside, with every answer. -/
namespace Go.Proofs.YtgianpccgcjmjaaGreatDoor
open Go.RowKit Go.Shelf

def Gst.zero : Gst := ⟨0, 0, 0, [], [], 0, [], [], fun _ => []⟩

theorem new_g (w : World) :
    Calls Tryz.prog 15 #[] w fun e w' => e = .returned (.pointer (some ⟨w.heap.size, 0, none⟩)) ∧ GSt 0 w' w.heap.size Gst.zero [w.heap.size] ∧ Keeps (fun _ => False) w w' := by
  refine (new_any w).mono ?_
  rintro e w' ⟨rfl, h, hk⟩
  refine ⟨rfl, ⟨Rep.zero w.heap.size, ⟨h, good_zero _, tied_zero _, Int.le_refl _, by simp [Rep.zero], by simp [Rep.zero], by simp [Rep.zero, Rep.total], fun p hp => (by cases hp), by simp [Rep.zero, Rep.pinSum], by simp [Rep.zero], fun p hp => (by cases hp), by simp [Rep.zero]⟩, rfl, rfl, by simp [Rep.zero, Rep.fp, Rep.fpWorks, Rep.fpPast, pcOf, Value.ownBlock]⟩, hk⟩

theorem gst_look {R : Rep} (n : Int) : look R.gst.works n = (look R.works n).map (fun y => (y.began, y.writes)) := by
  have e : R.gst.works = R.works.map (fun p => (p.1, (fun y : WkR => (y.began, y.writes)) p.2)) := rfl
  rw [e, look_map (fun y : WkR => (y.began, y.writes))]

/-- Begin -/
def Gst.opened (A : Gst) : Gst := { A with begun := A.begun + 1, works := A.works ++ [(A.begun + 1, (A.now, []))] }
def Gst.beginR (A : Gst) : Int × Int := if A.works.length < 8 then (A.begun + 1, 0) else (0, 3)
def Gst.beginS (A : Gst) : Gst := if A.works.length < 8 then A.opened else A

theorem begin_g {N : Nat} {w : World} {b : Nat} {A : Gst} {F : List Nat} (h : GSt N w b A F) (hN : N ≤ 100000000000) :
    Calls Tryz.prog 16 #[.pointer (some ⟨b, 0, none⟩)] w fun e w' => e = .returned (.tuple #[.int .i64 A.beginR.1, .int .i64 A.beginR.2]) ∧ After (N + 1) b A.beginS F w w' := by
  have hG := h
  obtain ⟨R, hi, rfl, rfl, rfl⟩ := h
  have hwl : R.gst.works.length = R.works.length := by simp [Rep.gst]
  by_cases hl : R.works.length < 8
  · have hb' : R.begun < 1000000000000000 := by have := hi.begunN; omega
    have hnone : look R.works (R.begun + 1) = none := look_none.2 (fun p hp e => by have := hi.good.numbers p hp; omega)
    have hcall : Calls Tryz.prog 16 #[.pointer (some ⟨R.sb, 0, none⟩)] w fun e w' => e = .returned (.tuple #[.int .i64 (R.begun + 1), .int .i64 0]) ∧ BeginPost R w w' := by
      cases hwm : R.wm with
      | none => exact begin_none R w hi.st hwm hi.good.begun.1 (by omega)
      | some b0 => exact begin_some R w hi.st b0 hwm hl hi.good.begun.1 (by omega) hnone
    have e1 : R.gst.beginR = (R.begun + 1, 0) := by unfold Gst.beginR; rw [hwl, if_pos hl]; rfl
    have e2 : R.gst.beginS = R.gst.opened := by unfold Gst.beginS; rw [hwl, if_pos hl]
    rw [e1, e2]
    refine hcall.mono ?_
    rintro e w' ⟨rfl, bb, m, wm, h1, h2, h3, h4, h5⟩
    have hbn := hi.begunN
    refine ⟨rfl, _, ⟨_, ⟨h1, hi.good.entered hl hb' bb m wm, ⟨hi.tied.rises, hi.tied.keys, hi.tied.filled⟩, hi.floor, by show R.begun + 1 ≤ _; omega, by have := hi.keysN; show R.keys.length ≤ _; omega, by have := hi.totN; show R.total ≤ _; omega, hi.pins, by have := hi.pinsN; show R.pinSum ≤ _; omega, ⟨hi.startN.1, by have := hi.startN.2; show R.started ≤ _; omega⟩, hi.cops, hi.cops4⟩, rfl, ?_, rfl⟩, h2, ?_⟩
    · simp [Rep.gst, Gst.opened]
    · intro k hk
      have hk' : k = R.sb ∨ k ∈ wm.toList ∨ k ∈ R.fp ∨ k = bb ∨ k = m := by
        simp only [Rep.fp, Rep.fpWorks, Rep.fpPast, List.mem_cons, List.mem_append, List.flatMap_append, List.flatMap_cons, List.flatMap_nil, List.append_nil, List.not_mem_nil, or_false] at hk ⊢
        rcases hk with h | ((h | h) | h | h) | h
        · exact .inl h
        · exact .inr (.inl h)
        · exact .inr (.inr (.inl (.inr (.inl (.inl (.inr h))))))
        · exact .inr (.inr (.inl (.inr (.inl (.inr h)))))
        · exact .inr (.inr (.inr h))
        · exact .inr (.inr (.inl (.inr (.inr h))))
      rcases hk' with rfl | h | h | rfl | rfl
      · exact .inl (by simp [Rep.fp])
      · rcases h3 with rfl | ⟨q, rfl, hq⟩
        · exact .inl (by simp only [Rep.fp, Rep.fpWorks, List.mem_cons, List.mem_append]; exact .inr (.inl (.inl (.inl h))))
        · have : k = q := by simp at h; omega
          exact .inr (by omega)
      · exact .inl h
      · exact .inr h4
      · exact .inr h5
  · have h8 : R.works.length = 8 := by have := hi.good.works8; omega
    have e1 : R.gst.beginR = (0, 3) := by unfold Gst.beginR; rw [hwl, if_neg hl]
    have e2 : R.gst.beginS = R.gst := by unfold Gst.beginS; rw [hwl, if_neg hl]
    rw [e1, e2]
    refine (begin_full R w hi.st h8).mono ?_
    rintro e w' ⟨rfl, hk⟩
    exact ⟨rfl, hG.after (by omega) hk⟩

/-- Get -/
def Gst.getR (A : Gst) (n : Int) (key : ByteArray) : ByteArray × Int :=
  match look A.works n with
  | none => (ByteArray.empty, 1)
  | some x =>
    if keyB key = true then
      if standsB (seeVer x.2 (A.vers key) x.1 key) = true then (((seeVer x.2 (A.vers key) x.1 key).getD Ver.zero).value, 0) else (ByteArray.empty, 1)
    else (ByteArray.empty, 2)

theorem get_g {N : Nat} {w : World} {b : Nat} {A : Gst} {F : List Nat} (n : Int) (key : ByteArray) (h : GSt N w b A F) (hk : key.size ≤ maxLen) :
    Calls Tryz.prog 19 #[.pointer (some ⟨b, 0, none⟩), .int .i64 n, .string key] w fun e w' => e = .returned (.tuple #[.string (A.getR n key).1, .int .i64 (A.getR n key).2]) ∧ After N b A F w w' := by
  have hG := h
  obtain ⟨R, hi, rfl, rfl, rfl⟩ := h
  refine (get_any R n key w hi.st hi.good hk).mono ?_
  rintro e w' ⟨rfl, h1⟩
  have e : getAns R n key = R.gst.getR n key := by
    unfold getAns Gst.getR
    rw [gst_look]
    cases look R.works n <;> rfl
  rw [e]
  exact ⟨rfl, hG.after (Nat.le_refl _) h1⟩

/-- Put, Delete -/
def Gst.writeR (A : Gst) (n : Int) (key val : ByteArray) : Int :=
  match look A.works n with
  | none => 1
  | some x => if (keyB key && valB val) = true then (if ((look x.2 key).isSome || decide (x.2.length < 30)) = true then 0 else 3) else 2
def Gst.writeS (A : Gst) (n : Int) (key val : ByteArray) (gone : Bool) : Gst :=
  match look A.works n with
  | none => A
  | some x => if A.writeR n key val = 0 then { A with works := put A.works n (x.1, put x.2 key ⟨0, val, gone⟩) } else A

theorem write_g {N : Nat} {w : World} {b : Nat} {A : Gst} {F : List Nat} (n : Int) (key val : ByteArray) (gone : Bool) (h : GSt N w b A F) (hk : key.size ≤ maxLen) (hv : val.size ≤ maxLen) :
    Calls Tryz.prog 50 #[.pointer (some ⟨b, 0, none⟩), .int .i64 n, .string key, .agg #[.int .i64 0, .string val, .bool gone]] w fun e w' => e = .returned (.int .i64 (A.writeR n key val)) ∧ After N b (A.writeS n key val gone) F w w' := by
  have hG := h
  obtain ⟨R, hi, rfl, rfl, rfl⟩ := h
  cases hx : look R.works n with
  | none =>
    have e1 : R.gst.writeR n key val = 1 := by unfold Gst.writeR; rw [gst_look, hx]; rfl
    have e2 : R.gst.writeS n key val gone = R.gst := by unfold Gst.writeS; rw [gst_look, hx]; rfl
    rw [e1, e2]
    refine (write_none R n key val gone w hi.st hx).mono ?_
    rintro e w' ⟨rfl, h1⟩
    exact ⟨rfl, hG.after (Nat.le_refl _) h1⟩
  | some x =>
    have hlk : look R.gst.works n = some (x.began, x.writes) := by rw [gst_look, hx]; rfl
    cases hb : (keyB key && valB val) with
    | false =>
      have e1 : R.gst.writeR n key val = 2 := by unfold Gst.writeR; rw [hlk]; simp [hb]
      have e2 : R.gst.writeS n key val gone = R.gst := by unfold Gst.writeS; rw [hlk, e1]; simp
      rw [e1, e2]
      refine (write_text R n x key val gone w hi.st hx hk hv (Bool.and_eq_false_iff.1 hb)).mono ?_
      rintro e w' ⟨rfl, h1⟩
      exact ⟨rfl, hG.after (Nat.le_refl _) h1⟩
    | true =>
      obtain ⟨hkb, hvb⟩ := Bool.and_eq_true_iff.1 hb
      cases hf : ((look x.writes key).isSome || decide (x.writes.length < 30)) with
      | false =>
        have hf' := Bool.or_eq_false_iff.1 hf
        have hl : look x.writes key = none := by cases hl : look x.writes key with | none => rfl | some v => rw [hl] at hf'; simp at hf'
        have h30 := hi.good.writes30 _ (look_mem hx)
        have h30' : x.writes.length = 30 := by have := of_decide_eq_false hf'.2; simp only at h30; omega
        have e1 : R.gst.writeR n key val = 3 := by unfold Gst.writeR; rw [hlk]; simp only [hb, if_true, hf]; rfl
        have e2 : R.gst.writeS n key val gone = R.gst := by unfold Gst.writeS; rw [hlk, e1]; simp
        rw [e1, e2]
        refine (write_full R n x key val gone w hi.st hx hkb hvb hl h30').mono ?_
        rintro e w' ⟨rfl, h1⟩
        exact ⟨rfl, hG.after (Nat.le_refl _) h1⟩
      | true =>
        have hf' : (look x.writes key).isSome = true ∨ x.writes.length < 30 := by simpa [Bool.or_eq_true] using hf
        have e1 : R.gst.writeR n key val = 0 := by unfold Gst.writeR; rw [hlk]; simp only [hb, if_true, hf]
        have e2 : R.gst.writeS n key val gone = { R.gst with works := put R.gst.works n (x.began, put x.writes key ⟨0, val, gone⟩) } := by unfold Gst.writeS; rw [hlk, e1]; simp
        rw [e1, e2]
        refine (write_ok R n x key val gone w hi.st hx hkb hvb hf' (hi.good.writes30 _ (look_mem hx))).mono ?_
        rintro e w' ⟨rfl, h1, h2⟩
        refine ⟨rfl, _, ⟨_, ⟨h1, hi.good.written hx (works_nodup hi.st) (writes_nodup hi.st (look_mem hx)) hkb hvb hf', ⟨hi.tied.rises, hi.tied.keys, hi.tied.filled⟩, hi.floor, hi.begunN, hi.keysN, hi.totN, hi.pins, hi.pinsN, hi.startN, hi.cops, hi.cops4⟩, rfl, ?_, rfl⟩, h2, ?_⟩
        · simp only [Rep.gst]
          have := put_map (fun y : WkR => (y.began, y.writes)) R.works n { x with writes := put x.writes key ⟨0, val, gone⟩ }
          rw [← this]
        · rw [fp_written hx]
          exact fun k hk => .inl hk

set_option maxRecDepth 100000 in
set_option maxHeartbeats 400000 in
theorem put_g {N : Nat} {w : World} {b : Nat} {A : Gst} {F : List Nat} (n : Int) (key val : ByteArray) (h : GSt N w b A F) (hk : key.size ≤ maxLen) (hv : val.size ≤ maxLen) :
    Calls Tryz.prog 17 #[.pointer (some ⟨b, 0, none⟩), .int .i64 n, .string key, .string val] w fun e w' => e = .returned (.int .i64 (A.writeR n key val)) ∧ After N b (A.writeS n key val false) F w w' := by
  have HC := hid (write_g n key val false h hk hv)
  clear h hk hv
  go_enter Tryz.func17, Tryz.ntmps17
  go_wp2_with (go_at_call 50; go_must (refine (HC.out).mono ?_; rintro e w1 ⟨rfl, h1⟩))
  go_ret
  exact ⟨rfl, h1⟩

set_option maxRecDepth 100000 in
set_option maxHeartbeats 400000 in
theorem delete_g {N : Nat} {w : World} {b : Nat} {A : Gst} {F : List Nat} (n : Int) (key : ByteArray) (h : GSt N w b A F) (hk : key.size ≤ maxLen) :
    Calls Tryz.prog 21 #[.pointer (some ⟨b, 0, none⟩), .int .i64 n, .string key] w fun e w' => e = .returned (.int .i64 (A.writeR n key ByteArray.empty)) ∧ After N b (A.writeS n key ByteArray.empty true) F w w' := by
  have HC := hid (write_g n key ByteArray.empty true h hk (by decide +kernel))
  clear h hk
  go_enter Tryz.func21, Tryz.ntmps21
  go_wp2_with (go_at_call 50; go_must (refine (HC.out).mono ?_; rintro e w1 ⟨rfl, h1⟩))
  go_ret
  exact ⟨rfl, h1⟩

/-- a work is over -/
def Gst.ended (A : Gst) (n : Int) : Gst := { A with works := del A.works n }

theorem GInv.del {N : Nat} {w w' : World} {R : Rep} {n : Int} (h : GInv N w R) (hs : StoreAt w' { R with works := del R.works n }) : GInv N w' { R with works := del R.works n } :=
  ⟨hs, h.good.del n, ⟨h.tied.rises, h.tied.keys, h.tied.filled⟩, h.floor, h.begunN, h.keysN, h.totN, h.pins, h.pinsN, h.startN, h.cops, h.cops4⟩

theorem gst_del (R : Rep) (n : Int) : Rep.gst { R with works := del R.works n } = R.gst.ended n := by
  simp only [Rep.gst, Gst.ended]
  have := del_map (fun y : WkR => (y.began, y.writes)) R.works n
  rw [← this]

/-- Abort -/
def Gst.abortR (A : Gst) (n : Int) : Int := if (look A.works n).isSome then 0 else 1
def Gst.abortS (A : Gst) (n : Int) : Gst := if (look A.works n).isSome then A.ended n else A

theorem abort_g {N : Nat} {w : World} {b : Nat} {A : Gst} {F : List Nat} (n : Int) (h : GSt N w b A F) :
    Calls Tryz.prog 27 #[.pointer (some ⟨b, 0, none⟩), .int .i64 n] w fun e w' => e = .returned (.int .i64 (A.abortR n)) ∧ After N b (A.abortS n) F w w' := by
  have hG := h
  obtain ⟨R, hi, rfl, rfl, rfl⟩ := h
  unfold Gst.abortR Gst.abortS
  rw [gst_look]
  cases hx : look R.works n with
  | none =>
    refine (abort_none R n w hi.st hx).mono ?_
    rintro e w' ⟨rfl, h1⟩
    exact ⟨rfl, hG.after (Nat.le_refl _) h1⟩
  | some x =>
    refine (abort_some R n x w hi.st hx).mono ?_
    rintro e w' ⟨rfl, h1, h2⟩
    exact ⟨rfl, _, ⟨_, hi.del h1, rfl, gst_del R n, rfl⟩, h2, fun k hk => .inl (fp_del.subset hk)⟩

/-- Commit -/
def clashB (A : Gst) (bg : Int) (ws : List (ByteArray × Ver)) : Bool := ws.any (fun p => decide (bg < lastOf (A.vers p.1)))
def Gst.became (A : Gst) (n : Int) (ws : List (ByteArray × Ver)) : Gst :=
  { A with now := A.now + 1, works := del A.works n, keys := insAll A.keys (ws.map (·.1)), vers := fun k => if (look ws k).isSome then A.vers k ++ [verOf ws (A.now + 1) k] else A.vers k }
def Gst.commitR (A : Gst) (n : Int) : Int × Int :=
  match look A.works n with
  | none => (0, 1)
  | some x => if x.2 = [] then (x.1, 0) else if A.now < 1000000000 then (if clashB A x.1 x.2 = true then (0, 4) else (A.now + 1, 0)) else (0, 3)
def Gst.commitS (A : Gst) (n : Int) : Gst :=
  match look A.works n with
  | none => A
  | some x => if x.2 = [] then A.ended n else if A.now < 1000000000 then (if clashB A x.1 x.2 = true then A.ended n else A.became n x.2) else A

theorem commit_g {N : Nat} {w : World} {b : Nat} {A : Gst} {F : List Nat} (n : Int) (h : GSt N w b A F) (hN : N ≤ 100000000000) :
    Calls Tryz.prog 18 #[.pointer (some ⟨b, 0, none⟩), .int .i64 n] w fun e w' => e = .returned (.tuple #[.int .i64 (A.commitR n).1, .int .i64 (A.commitR n).2]) ∧ After (N + 30) b (A.commitS n) F w w' := by
  have hG := h
  obtain ⟨R, hi, rfl, rfl, rfl⟩ := h
  unfold Gst.commitR Gst.commitS
  rw [gst_look]
  cases hx : look R.works n with
  | none =>
    refine (commit_none R n w hi.st hx).mono ?_
    rintro e w' ⟨rfl, h1⟩
    exact ⟨rfl, hG.after (by omega) h1⟩
  | some x =>
    simp only [Option.map_some]
    have hxm := look_mem hx
    by_cases hw : x.writes = []
    · rw [if_pos hw, if_pos hw]
      refine (commit_empty R n x w hi.st hx hw).mono ?_
      rintro e w' ⟨rfl, h1, h2⟩
      exact ⟨rfl, _, ⟨_, (hi.del h1).more (by omega), rfl, gst_del R n, rfl⟩, h2, fun k hk => .inl (fp_del.subset hk)⟩
    · rw [if_neg hw, if_neg hw]
      by_cases hnow : R.gst.now < 1000000000
      · have hnow' : R.now < 1000000000 := hnow
        have hkn := hi.keysN
        have htn := hi.totN
        rw [if_pos hnow, if_pos hnow]
        refine (commit_some R n x w hi.st hi.good hi.tied hx hw hnow' (by omega)).mono ?_
        rintro e w' ⟨ks, hr, hp, hc⟩
        have hmem : ∀ k, k ∈ ks ↔ k ∈ x.writes.map (·.1) := fun k => hp.mem_iff
        have h30 : ks.length ≤ 30 := by have h1 := hp.length_eq; have h2 := hi.good.writes30 _ hxm; simp at h1 h2; omega
        have hksK : ∀ k ∈ ks, keyB k = true ∧ valB ((look x.writes k).getD Ver.zero).value = true := fun k hk => by
          have hk' := (hmem k).1 hk
          obtain ⟨v, hv⟩ := Option.isSome_iff_exists.1 ((look_isSome x.writes k).2 hk')
          obtain ⟨q1, q2, _⟩ := hi.good.wkeys _ hxm _ (look_mem hv)
          exact ⟨q1, by rw [hv]; exact q2⟩
        rcases hc with ⟨⟨k, hk, hlt⟩, rfl, R0, h1, h2, h3, h4, h5⟩ | ⟨hle, rfl, Rn, h1, h2, h3, h4⟩
        · have hcl : clashB R.gst x.began x.writes = true := by
            unfold clashB
            rw [List.any_eq_true]
            obtain ⟨q, hq, e⟩ := List.mem_map.1 ((hmem k).1 hk)
            exact ⟨q, hq, by rw [e]; exact decide_eq_true hlt⟩
          rw [if_pos hcl, if_pos hcl]
          have hs := h2.same
          have e1 : R0.works = Go.Proofs.YtgianpccgcjmjaaGreatDoor.del R.works n := by rw [hs]
          have e3 : versOf R0.hist = versOf R.hist := by
            funext k
            rw [h2.vers]
            simp [memB]
          have e4 : R0.keys = R.keys := rises_ext h2.tied.rises hi.tied.rises (fun k => by
            rw [← memB_iff, ← memB_iff, h2.tied.keys, hi.tied.keys]
            have hh : ∀ (R1 : Rep), Tied R1 → ((look R1.hist k).isSome = true ↔ versOf R1.hist k ≠ []) := fun R1 t => by
              constructor
              · intro hso
                exact vers_ne t ((memB_iff _ _).1 (by rw [t.keys]; exact hso))
              · intro hne
                rw [← t.keys]
                exact (memB_iff _ _).2 (keys_of_vers t hne)
            rw [hh R0 h2.tied, hh R hi.tied, e3])
          have et : R0.total = R.total := by unfold Rep.total; rw [e4, e3]
          have hg := (hi.good.del n).grew h2 (hist_nodup h1.past) R.now ⟨Int.le_refl _, hi.good.now.2⟩ (fun k hk => (by cases hk)) (fun k hk => (by cases hk))
          have en : { R0 with now := R.now } = R0 := by
            have hn' : R0.now = R.now := by rw [hs]
            rw [← hn']
          rw [en] at hg
          refine ⟨rfl, _, ⟨R0, ⟨h1, hg, h2.tied, ?_, ?_, by rw [e4]; omega, by rw [et]; omega, ?_, ?_, ?_, ?_, ?_⟩, ?_, ?_, rfl⟩, h3, h4⟩
          · rw [hs]; exact hi.floor
          · rw [hs]; have := hi.begunN; show R.begun ≤ _; omega
          · rw [hs]; exact hi.pins
          · have : R0.pinSum = R.pinSum := by unfold Rep.pinSum; rw [hs]
            rw [this]; have := hi.pinsN; omega
          · rw [hs]; exact ⟨hi.startN.1, by have := hi.startN.2; show R.started ≤ _; omega⟩
          · rw [hs]; exact hi.cops
          · rw [hs]; exact hi.cops4
          · rw [hs]
          · rw [← gst_del]
            simp only [Rep.gst, e1, e3, e4]
            rw [hs]
        · have hcl : clashB R.gst x.began x.writes = false := by
            rw [Bool.eq_false_iff]
            intro hc
            unfold clashB at hc
            rw [List.any_eq_true] at hc
            obtain ⟨q, hq, e⟩ := hc
            have h5 := hle q.1 ((hmem q.1).2 (List.mem_map.2 ⟨q, hq, rfl⟩))
            have h6 : x.began < lastOf (versOf R.hist q.1) := of_decide_eq_true e
            omega
          rw [if_neg (by rw [hcl]; simp), if_neg (by rw [hcl]; simp)]
          have hs := h2.same
          have ew : Rn.works = R.works := by rw [hs]
          have htg := total_grew hi.tied h2
          have hg := hi.good.grew h2 (hist_nodup h1.past) (R.now + 1) ⟨by omega, by omega⟩ (fun k hk => (hksK k hk).1) (fun k hk => ⟨(hksK k hk).2, rfl, by omega⟩)
          have hg2 := hg.del n
          have e3 : versOf Rn.hist = fun k => if (look x.writes k).isSome then versOf R.hist k ++ [verOf x.writes (R.now + 1) k] else versOf R.hist k := by
            funext k
            rw [h2.vers, memB_perm hp]
          have e4 : Rn.keys = insAll R.keys (x.writes.map (·.1)) := rises_ext h2.tied.rises (insAll_rises _ hi.tied.rises) (fun k => by
            rw [insAll_mem]
            constructor
            · intro hk
              rcases grew_keys hi.tied h2 hk with h | h
              · exact .inr ((hmem k).1 h)
              · exact .inl h
            · intro hk
              refine keys_of_vers h2.tied ?_
              rw [e3]
              simp only
              rcases hk with hk | hk
              · have := vers_ne hi.tied hk
                split
                · simp
                · exact this
              · rw [if_pos ((look_isSome _ _).2 hk)]
                simp)
          have hkl : Rn.keys.length ≤ R.keys.length + 30 := by
            rw [e4]
            have h1' := insAll_length (x.writes.map (·.1)) R.keys
            have h2' := hi.good.writes30 _ hxm
            simp at h1' h2'
            omega
          refine ⟨rfl, _, ⟨_, ⟨h1, ?_, ⟨h2.tied.rises, h2.tied.keys, h2.tied.filled⟩, ?_, ?_, ?_, ?_, ?_, ?_, ?_, ?_, ?_⟩, ?_, ?_, rfl⟩, h3, ?_⟩
          · rw [← ew]; exact hg2
          · show 0 ≤ Rn.floor
            rw [hs]; exact hi.floor
          · show Rn.begun ≤ _
            rw [hs]; have := hi.begunN; show R.begun ≤ _; omega
          · show Rn.keys.length ≤ _
            omega
          · show Rn.total ≤ _
            omega
          · show ∀ p ∈ Rn.pins, _
            rw [hs]; exact hi.pins
          · show Rn.pinSum ≤ _
            have : Rn.pinSum = R.pinSum := by unfold Rep.pinSum; rw [hs]
            rw [this]; have := hi.pinsN; omega
          · show 0 ≤ Rn.started ∧ Rn.started ≤ _
            rw [hs]; exact ⟨hi.startN.1, by have := hi.startN.2; show R.started ≤ _; omega⟩
          · show ∀ p ∈ Rn.copyings, _ ∧ p.1 ≤ Rn.started ∧ _
            rw [hs]; exact hi.cops
          · show Rn.copyings.length ≤ 4
            rw [hs]; exact hi.cops4
          · show Rn.sb = R.sb
            rw [hs]
          · have e5 : Rn.floor = R.floor ∧ Rn.begun = R.begun ∧ Rn.pins = R.pins ∧ Rn.started = R.started ∧ Rn.copyings = R.copyings := by rw [hs]; exact ⟨rfl, rfl, rfl, rfl, rfl⟩
            simp only [Rep.gst, Gst.became, e3, e4, e5.1, e5.2.1, e5.2.2.1, e5.2.2.2.1, e5.2.2.2.2]
            have := del_map (fun y : WkR => (y.began, y.writes)) R.works n
            rw [← this]
          · intro k hk
            have hk' : k ∈ Rep.fp { Rn with works := Go.Proofs.YtgianpccgcjmjaaGreatDoor.del Rn.works n } := by rw [ew]; exact hk
            exact h4 k (fp_del.subset hk')
      · have hnow' : R.now = 1000000000 := by have := hi.good.now.2; have h3 : ¬ R.now < 1000000000 := hnow; omega
        rw [if_neg hnow, if_neg hnow]
        refine (commit_full R n x w hi.st hx hw hnow').mono ?_
        rintro e w' ⟨rfl, h1⟩
        exact ⟨rfl, hG.after (by omega) h1⟩

end Go.Proofs.YtgianpccgcjmjaaGreatDoor
