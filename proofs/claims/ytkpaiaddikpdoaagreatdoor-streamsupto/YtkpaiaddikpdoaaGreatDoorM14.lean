import Derived.Test.YtkpaiaddikpdoaaGreatDoorM13

/- annalsref: a scan: number. -/

namespace Go.Proofs.YtkpaiaddikpdoaaGreatDoor

open Go.RowKit Go.Shelf

attribute [local go_sem] Oper.semAt_some

/-- what number leaves -/
def ScNum (sb : Nat) (text : ByteArray) (l : List UInt8) (lo : Nat) (x : Rd Nat) (w : World) (e : Ending) (w' : World) : Prop := (match x with
  | .inr (n, r) => e = .returned (.int .i64 (n : Nat)) ∧ ScL w' sb text r
  | .inl _ => e = .returned (.int .i64 (lo : Nat)) ∧ ScBad w' sb text (text.size - l.length)) ∧ Keeps (· = sb) w w'

theorem scNum_wrong {sb : Nat} {text : ByteArray} {l : List UInt8} {lo at_ q : Nat} {x : Rd Nat} {w w' : World} (hx : ∃ k, x = .bad k) (hat : at_ = text.size - l.length) (hq : q ≤ text.size) (h : ScAt w' sb text q (at_ : Nat)) (hk : Keeps (· = sb) w w') : ScNum sb text l lo x w (.returned (.int .i64 (lo : Nat))) w' := by
  obtain ⟨k, rfl⟩ := hx
  exact ⟨⟨rfl, q, hq, by rw [← hat]; exact h⟩, hk⟩

set_option maxRecDepth 100000 in
set_option maxHeartbeats 2000000 in
theorem scNum_any (sb : Nat) (text : ByteArray) (l : List UInt8) (lo hi : Nat) (w : World) (h : ScL w sb text l) (hts : text.size ≤ 1000000000000) (hhi : hi ≤ 34359738367) (hlo : lo ≤ 34359738367) :
    Calls Tryz.prog 25 #[.pointer (some ⟨sb, 0, none⟩), .int .i64 (lo : Nat), .int .i64 (hi : Nat)] w (ScNum sb text l lo (bndR lo hi l) w) := by
  obtain ⟨hp, h⟩ := h
  have hll := hp.len
  obtain ⟨at_, hat⟩ : ∃ at_, at_ = text.size - l.length := ⟨_, rfl⟩
  rw [← hat] at h
  have HH := hid h
  have HP := hid hp
  have HAT := hid hat
  have HLL : Hid (at_ + l.length = text.size) := by show _ = _; omega
  have HI0 : Hid (NumAt l 0 0) := ⟨by omega, by omega, by simp, rfl⟩
  have htsI : (text.size : Int) ≤ 1000000000000 := by omega
  have hhiI : (hi : Int) ≤ 34359738367 := by omega
  have hloI : (lo : Int) ≤ 34359738367 := by omega
  have HBD : Hid (∀ k, nrR l = .bad k → ∃ j, bndR lo hi l = .bad j) := fun k e => ⟨k, by unfold bndR; rw [e]; rfl⟩
  have HBO : Hid (∀ n r, nrR l = .ok n r → bndR lo hi l = if lo ≤ n ∧ n ≤ hi then .ok n r else .bad l.length) := fun n r e => by unfold bndR; rw [e]; rfl
  generalize bndR lo hi l = res at *
  obtain ⟨c0, c1, c2, f1, f2⟩ := h.facts
  have hatI : (at_ : Int) ≤ text.size := by omega
  clear h hp hat hll hts hhi hlo f1 f2
  go_enter Tryz.func25, Tryz.ntmps25
  go_wp2_with fail
  go_loopw [8, 9, 10] (fun z u i wr => ∃ k acc : Nat, i = .int .i64 (k : Int) ∧ u = .int .i64 ((128 ^ k : Nat) : Int) ∧ z = .int .i64 (acc : Int) ∧ NumAt l k acc ∧ ScAt wr sb text (at_ + k) (-1) ∧ Keeps (· = sb) w wr) (fun _ _ i _ => 5 - (intOf i).toNat)
  case atStart => exact ⟨0, 0, rfl, rfl, rfl, HI0.out, HH.out, Keeps.refl _ _⟩
  case round =>
    obtain ⟨k, acc, rfl, rfl, rfl, hN, hs, hk⟩ := hrel
    obtain ⟨d0, d1, d2, g1, g2⟩ := hs.facts
    have HS := hid hs
    have HK := hid hk
    have HN := hid hN
    have h5 := hN.five
    have hkl := hN.len
    clear hs hk hN c0 c1 c2
    have HW := hid (fun W (hW : Keeps (fun _ => False) wr W) => wrong_good sb text (at_ + k) at_ W (HS.out.kept hW (fun h => h)))
    by_cases hk5 : k < 5
    · have hk5I : (k : Int) < 5 := by omega
      by_cases hend : at_ + k = text.size
      · have HNR : Hid (∃ j, res = .bad j) := HBD.out _ (HN.out.cut (by have := HLL.out; omega))
        have hge : ((at_ + k : Nat) : Int) ≥ text.size := by omega
        clear HN HBO HBD hkl h5
        go_wp2_with fail
        go_region
        go_wp2_with fail
        refine (HW.out _ (Keeps.refl (fun _ => False) wr).dr).mono ?_
        rintro e w1 ⟨rfl, h1, k1⟩
        have H1 := hid h1
        have HK1 := hid (HK.out.tr ((Keeps.drew (· = sb) wr).tr k1 (fun _ h => h)) (fun _ h => h))
        clear h1 k1 HW
        go_wp2
        go_ret
        exact scNum_wrong HNR.out HAT.out (by omega) H1.out HK1.out
      · have hlt : at_ + k < text.size := by have := HLL.out; omega
        have hltI : ¬ ((at_ : Int) + k ≥ text.size) := by omega
        have hlk : k < l.length := by have := HLL.out; omega
        have hix : ∀ W, (Instr.index 9 (.string text) (.int .i64 ((at_ : Int) + (k : Int)))).run Tryz.prog W = .ok (.int .u8 (text[at_ + k].toNat : Nat)) W := fun W => by
          rw [run_index_string W 9 text .i64 _ Tryz.underlying9, dif_pos ⟨by omega, by omega⟩]
          have hn : ((at_ : Int) + (k : Int)).toNat = at_ + k := by omega
          simp only [hn]
        have hget : l[k].toNat = text[at_ + k].toNat := by
          have h1 : l[k]? = (restL text at_)[k]? := by rw [HAT.out, ← HP.out]
          have h2 : k < (restL text at_).length := by rw [restL_len]; omega
          rw [List.getElem?_eq_getElem hlk, List.getElem?_eq_getElem h2] at h1
          rw [Option.some.inj h1, restL_get h2 hlt]
        have hZ := fun h1 h2 => HN.out.zero hk5 hlk h1 h2
        have hL := fun h1 h2 => HN.out.last hk5 hlk h1 h2
        have hX := fun h1 => HN.out.next hk5 hlk h1
        rw [hget] at hZ hL hX
        have hd : text[at_ + k].toNat < 256 := UInt8.toNat_lt _
        have hlow := HN.out.low
        have hub : 128 ^ k ≤ 268435456 := by
          have : 128 ^ k ≤ 128 ^ 4 := Nat.pow_le_pow_right (by omega) (by omega)
          omega
        have HPW : Hid (128 ^ (k + 1) = 128 * 128 ^ k) := by show _ = _; rw [Nat.pow_succ, Nat.mul_comm]
        have hcast : ((at_ + k + 1 : Nat) : Int) = (at_ : Int) + k + 1 := by omega
        have hm : ScAt (wr.setCell ⟨sb, 1, none⟩ (.int .i64 ((at_ : Int) + k + 1))) sb text (at_ + k + 1) (-1) := by
          have := HS.out.moved (at_ + k + 1)
          rw [hcast] at this
          exact this
        have HMV := hid hm
        have HW2 := hid (fun W (hW : Keeps (fun _ => False) (wr.setCell ⟨sb, 1, none⟩ (.int .i64 ((at_ : Int) + k + 1))) W) => wrong_good sb text (at_ + k + 1) at_ W (hm.kept hW (fun h => h)))
        have HQ : Hid (at_ + k + 1 ≤ text.size) := hlt
        generalize text[at_ + k].toNat = d at *
        generalize 128 ^ k = u at *
        obtain ⟨pr, hpr⟩ : ∃ pr, pr = u * (d % 128) := ⟨_, rfl⟩
        have hpb : pr ≤ 268435456 * 127 := by rw [hpr]; exact Nat.mul_le_mul hub (by omega)
        have hmul : (u : Int) * ((d : Int) % 128) = (pr : Int) := by rw [hpr]; exact (Int.natCast_mul u (d % 128)).symm
        have hdI : (d : Int) < 256 := by omega
        have huI : (u : Int) ≤ 268435456 := by omega
        have hprI : (pr : Int) ≤ 34091302912 := by omega
        have haccI : (acc : Int) ≤ 268435456 := by omega
        have HLS : Hid (d < 128 → ¬ (d = 0 ∧ 0 < k) → res = if lo ≤ acc + pr ∧ acc + pr ≤ hi then .ok (acc + pr) (l.drop (k + 1)) else .bad l.length) := fun h1 h2 => by
          have := HBO.out _ _ (hL h1 h2)
          rw [show acc + d * u = acc + pr by rw [hpr, Nat.mod_eq_of_lt h1, Nat.mul_comm]] at this
          exact this
        have HZB : Hid (d = 0 → 0 < k → ∃ j, res = .bad j) := fun h1 h2 => HBD.out _ (hZ h1 h2)
        have HX : Hid (¬ d < 128 → NumAt l (k + 1) (acc + pr)) := fun h1 => by
          have := hX h1
          rw [show acc + (d - 128) * u = acc + pr by rw [hpr, show d % 128 = d - 128 by omega, Nat.mul_comm]] at this
          exact this
        clear hget hZ hL hX hlow hub hpr hpb hm hcast hlt hlk HBO HBD HN HW hend h5 hkl hd
        by_cases hd1 : d < 128
        · have hd1I : (d : Int) < 128 := by omega
          have hmod : (d : Int) % 128 = d := by omega
          rw [hmod] at hmul
          by_cases h0 : d = 0 ∧ 0 < k
          · have HNR := hid (HZB.out h0.1 h0.2)
            have hk0 : (k : Int) > 0 := by omega
            obtain ⟨rfl, -⟩ := h0
            clear HX HLS HZB hd1 hk5
            go_wp2_with fail
            go_region
            go_wp2_with fail
            go_region
            go_wp2_with fail
            refine (HW2.out _ ((Keeps.refl (fun _ => False) _).dr.dr)).mono ?_
            rintro e w1 ⟨rfl, h1, k1⟩
            have H1 := hid h1
            have HK1 := hid ((HK.out.tr (Keeps.setCell wr ⟨sb, 1, none⟩ _) (fun _ h => h)).tr (((Keeps.refl (· = sb) _).dr.dr).tr k1 (fun _ h => h)) (fun _ h => h))
            clear h1 k1 HW2
            go_wp2
            go_ret
            exact scNum_wrong HNR.out HAT.out HQ.out H1.out HK1.out
          · have HRE := hid (HLS.out hd1 h0)
            have hn0 : ¬ (((d : Int) = 0) ∧ ((k : Int) > 0)) := by omega
            have HDK : Hid (d ≠ 0 ∨ k = 0) := by show _ ∨ _; omega
            by_cases hl1 : acc + pr < lo
            · have HNR : Hid (∃ j, res = .bad j) := ⟨_, by rw [HRE.out, if_neg (by omega)]⟩
              have hl1I : (acc : Int) + pr < lo := by omega
              clear HX HLS HZB hd1 hk5 h0 hl1 HRE
              rcases HDK.out with hz | hz
              · have hzI : ¬ ((d : Int) = 0) := by omega
                have hzB : ((d : Int) == 0) = false := by rw [beq_eq_false_iff_ne]; omega
                clear hz hn0
                go_wp2_with fail
                go_region
                go_wp2_with fail
                go_region
                go_wp2_with fail
                refine (HW2.out _ ((Keeps.refl (fun _ => False) _).dr.dr)).mono ?_
                rintro e w1 ⟨rfl, h1, k1⟩
                have H1 := hid h1
                have HK1 := hid ((HK.out.tr (Keeps.setCell wr ⟨sb, 1, none⟩ _) (fun _ h => h)).tr (((Keeps.refl (· = sb) _).dr.dr).tr k1 (fun _ h => h)) (fun _ h => h))
                clear h1 k1 HW2
                go_wp2
                go_ret
                exact scNum_wrong HNR.out HAT.out HQ.out H1.out HK1.out
              · have dk : decide (0 < k) = false := decide_eq_false (by omega)
                clear hn0 hz
                cases hdz : ((d : Int) == 0) with
                | true =>
                  go_wp2_with fail
                  go_region
                  go_wp2_with fail
                  go_region
                  go_wp2_with fail
                  refine (HW2.out _ ((Keeps.refl (fun _ => False) _).dr.dr)).mono ?_
                  rintro e w1 ⟨rfl, h1, k1⟩
                  have H1 := hid h1
                  have HK1 := hid ((HK.out.tr (Keeps.setCell wr ⟨sb, 1, none⟩ _) (fun _ h => h)).tr (((Keeps.refl (· = sb) _).dr.dr).tr k1 (fun _ h => h)) (fun _ h => h))
                  clear h1 k1 HW2
                  go_wp2
                  go_ret
                  exact scNum_wrong HNR.out HAT.out HQ.out H1.out HK1.out
                | false =>
                  go_wp2_with fail
                  go_region
                  go_wp2_with fail
                  go_region
                  go_wp2_with fail
                  refine (HW2.out _ ((Keeps.refl (fun _ => False) _).dr.dr)).mono ?_
                  rintro e w1 ⟨rfl, h1, k1⟩
                  have H1 := hid h1
                  have HK1 := hid ((HK.out.tr (Keeps.setCell wr ⟨sb, 1, none⟩ _) (fun _ h => h)).tr (((Keeps.refl (· = sb) _).dr.dr).tr k1 (fun _ h => h)) (fun _ h => h))
                  clear h1 k1 HW2
                  go_wp2
                  go_ret
                  exact scNum_wrong HNR.out HAT.out HQ.out H1.out HK1.out
            · have hl1I : ¬ ((acc : Int) + pr < lo) := by omega
              by_cases hl2 : acc + pr > hi
              · have HNR : Hid (∃ j, res = .bad j) := ⟨_, by rw [HRE.out, if_neg (by omega)]⟩
                have hl2I : (acc : Int) + pr > hi := by omega
                clear HX HLS HZB hd1 hk5 h0 hl1 hl2 HRE
                rcases HDK.out with hz | hz
                · have hzI : ¬ ((d : Int) = 0) := by omega
                  have hzB : ((d : Int) == 0) = false := by rw [beq_eq_false_iff_ne]; omega
                  clear hz hn0
                  go_wp2_with fail
                  go_region
                  go_wp2_with fail
                  go_region
                  go_wp2_with fail
                  refine (HW2.out _ ((Keeps.refl (fun _ => False) _).dr.dr)).mono ?_
                  rintro e w1 ⟨rfl, h1, k1⟩
                  have H1 := hid h1
                  have HK1 := hid ((HK.out.tr (Keeps.setCell wr ⟨sb, 1, none⟩ _) (fun _ h => h)).tr (((Keeps.refl (· = sb) _).dr.dr).tr k1 (fun _ h => h)) (fun _ h => h))
                  clear h1 k1 HW2
                  go_wp2
                  go_ret
                  exact scNum_wrong HNR.out HAT.out HQ.out H1.out HK1.out
                · have dk : decide (0 < k) = false := decide_eq_false (by omega)
                  clear hn0 hz
                  cases hdz : ((d : Int) == 0) with
                  | true =>
                    go_wp2_with fail
                    go_region
                    go_wp2_with fail
                    go_region
                    go_wp2_with fail
                    refine (HW2.out _ ((Keeps.refl (fun _ => False) _).dr.dr)).mono ?_
                    rintro e w1 ⟨rfl, h1, k1⟩
                    have H1 := hid h1
                    have HK1 := hid ((HK.out.tr (Keeps.setCell wr ⟨sb, 1, none⟩ _) (fun _ h => h)).tr (((Keeps.refl (· = sb) _).dr.dr).tr k1 (fun _ h => h)) (fun _ h => h))
                    clear h1 k1 HW2
                    go_wp2
                    go_ret
                    exact scNum_wrong HNR.out HAT.out HQ.out H1.out HK1.out
                  | false =>
                    go_wp2_with fail
                    go_region
                    go_wp2_with fail
                    go_region
                    go_wp2_with fail
                    refine (HW2.out _ ((Keeps.refl (fun _ => False) _).dr.dr)).mono ?_
                    rintro e w1 ⟨rfl, h1, k1⟩
                    have H1 := hid h1
                    have HK1 := hid ((HK.out.tr (Keeps.setCell wr ⟨sb, 1, none⟩ _) (fun _ h => h)).tr (((Keeps.refl (· = sb) _).dr.dr).tr k1 (fun _ h => h)) (fun _ h => h))
                    clear h1 k1 HW2
                    go_wp2
                    go_ret
                    exact scNum_wrong HNR.out HAT.out HQ.out H1.out HK1.out
              · have HRK : Hid (res = .ok (acc + pr) (l.drop (k + 1))) := by show _ = _; rw [HRE.out, if_pos (by omega)]
                have hl2I : ¬ ((acc : Int) + pr > hi) := by omega
                have HPD := hid (HP.out.drop (k + 1))
                have HPL : Hid (text.size - (l.drop (k + 1)).length = at_ + k + 1) := by
                  show _ = _
                  have h8 := HLL.out
                  have h9 := HQ.out
                  rw [List.length_drop]
                  omega
                clear HX HLS HZB hd1 hk5 h0 hl1 hl2 HRE HW2
                rcases HDK.out with hz | hz
                · have hzI : ¬ ((d : Int) = 0) := by omega
                  have hzB : ((d : Int) == 0) = false := by rw [beq_eq_false_iff_ne]; omega
                  clear hz hn0
                  go_wp2_with fail
                  go_region
                  go_wp2_with fail
                  go_region
                  go_wp2
                  go_ret
                  rw [HRK.out]
                  exact ⟨⟨ret_int (by omega), HPD.out, by rw [HPL.out]; exact HMV.out.kept ((Keeps.refl (fun _ => False) _).dr.dr) (fun h => h)⟩, (HK.out.tr (Keeps.setCell wr ⟨sb, 1, none⟩ _) (fun _ h => h)).dr.dr⟩
                · have dk : decide (0 < k) = false := decide_eq_false (by omega)
                  clear hn0 hz
                  cases hdz : ((d : Int) == 0) with
                  | true =>
                    go_wp2_with fail
                    go_region
                    go_wp2_with fail
                    go_region
                    go_wp2
                    go_ret
                    rw [HRK.out]
                    exact ⟨⟨ret_int (by omega), HPD.out, by rw [HPL.out]; exact HMV.out.kept ((Keeps.refl (fun _ => False) _).dr.dr) (fun h => h)⟩, (HK.out.tr (Keeps.setCell wr ⟨sb, 1, none⟩ _) (fun _ h => h)).dr.dr⟩
                  | false =>
                    go_wp2_with fail
                    go_region
                    go_wp2_with fail
                    go_region
                    go_wp2
                    go_ret
                    rw [HRK.out]
                    exact ⟨⟨ret_int (by omega), HPD.out, by rw [HPL.out]; exact HMV.out.kept ((Keeps.refl (fun _ => False) _).dr.dr) (fun h => h)⟩, (HK.out.tr (Keeps.setCell wr ⟨sb, 1, none⟩ _) (fun _ h => h)).dr.dr⟩
        · have hd1I : ¬ ((d : Int) < 128) := by omega
          have HNX := hid (HX.out hd1)
          have HK5 := hid hk5
          clear HX HLS HZB HW2 hd1
          go_wp2_with fail
          go_region
          go_wp2_with fail
          go_region
          go_wp2
          refine ⟨⟨k + 1, acc + pr, by go_num, by rw [HPW.out]; simp, by simp, HNX.out, ?_, (HK.out.tr (Keeps.setCell wr ⟨sb, 1, none⟩ _) (fun _ h => h)).dr.dr⟩, by simp only [intOf]; have := HK5.out; omega⟩
          exact HMV.out.kept ((Keeps.refl (fun _ => False) _).dr.dr) (fun h => h)
    · have e5 : k = 5 := by omega
      subst e5
      have HNR : Hid (∃ j, res = .bad j) := HBD.out _ HN.out.full
      have HQ : Hid (at_ + 5 ≤ text.size) := by have := HLL.out; show _ ≤ _; omega
      clear HN HBO HBD hkl h5 hk5
      go_wp2_with fail
      refine (HW.out _ (Keeps.refl (fun _ => False) wr)).mono ?_
      rintro e w1 ⟨rfl, h1, k1⟩
      have H1 := hid h1
      have HK1 := hid (HK.out.tr k1 (fun _ h => h))
      clear h1 k1 HW
      go_wp2
      go_ret
      exact scNum_wrong HNR.out HAT.out HQ.out H1.out HK1.out

end Go.Proofs.YtkpaiaddikpdoaaGreatDoor

/- annalsref's lists of records: placed, standing (made by wip/tools/slice.py out of R0 and what it leans on). -/

namespace Go.Proofs.YtkpaiaddikpdoaaGreatDoor

section TSA

open Go.RowKit

end TSA

section TSJ

open Go.RowKit

end TSJ

section TR0

open Go.RowKit Go.Shelf

theorem flat_at {α : Type} {f : α → List Value} {size : Nat} (hf : ∀ a, (f a).length = size) : ∀ (l : List α) (k r : Nat) (hk : k < l.length), r < size → (l.flatMap f)[k * size + r]? = (f l[k])[r]?
  | [], k, r, hk, _ => by simp at hk
  | a :: l, 0, r, _, hr => by
    have : r < (f a).length := by rw [hf]; exact hr
    simp [List.getElem?_append_left this]
  | a :: l, k + 1, r, hk, hr => by
    have ih := flat_at hf l k r (by simpa using hk) hr
    have e : (k + 1) * size + r = (f a).length + (k * size + r) := by rw [hf, Nat.add_mul, Nat.one_mul]; omega
    rw [List.flatMap_cons, e, List.getElem?_append_right (by omega), Nat.add_sub_cancel_left, ih]
    simp

theorem Row.elem {α : Type} {f : α → List Value} {size : Nat} (hf : ∀ a, (f a).length = size) {w : World} {e : TypeId} {g cap : Nat} {l : List α} (h : Row w e size (.slice (some ⟨g, 0, none⟩) l.length cap) l.length (l.flatMap f)) (k : Nat) (hk : k < l.length) (r : Nat) (hr : r < size) :
    w.cell? ⟨g, k * size + r, none⟩ = (f l[k])[r]? := by
  have hlt : k * size + r < l.length * size := by
    have : (k + 1) * size ≤ l.length * size := Nat.mul_le_mul_right _ hk
    rw [Nat.add_mul, Nat.one_mul] at this
    omega
  rw [h.cellAt _ hlt, flat_at hf l k r hk hr]

/-- v is a list of records -/
def RecsAt (w : World) (v : Value) (l : List RecB) : Prop := Row w 31 3 v l.length (l.flatMap RecB.cells)

abbrev RecsMade (w W : World) (v : Value) (l : List RecB) : Prop := Made 31 3 RecB.cells w W v l

theorem rec_cells {w : World} {g cap : Nat} {l : List RecB} (h : RecsAt w (.slice (some ⟨g, 0, none⟩) l.length cap) l) (k : Nat) (hk : k < l.length) :
    w.cell? ⟨g, k * 3, none⟩ = some (.string l[k].key) ∧ w.cell? ⟨g, k * 3 + 1, none⟩ = some (.string l[k].value) ∧ w.cell? ⟨g, k * 3 + 2, none⟩ = some (.bool l[k].gone) := by
  have h0 := Row.elem RecB.len h k hk 0 (by omega)
  have h1 := Row.elem RecB.len h k hk 1 (by omega)
  have h2 := Row.elem RecB.len h k hk 2 (by omega)
  exact ⟨h0, h1, h2⟩

/-- those that are not gone -/
def standingL (l : List RecB) : List RecB := l.filter (fun r => !r.gone)

set_option maxRecDepth 100000 in
set_option maxHeartbeats 800000 in
theorem standing_any (v : Value) (l : List RecB) (w : World) (h : RecsAt w v l) (hl : l.length < 1000000000000) :
    Calls Tryz.prog 32 #[v] w fun e w' => ∃ v', e = .returned v' ∧ RecsMade w w' v' (standingL l) := by
  obtain ⟨oa, ca, rfl, hm, sa⟩ := Row.form h
  obtain ⟨i0, hi, hz0, hz1, hz2⟩ := info_parts Tryz.infoRec
  have HR := hid h
  have SA := hid sa
  have HL := hid hl
  unfold maxLen at hm
  clear h sa
  go_enter Tryz.func32, Tryz.ntmps32
  go_wp2_with fail
  go_loopw [3, 4] (fun v' i wr => ∃ k : Nat, k ≤ l.length ∧ i = .int .i64 k ∧ RecsMade w wr v' (standingL (l.take k))) (fun _ i _ => l.length - (intOf i).toNat)
  case atStart => exact ⟨0, Nat.zero_le _, rfl, Made.nil (Keeps.refl _ _)⟩
  case round =>
    obtain ⟨k, hk, rfl, hM⟩ := hrel
    obtain ⟨ob, cb, rfl, -, -⟩ := hM.row.form
    have HM := hid hM
    clear hM
    by_cases hlt : k < l.length
    · obtain ⟨g, rfl⟩ := SA.out (by omega)
      obtain ⟨c0, c1, c2⟩ := rec_cells (Row.kept HR.out HM.out.keep (fun _ _ h => h)) k hlt
      have htk : l.take (k + 1) = l.take k ++ [l[k]] := List.take_succ_eq_append_getElem hlt
      have HTK := hid htk
      have hml : (standingL (l.take k)).length ≤ k := Nat.le_trans (List.length_filter_le _ _) (List.length_take_le _ _)
      generalize l[k] = r at c0 c1 c2 HTK
      obtain ⟨rk, rv, rg⟩ := r
      clear SA htk
      cases rg with
      | true =>
        have HS : Hid (standingL (l.take (k + 1)) = standingL (l.take k)) := by show _ = _; rw [HTK.out]; simp [standingL]
        go_wp2
        exact ⟨⟨k + 1, by omega, by go_num, by rw [HS.out]; exact HM.out⟩, by simp only [intOf]; omega⟩
      | false =>
        have HS : Hid (standingL (l.take (k + 1)) = standingL (l.take k) ++ [⟨rk, rv, false⟩]) := by show _ = _; rw [HTK.out]; simp [standingL]
        generalize standingL (l.take k) = out at *
        go_wp2_with (first | (at_builtin; go_must (refine wpList_append_row _ rfl _ _ 32 rfl 31 i0 _ 3 40 Tryz.underlying32 hi hz0 hz1 hz2 rfl (.slice ob out.length cb) out.length _ rfl (HM.out.row.kept (Keeps.alloc (fun _ => False) _ _) (fun _ _ h => h)) ⟨wr.heap.size, 0, none⟩ 1 1 [.string rk, .string rv, .bool false] rfl rfl (news_arr _ #[.string rk, .string rv, .bool false] _) (by simp [Value.oneCell']) (by have := HL.out; unfold maxLen; omega) (by have := HL.out; omega) ?_; intro v' w1 hown' hgrow _ hat; obtain ⟨g', cap', rfl⟩ := hown'.succ; have HN := hid (HM.out.push (a := ⟨rk, rv, false⟩) (Keeps.alloc (fun _ => False) _ _) hown' hgrow hat); clear hown' hgrow hat)) | fail)
        exact ⟨⟨k + 1, by omega, by go_num, by rw [HS.out]; exact HN.out⟩, by simp only [intOf]; omega⟩
    · go_wp2
      go_ret
      have e : standingL l = standingL (l.take k) := by rw [List.take_of_length_le (by omega)]
      rw [e]
      exact ⟨_, rfl, HM.out⟩

/-- records with one more, or one in another's place: what has come out, is the one in? -/
def placeStep (r : RecB) (s : List RecB × Bool) (x : RecB) : List RecB × Bool :=
  let o := if s.2 = false ∧ ltK x.key r.key = false then (s.1 ++ [r], true) else s
  if x.key = r.key then o else (o.1 ++ [x], o.2)

def placeTo (l : List RecB) (r : RecB) : List RecB × Bool := l.foldl (placeStep r) ([], false)

def placedL (l : List RecB) (r : RecB) : List RecB := if (placeTo l r).2 = true then (placeTo l r).1 else (placeTo l r).1 ++ [r]

theorem placeTo_snoc (l : List RecB) (x r : RecB) : placeTo (l ++ [x]) r = placeStep r (placeTo l r) x := by simp [placeTo, List.foldl_append]

theorem placeTo_length (l : List RecB) (r : RecB) : (placeTo l r).1.length ≤ l.length + (placeTo l r).2.toNat := by
  have gen : ∀ (l : List RecB) (s : List RecB × Bool), (l.foldl (placeStep r) s).1.length + s.2.toNat ≤ s.1.length + l.length + (l.foldl (placeStep r) s).2.toNat := by
    intro l
    induction l with
    | nil => intro s; simp
    | cons x l ih =>
      intro s
      have h := ih (placeStep r s x)
      simp only [List.foldl_cons, List.length_cons]
      have h2 : (placeStep r s x).1.length + s.2.toNat ≤ s.1.length + 1 + (placeStep r s x).2.toNat := by
        obtain ⟨o, i⟩ := s
        simp only [placeStep]
        cases i <;> by_cases h1 : ltK x.key r.key = false <;> by_cases h2 : x.key = r.key <;> simp [h1, h2, ltK_irrefl]
      omega
  have := gen l ([], false)
  simpa [placeTo] using this

theorem run_geq_str {P : Program} {t : TypeId} (x y : ByteArray) (w : World) : (binOp BinOp.geq t (.string x) (.string y)).run P w = .ok (.bool (!ltK x y)) w := by
  simp [binOp, Op.stringOp, ltK]

theorem Made.from {α : Type} {e : TypeId} {size : Nat} {f : α → List Value} {w w0 W : World} {v : Value} {l : List α} (h : Made e size f w0 W v l) (hk : Keeps (fun _ => False) w w0) : Made e size f w W v l :=
  ⟨h.row, fun g hg => Nat.le_trans hk.size (h.own g hg), hk.tr h.keep (fun _ h => h)⟩

/-- one round -/
theorem placeTo_next {l : List RecB} {r x : RecB} {k : Nat} {o : List RecB} {t : Bool} (hx : l[k]? = some x) (h : placeTo (l.take k) r = (o, t)) : placeTo (l.take (k + 1)) r = placeStep r (o, t) x := by
  obtain ⟨hk, rfl⟩ := List.getElem?_eq_some_iff.1 hx
  rw [List.take_succ_eq_append_getElem hk, placeTo_snoc, h]

theorem rec_at {w W : World} {g cap k : Nat} {l : List RecB} {x : RecB} (h : RecsAt w (.slice (some ⟨g, 0, none⟩) l.length cap) l) (hW : Keeps (fun _ => False) w W) (hx : l[k]? = some x) :
    W.cell? ⟨g, k * 3, none⟩ = some (.string x.key) ∧ W.cell? ⟨g, k * 3 + 1, none⟩ = some (.string x.value) ∧ W.cell? ⟨g, k * 3 + 2, none⟩ = some (.bool x.gone) := by
  obtain ⟨hk, rfl⟩ := List.getElem?_eq_some_iff.1 hx
  exact rec_cells (Row.kept h hW (fun _ _ h => h)) k hk

set_option maxRecDepth 100000 in
set_option maxHeartbeats 2000000 in
theorem placed_any (v : Value) (l : List RecB) (r : RecB) (w : World) (h : RecsAt w v l) (hl : l.length < 1000000000000) :
    Calls Tryz.prog 31 #[v, r.val] w fun e w' => ∃ v', e = .returned v' ∧ RecsMade w w' v' (placedL l r) := by
  obtain ⟨oa, ca, rfl, hm, sa⟩ := Row.form h
  obtain ⟨i0, hi, hz0, hz1, hz2⟩ := info_parts Tryz.infoRec
  obtain ⟨rk, rv, rg⟩ := r
  simp only [RecB.val]
  have HR := hid (Row.kept h (Keeps.alloc (fun _ => False) w (.cells #[.string rk, .string rv, .bool rg] 31)) (fun _ _ h => h))
  have SA := hid sa
  have HL := hid hl
  have HBX := hid (heap_new w (.cells #[.string rk, .string rv, .bool rg] 31))
  have hK0 : Keeps (fun _ => False) w (w.alloc (.cells #[.string rk, .string rv, .bool rg] 31)) := Keeps.alloc _ _ _
  unfold maxLen at hm
  clear h sa
  go_enter Tryz.func31, Tryz.ntmps31
  go_wp2_with fail
  go_loopw [5, 6, 7] (fun v' b i wr => ∃ (k : Nat) (o : List RecB) (t : Bool), k ≤ l.length ∧ i = .int .i64 k ∧ b = .bool t ∧ placeTo (l.take k) ⟨rk, rv, rg⟩ = (o, t) ∧ RecsMade (w.alloc (.cells #[.string rk, .string rv, .bool rg] 31)) wr v' o) (fun _ _ i _ => l.length - (intOf i).toNat)
  case atStart => exact ⟨0, [], false, Nat.zero_le _, rfl, rfl, rfl, Made.nil (Keeps.refl _ _)⟩
  case round =>
    obtain ⟨k, o, t, hk, rfl, rfl, hp, hM⟩ := hrel
    obtain ⟨ob, cb, rfl, -, -⟩ := hM.row.form
    have HM := hid hM
    have HP := hid hp
    have hbx := (hM.keep.block w.heap.size (by simp) (fun h => h)).trans HBX.out
    have b0 := cell_of_heap hbx 0
    have b1 := cell_of_heap hbx 1
    have b2 := cell_of_heap hbx 2
    simp at b0 b1 b2
    have hzr : w.heap.size < wr.heap.size := (Array.getElem?_eq_some_iff.1 hbx).1
    have hol : o.length ≤ k + 1 := by
      have := placeTo_length (l.take k) ⟨rk, rv, rg⟩
      rw [hp] at this
      have h2 := List.length_take_le k l
      have h3 : t.toNat ≤ 1 := by cases t <;> simp
      simp only at this
      omega
    have hoe : t = false → o.length ≤ k := fun ht => by
      have := placeTo_length (l.take k) ⟨rk, rv, rg⟩
      rw [hp] at this
      have h2 := List.length_take_le k l
      rw [ht] at this
      simp at this h2
      omega
    have HOE := hid hoe
    clear hM hbx hp hoe
    by_cases hlt : k < l.length
    · obtain ⟨g, rfl⟩ := SA.out (by omega)
      obtain ⟨x, hx⟩ : ∃ x, l[k]? = some x := ⟨l[k], List.getElem?_eq_getElem hlt⟩
      obtain ⟨c0, c1, c2⟩ := rec_at HR.out HM.out.keep hx
      have HX := hid hx
      have HNX := hid (placeTo_next hx HP.out)
      obtain ⟨xk, xv, xg⟩ := x
      have hol' : o.length < 1000000000000 := by have := HL.out; omega
      clear SA HBX hx
      by_cases heq : xk = rk
      · subst heq
        have hge : ∀ W, (binOp BinOp.geq 9 (.string xk) (.string xk)).run Tryz.prog W = .ok (.bool true) W := fun W => by rw [run_geq_str, ltK_irrefl]; rfl
        cases t with
        | true =>
          have HS : Hid (placeStep ⟨xk, rv, rg⟩ (o, true) ⟨xk, xv, xg⟩ = (o, true)) := by show _ = _; simp [placeStep]
          go_wp2_with fail
          go_region
          go_wp2_with fail
          go_region
          go_wp2
          exact ⟨⟨k + 1, o, true, by omega, by go_num, rfl, by rw [HNX.out, HS.out], HM.out.kept ((Keeps.refl (fun _ => False) wr).dr.dr)⟩, by simp only [intOf]; omega⟩
        | false =>
          have HS : Hid (placeStep ⟨xk, rv, rg⟩ (o, false) ⟨xk, xv, xg⟩ = (o ++ [⟨xk, rv, rg⟩], true)) := by show _ = _; simp [placeStep, ltK_irrefl]
          go_wp2_with fail
          go_region
          go_wp2_with (first | (at_builtin; go_must (refine wpList_append_row _ rfl _ _ 32 rfl 31 i0 _ 3 40 Tryz.underlying32 hi hz0 hz1 hz2 rfl (.slice ob o.length cb) o.length _ rfl (HM.out.row.kept ((Keeps.refl (fun _ => False) wr).dr.al _) (fun _ _ h => h)) ⟨wr.heap.size, 0, none⟩ 1 1 [.string xk, .string rv, .bool rg] rfl rfl (news_arr _ #[.string xk, .string rv, .bool rg] _) (by simp [Value.oneCell']) (by have := HL.out; unfold maxLen; omega) (by have := HL.out; omega) ?_; intro v' w1 hown' hgrow _ hat; obtain ⟨g1, cp1, rfl⟩ := hown'.succ; have HN1 := hid (HM.out.push (a := ⟨xk, rv, rg⟩) ((Keeps.refl (fun _ => False) wr).dr.al _) hown' hgrow hat); have hsz_HN1 := HN1.out.keep.size; clear hown' hgrow hat; have hbq := (HN1.out.keep.block w.heap.size (by simp) (fun h => h)).trans (heap_new w _); have e0 := cell_of_heap hbq 0; have e1 := cell_of_heap hbq 1; have e2 := cell_of_heap hbq 2; simp at e0 e1 e2; clear hbq; obtain ⟨d0, d1, d2⟩ := rec_at HR.out HN1.out.keep HX.out)) | fail)
          go_region
          go_wp2
          exact ⟨⟨k + 1, o ++ [⟨xk, rv, rg⟩], true, by omega, by go_num, rfl, by rw [HNX.out, HS.out], (HN1.out.kept ((Keeps.refl (fun _ => False) w1).dr)).slice (by simp)⟩, by simp only [intOf]; omega⟩
      · have hne : (xk.toList == rk.toList) = false := (Lib.bytes_beq_false_iff _ _).2 heq
        have HEQ := hid heq
        clear heq
        cases t with
        | true =>
          have HS : Hid (placeStep ⟨rk, rv, rg⟩ (o, true) ⟨xk, xv, xg⟩ = (o ++ [⟨xk, xv, xg⟩], true)) := by show _ = _; simp [placeStep, HEQ.out]
          go_wp2_with fail
          go_region
          go_wp2_with fail
          go_region
          go_wp2_with (first | (at_builtin; go_must (refine wpList_append_row _ rfl _ _ 32 rfl 31 i0 _ 3 40 Tryz.underlying32 hi hz0 hz1 hz2 rfl (.slice ob o.length cb) o.length _ rfl (HM.out.row.kept ((Keeps.refl (fun _ => False) wr).dr.dr.al _) (fun _ _ h => h)) ⟨wr.heap.size, 0, none⟩ 1 1 [.string xk, .string xv, .bool xg] rfl rfl (news_arr _ #[.string xk, .string xv, .bool xg] _) (by simp [Value.oneCell']) (by have := HL.out; unfold maxLen; omega) (by have := HL.out; omega) ?_; intro v' w1 hown' hgrow _ hat; obtain ⟨g1, cp1, rfl⟩ := hown'.succ; have HN1 := hid (HM.out.push (a := ⟨xk, xv, xg⟩) ((Keeps.refl (fun _ => False) wr).dr.dr.al _) hown' hgrow hat); have hsz_HN1 := HN1.out.keep.size; clear hown' hgrow hat)) | fail)
          exact ⟨⟨k + 1, o ++ [⟨xk, xv, xg⟩], true, by omega, by go_num, rfl, by rw [HNX.out, HS.out], HN1.out.slice (by simp)⟩, by simp only [intOf]; omega⟩
        | false =>
          cases hltk : ltK xk rk with
          | true =>
            have HS : Hid (placeStep ⟨rk, rv, rg⟩ (o, false) ⟨xk, xv, xg⟩ = (o ++ [⟨xk, xv, xg⟩], false)) := by show _ = _; simp [placeStep, HEQ.out, hltk]
            have hge : ∀ W, (binOp BinOp.geq 9 (.string xk) (.string rk)).run Tryz.prog W = .ok (.bool false) W := fun W => by rw [run_geq_str, hltk]; rfl
            clear hltk
            go_wp2_with fail
            go_region
            go_wp2_with fail
            go_region
            go_wp2_with (first | (at_builtin; go_must (refine wpList_append_row _ rfl _ _ 32 rfl 31 i0 _ 3 40 Tryz.underlying32 hi hz0 hz1 hz2 rfl (.slice ob o.length cb) o.length _ rfl (HM.out.row.kept ((Keeps.refl (fun _ => False) wr).dr.dr.al _) (fun _ _ h => h)) ⟨wr.heap.size, 0, none⟩ 1 1 [.string xk, .string xv, .bool xg] rfl rfl (news_arr _ #[.string xk, .string xv, .bool xg] _) (by simp [Value.oneCell']) (by have := HL.out; unfold maxLen; omega) (by have := HL.out; omega) ?_; intro v' w1 hown' hgrow _ hat; obtain ⟨g1, cp1, rfl⟩ := hown'.succ; have HN1 := hid (HM.out.push (a := ⟨xk, xv, xg⟩) ((Keeps.refl (fun _ => False) wr).dr.dr.al _) hown' hgrow hat); have hsz_HN1 := HN1.out.keep.size; clear hown' hgrow hat)) | fail)
            exact ⟨⟨k + 1, o ++ [⟨xk, xv, xg⟩], false, by omega, by go_num, rfl, by rw [HNX.out, HS.out], HN1.out.slice (by simp)⟩, by simp only [intOf]; omega⟩
          | false =>
            have HS : Hid (placeStep ⟨rk, rv, rg⟩ (o, false) ⟨xk, xv, xg⟩ = (o ++ [⟨rk, rv, rg⟩] ++ [⟨xk, xv, xg⟩], true)) := by show _ = _; simp [placeStep, HEQ.out, hltk]
            have hge : ∀ W, (binOp BinOp.geq 9 (.string xk) (.string rk)).run Tryz.prog W = .ok (.bool true) W := fun W => by rw [run_geq_str, hltk]; rfl
            clear hltk
            go_wp2_with fail
            go_region
            go_wp2_with (first | (at_builtin; go_must (refine wpList_append_row _ rfl _ _ 32 rfl 31 i0 _ 3 40 Tryz.underlying32 hi hz0 hz1 hz2 rfl (.slice ob o.length cb) o.length _ rfl (HM.out.row.kept ((Keeps.refl (fun _ => False) wr).dr.al _) (fun _ _ h => h)) ⟨wr.heap.size, 0, none⟩ 1 1 [.string rk, .string rv, .bool rg] rfl rfl (news_arr _ #[.string rk, .string rv, .bool rg] _) (by simp [Value.oneCell']) (by have := HL.out; unfold maxLen; omega) (by have := HL.out; omega) ?_; intro v' w1 hown' hgrow _ hat; obtain ⟨g1, cp1, rfl⟩ := hown'.succ; have HN1 := hid (HM.out.push (a := ⟨rk, rv, rg⟩) ((Keeps.refl (fun _ => False) wr).dr.al _) hown' hgrow hat); have hsz_HN1 := HN1.out.keep.size; clear hown' hgrow hat; have hbq := (HN1.out.keep.block w.heap.size (by simp) (fun h => h)).trans (heap_new w _); have e0 := cell_of_heap hbq 0; have e1 := cell_of_heap hbq 1; have e2 := cell_of_heap hbq 2; simp at e0 e1 e2; clear hbq; obtain ⟨d0, d1, d2⟩ := rec_at HR.out HN1.out.keep HX.out)) | fail)
            have HN1' := hid (HN1.out.slice (v' := .slice (some ⟨g1, 0, none⟩) (o.length + 1) cp1) (by simp))
            obtain ⟨o1, ho1⟩ : ∃ o1, o1 = o ++ [⟨rk, rv, rg⟩] := ⟨_, rfl⟩
            have hl1 : o.length + 1 = o1.length := by rw [ho1]; simp
            rw [hl1] at HN1' ⊢
            rw [← ho1] at HN1' HS
            have hol1 : o1.length < 1000000000001 := by omega
            clear HN1 ho1
            go_region
            go_wp2_with (first | (at_builtin; go_must (refine wpList_append_row _ rfl _ _ 32 rfl 31 i0 _ 3 40 Tryz.underlying32 hi hz0 hz1 hz2 rfl (.slice (some ⟨g1, 0, none⟩) o1.length cp1) o1.length _ rfl (HN1'.out.row.kept ((Keeps.refl (fun _ => False) w1).dr.al _) (fun _ _ h => h)) ⟨w1.heap.size, 0, none⟩ 1 1 [.string xk, .string xv, .bool xg] rfl rfl (news_arr _ #[.string xk, .string xv, .bool xg] _) (by simp [Value.oneCell']) (by have := HL.out; unfold maxLen; omega) (by have := HL.out; omega) ?_; intro v' w2 hown' hgrow _ hat; obtain ⟨g2, cp2, rfl⟩ := hown'.succ; have HN2 := hid (HN1'.out.push (a := ⟨xk, xv, xg⟩) ((Keeps.refl (fun _ => False) w1).dr.al _) hown' hgrow hat); have hsz_HN2 := HN2.out.keep.size; clear hown' hgrow hat)) | fail)
            exact ⟨⟨k + 1, o1 ++ [⟨xk, xv, xg⟩], true, by omega, by go_num, rfl, by rw [HNX.out, HS.out], HN2.out.slice (by simp)⟩, by simp only [intOf]; omega⟩
    · have hkl : l.take k = l := List.take_of_length_le (by omega)
      have HP' := hid (show placeTo l ⟨rk, rv, rg⟩ = (o, t) by rw [← HP.out, hkl])
      have hol' : o.length < 1000000000001 := by have := HL.out; omega
      clear hkl
      cases t with
      | true =>
        go_wp2
        go_ret
        refine ⟨_, rfl, ?_⟩
        have e : placedL l ⟨rk, rv, rg⟩ = o := by unfold placedL; rw [HP'.out]; rfl
        rw [e]
        exact HM.out.from hK0
      | false =>
        go_wp2_with (first | (at_builtin; go_must (refine wpList_append_row _ rfl _ _ 32 rfl 31 i0 _ 3 40 Tryz.underlying32 hi hz0 hz1 hz2 rfl (.slice ob o.length cb) o.length _ rfl (HM.out.row.kept (Keeps.alloc (fun _ => False) wr _) (fun _ _ h => h)) ⟨wr.heap.size, 0, none⟩ 1 1 [.string rk, .string rv, .bool rg] rfl rfl (news_arr _ #[.string rk, .string rv, .bool rg] _) (by simp [Value.oneCell']) (by have := HL.out; unfold maxLen; omega) (by have := HL.out; omega) ?_; intro v' w1 hown' hgrow _ hat; obtain ⟨g1, cp1, rfl⟩ := hown'.succ; have HN1 := hid (HM.out.push (a := ⟨rk, rv, rg⟩) (Keeps.alloc (fun _ => False) wr _) hown' hgrow hat); have hsz_HN1 := HN1.out.keep.size; clear hown' hgrow hat)) | fail)
        go_ret
        refine ⟨_, rfl, ?_⟩
        have e : placedL l ⟨rk, rv, rg⟩ = o ++ [⟨rk, rv, rg⟩] := by unfold placedL; rw [HP'.out]; rfl
        rw [e]
        exact (HN1.out.slice (by simp)).from hK0

end TR0

end Go.Proofs.YtkpaiaddikpdoaaGreatDoor

/- annalslaw: sameRecords of two lists that are the same. -/

namespace Go.Proofs.YtkpaiaddikpdoaaGreatDoor

open Go.RowKit Go.Shelf

attribute [local go_sem] Oper.semAt_some

set_option maxRecDepth 100000 in
set_option maxHeartbeats 2000000 in
theorem sameRecords_eq (oa ob : Option Addr) (ca cb : Nat) (l : List RecB) (w : World) (ha : RecIn w oa l) (hb : RecIn w ob l) (hl : l.length ≤ 1000000000) :
    Calls Tryz.prog 10 #[.slice oa l.length ca, .slice ob l.length cb] w fun e w' => e = .returned (.bool true) ∧ Keeps (fun _ => False) w w' := by
  have HA := hid ha
  have HB := hid hb
  have hlI : (l.length : Int) ≤ 1000000000 := by omega
  clear ha hb hl
  go_enter Tryz.func10, Tryz.ntmps10
  go_wp2_with fail
  go_loopw [5] (fun i wr => ∃ k : Nat, k ≤ l.length ∧ i = .int .i64 k ∧ Keeps (fun _ => False) w wr) (fun i _ => l.length - (intOf i).toNat)
  case atStart => exact ⟨0, Nat.zero_le _, rfl, Keeps.refl _ _⟩
  case round =>
    obtain ⟨k, hk, rfl, kr⟩ := hrel
    have HKR := hid kr
    have hkI : (k : Int) ≤ l.length := by omega
    clear kr
    by_cases hkl : k < l.length
    · obtain ⟨g, off, rfl, p0, p1, p2⟩ := HA.out.kept HKR.out k hkl
      obtain ⟨g2, off2, rfl, q0, q1, q2⟩ := HB.out.kept HKR.out k hkl
      have hklI : (k : Int) < l.length := by omega
      generalize l[k].key = rk at *
      generalize l[k].value = rv at *
      generalize l[k].gone = rg at *
      have HKL := hid hkl
      clear hk hkl
      go_wp2_with fail
      go_region
      go_wp2
      exact ⟨⟨k + 1, HKL.out, by go_num, HKR.out.dr⟩, by simp only [intOf]; have := HKL.out; omega⟩
    · have hkn : ¬ ((k : Int) < l.length) := by omega
      clear hk hkl
      go_wp2
      go_ret
      exact ⟨rfl, HKR.out⟩

end Go.Proofs.YtkpaiaddikpdoaaGreatDoor

/- annalslaw: num, mark (made by wip/tools/slice.py out of QH). -/

namespace Go.Proofs.YtkpaiaddikpdoaaGreatDoor

section TQH

open Go.RowKit Go.Shelf

theorem num_any (e : Int) (w : World) : Calls Tryz.prog 11 #[.int .i64 e] w fun r w' => r = .returned (.int .i64 e) ∧ w' = w := by
  go_enter Tryz.func11, Tryz.ntmps11
  go_wp2
  go_ret
  exact ⟨rfl, rfl⟩

/-- three bytes that were just laid, as a text -/
theorem three_bytes (w1 : World) (x y z : Int) : ∃ s : ByteArray, s.size = 3 ∧ ∀ W, W.heap = (w1.alloc (.cells #[.int .u8 x, .int .u8 y, .int .u8 z] 5)).heap → (convert 86 9 (.slice (some ⟨w1.heap.size, 0, none⟩) 3 3)).run Tryz.prog W = .ok (.string s) W := by
  refine ⟨[x, y, z].foldl (fun r n => r.push (UInt8.ofNat n.toNat)) ByteArray.empty, rfl, fun W hW => ?_⟩
  rw [run_convert_bytes_string W _ _ 5 _ _ _ Tryz.underlying86 Tryz.underlying5 Tryz.underlying9]
  refine run_bytesToString W _ 3 3 [x, y, z] ?_
  have h := run_loadCells_list (P := Tryz.prog) (w := W) ⟨w1.heap.size, 0, none⟩ ([x, y, z].map (Value.int .u8)) (fun j v hj => by
    rw [Addr.add_lit, Nat.zero_add]
    have hb : W.heap[w1.heap.size]? = some (.cells #[.int .u8 x, .int .u8 y, .int .u8 z] 5 (0, 0)) := by rw [hW]; exact heap_new w1 _
    rw [cell_of_heap hb]
    simpa using hj)
  exact h

set_option maxRecDepth 100000 in
set_option maxHeartbeats 1000000 in
theorem mark_any (bb : Nat) (vp vm vr vs : Value) (nx : Int) (w : World) (h : w.heap[bb]? = some (.cells #[vp, vm, vr, vs, .int .i64 nx] 28 (0, 0))) (h0 : 0 ≤ nx) (h1 : nx < 1000000000000) :
    Calls Tryz.prog 28 #[.pointer (some ⟨bb, 0, none⟩)] w fun e w' => ∃ m, e = .returned (.string m) ∧ Keeps (· = bb) w w' ∧ w'.heap[bb]? = some (.cells #[vp, vm, vr, vs, .int .i64 (nx + 1)] 28 (0, 0)) := by
  have c4 : w.cell? ⟨bb, 4, none⟩ = some (.int .i64 nx) := cell_of_heap h 4
  have f4 := frozen_of_heap h 4
  have HT : Hid ((w.setCell ⟨bb, 4, none⟩ (.int .i64 (nx + 1))).heap[bb]? = some (.cells #[vp, vm, vr, vs, .int .i64 (nx + 1)] 28 (0, 0))) := (heap_setCell_same h _).trans (by simp)
  clear h
  go_enter Tryz.func28, Tryz.ntmps28
  go_wp2_with fail
  have HK1 : Hid (Keeps (fun k => k = bb) w (w.setCell ⟨bb, 4, none⟩ (.int .i64 (nx + 1)))) := hid (Keeps.setCell w ⟨bb, 4, none⟩ _)
  generalize w.setCell ⟨bb, 4, none⟩ (.int .i64 (nx + 1)) = w1 at *
  have d4 : w1.cell? ⟨bb, 4, none⟩ = some (.int .i64 (nx + 1)) := cell_of_heap HT.out 4
  clear c4 f4
  obtain ⟨s, hsz, hs⟩ := three_bytes w1 ((nx + 1) % 256) ((nx + 1) / 256 % 256) ((nx + 1) / 65536 % 256)
  have hc := hs (w1.alloc (.cells #[.int .u8 ((nx + 1) % 256), .int .u8 ((nx + 1) / 256 % 256), .int .u8 ((nx + 1) / 65536 % 256)] 5)).drew rfl
  clear hs
  go_region
  all_goals
    go_wp2
    go_ret
    refine ⟨_, rfl, (HK1.out.al _).dr, ?_⟩
    exact ((Keeps.alloc (fun _ => False) w1 _).block bb (Array.getElem?_eq_some_iff.1 HT.out).1 (fun h => h)).trans HT.out

end TQH

end Go.Proofs.YtkpaiaddikpdoaaGreatDoor

/- The reader's numbers without bounds, and the last one. -/

namespace Go.Proofs.YtkpaiaddikpdoaaGreatDoor

open Go.RowKit Go.Shelf

theorem bnd_all (l : List UInt8) : bndR 0 34359738367 l = nrR l := by
  unfold bndR
  rcases h : nrR l with k | ⟨n, r⟩
  · rfl
  · have := (nrR_ok h).1
    rw [Rd.bind_ok, if_pos ⟨Nat.zero_le _, by omega⟩]

theorem bnd_one (n : Nat) (l : List UInt8) : bndR n n l = (nrR l).bind fun m r => if m = n then .ok m r else .bad l.length := by
  unfold bndR
  rcases h : nrR l with k | ⟨m, r⟩
  · rfl
  · rw [Rd.bind_ok, Rd.bind_ok]
    by_cases e : m = n
    · rw [if_pos e, if_pos (by omega)]
    · rw [if_neg e, if_neg (by omega)]

end Go.Proofs.YtkpaiaddikpdoaaGreatDoor

/- annalsref: a scan: block, where no records come. -/

namespace Go.Proofs.YtkpaiaddikpdoaaGreatDoor

open Go.RowKit Go.Shelf

attribute [local go_sem] Oper.semAt_some

set_option maxRecDepth 100000 in
set_option maxHeartbeats 2000000 in
theorem scBlock_none (sb : Nat) (text : ByteArray) (l : List UInt8) (w : World) (h : ScL w sb text l) (hts : text.size ≤ 1000000000000) (h0 : ∀ n r, bndR 0 4 l = .ok n r → n = 0) :
    Calls Tryz.prog 26 #[.pointer (some ⟨sb, 0, none⟩)] w fun e w' => e = .returned (.slice none 0 0) ∧ (match bndR 0 4 l with
      | .inr (_, r) => ScL w' sb text r
      | .inl _ => ScBad w' sb text (text.size - l.length)) ∧ Keeps (· = sb) w w' := by
  have HN := hid (scNum_any sb text l 0 4 w h hts (by omega) (by omega))
  obtain ⟨c0, c1, c2, f1, f2⟩ := h.2.facts
  rcases hx : bndR 0 4 l with k | ⟨n, r⟩
  · rw [hx] at HN
    clear h hts h0 hx
    go_enter Tryz.func26, Tryz.ntmps26
    go_wp2_with fail
    refine HN.out.mono ?_
    rintro e w1 ⟨⟨rfl, h1⟩, k1⟩
    have H1 := hid h1
    have HK := hid k1
    clear h1 k1 HN c0 c1 c2 f1 f2
    go_wp2
    go_ret
    exact ⟨rfl, H1.out, HK.out⟩
  · obtain rfl := h0 n r hx
    rw [hx] at HN
    clear h hts h0 hx
    go_enter Tryz.func26, Tryz.ntmps26
    go_wp2_with fail
    refine HN.out.mono ?_
    rintro e w1 ⟨⟨rfl, h1⟩, k1⟩
    have H1 := hid h1
    have HK := hid k1
    clear h1 k1 HN c0 c1 c2 f1 f2
    go_wp2
    go_ret
    exact ⟨rfl, H1.out, HK.out⟩

end Go.Proofs.YtkpaiaddikpdoaaGreatDoor
