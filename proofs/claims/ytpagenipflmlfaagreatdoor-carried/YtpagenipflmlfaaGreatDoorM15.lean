import Derived.Test.YtpagenipflmlfaaGreatDoorM14

/- A reader: number, walked. -/

namespace Go.Proofs.YtpagenipflmlfaaGreatDoor

open Go.RowKit Go.Shelf

theorem or_digit {k acc x : Nat} (h5 : k < 5) (ha : acc < 128 ^ k) (hx : x < 128) : bits BinOp.or IntKind.i64 (acc : Int) ((x * 128 ^ k : Nat) : Int) = ((acc + x * 128 ^ k : Nat) : Int) := by
  have e : 128 ^ k = 2 ^ (7 * k) := by rw [Nat.pow_mul]
  have h4 : 128 ^ k ≤ 128 ^ 4 := Nat.pow_le_pow_right (by omega) (by omega)
  have h6 : x * 128 ^ k ≤ 127 * 128 ^ 4 := Nat.mul_le_mul (by omega) h4
  have h := (bits_nat .i64 63 (by simp [IntKind.bits]) (fun n h0 h1 => by rw [IntKind.wrap_i64]; omega) acc (x * 128 ^ k) (by omega) (by omega)).2
  rw [h, e, Nat.mul_comm x, Nat.or_comm, ← Nat.two_pow_add_eq_or_of_lt (by rw [← e]; exact ha), Nat.add_comm]

theorem or_shift {k acc d : Nat} (h5 : k < 5) (ha : acc < 128 ^ k) : bits BinOp.or IntKind.i64 (acc : Int) (wrap64 ((d : Int) % 128 * 2 ^ (7 * k))) = ((acc + d % 128 * 128 ^ k : Nat) : Int) := by
  have e : 128 ^ k = 2 ^ (7 * k) := by rw [Nat.pow_mul]
  have h4 : 128 ^ k ≤ 128 ^ 4 := Nat.pow_le_pow_right (by omega) (by omega)
  have h6 : d % 128 * 128 ^ k ≤ 127 * 128 ^ 4 := Nat.mul_le_mul (by omega) h4
  have hw : ((d : Int) % 128 * 2 ^ (7 * k)) = ((d % 128 * 128 ^ k : Nat) : Int) := by
    rw [e]
    push_cast
    rfl
  rw [hw, IntWalk.wrap64_in _ (by omega)]
  exact or_digit h5 ha (by omega)

theorem restL_get {text : ByteArray} {at_ k : Nat} (h : k < (restL text at_).length) (h2 : at_ + k < text.size) : (restL text at_)[k] = text[at_ + k] := by
  simp only [restL, List.getElem_drop]
  rfl

/-- a fault, made where the world has only drawn -/
theorem rd_fault {α : Type} {enc : α → Value} {zero : Value} {rb count at_ g : Nat} {text : ByteArray} {rv : Value} {x : Rd α} {w wr wd : World} {t : TypeId} {u : Value} (hx : x = .bad (restL text at_).length) (hat : at_ ≤ text.size) (hg : NoSum g) (he : ErrsAt w) (hk : Keeps (fun _ => False) w wr) (hgr : wr.cell? ⟨g, 0, none⟩ = some (.iface t u)) (hd : Keeps (fun _ => False) wr wd) :
    RdPost enc zero rb text count rv x w (.returned (.tuple #[zero, .iface 173 (.pointer (some ⟨wd.heap.size, 0, none⟩))])) (wd.alloc (.cells #[.int .i64 (at_ : Int), .iface t u] 175)) := by
  subst hx
  have hp : text.size - (restL text at_).length = at_ := by rw [restL_len]; omega
  have h1 := hk.size
  have h2 := hd.size
  have hc : w.cell? ⟨g, 0, none⟩ = some (.iface t u) := by
    obtain ⟨t', u', h'⟩ := he g hg
    have := hk.cell h' (fun h => h)
    rw [this] at hgr
    rw [h']
    exact hgr
  refine ⟨⟨_, rfl, _, t, u, g, rfl, by omega, ?_, hg, hc⟩, ?_⟩
  · rw [hp]
    exact heap_new _ _
  · exact ((hk.tr hd (fun _ h => h)).al _).mono (fun _ _ h => h.elim)

theorem rd_done {α : Type} {enc : α → Value} {zero : Value} {rb count at_ n : Nat} {text : ByteArray} {rv v : Value} {x : Rd α} {a : α} {w wr wd : World} (hx : x = .ok a ((restL text at_).drop n)) (hat : at_ + n ≤ text.size) (hv : v = enc a) (hb : wr.heap[rb]? = some (.cells #[.string text, .int .i64 (at_ : Nat), .int .i64 (count : Nat), rv] 177 (0, 0))) (hk : Keeps (fun _ => False) w wr) (u : Value) (hu : u = .int .i64 ((at_ + n : Nat) : Int)) (hd : Keeps (fun _ => False) (wr.setCell ⟨rb, 1, none⟩ u) wd) :
    RdPost enc zero rb text count rv x w (.returned (.tuple #[v, .nilIface])) wd := by
  subst hx
  subst hv
  subst hu
  have hp : text.size - ((restL text at_).drop n).length = at_ + n := by rw [List.length_drop, restL_len]; omega
  have hs : (wr.setCell ⟨rb, 1, none⟩ (.int .i64 ((at_ + n : Nat) : Int))).heap[rb]? = some (.cells #[.string text, .int .i64 ((at_ + n : Nat) : Int), .int .i64 (count : Nat), rv] 177 (0, 0)) := by rw [heap_setCell_same hb]; simp
  refine ⟨rfl, ?_, ?_⟩
  · rw [hp]
    exact (hd.block rb (Array.getElem?_eq_some_iff.1 hs).1 (fun h => h)).trans hs
  · exact (hk.mono (fun _ _ h => h.elim)).trans ((Keeps.setCell wr ⟨rb, 1, none⟩ _).trans hd (fun _ _ h => h.elim)) (fun k _ e => e)

set_option maxRecDepth 100000 in
set_option maxHeartbeats 2000000 in
theorem rnumber_any (rb : Nat) (text : ByteArray) (at_ count : Nat) (rv : Value) (w : World) (h : RdAt w rb text at_ count rv) (hat : at_ ≤ text.size) (hts : text.size ≤ 1000000000000) (he : ErrsAt w) :
    Calls Tryz.prog 136 #[.pointer (some ⟨rb, 0, none⟩)] w (RdPost (fun n : Nat => .int .i64 (n : Int)) (.int .i64 0) rb text count rv (nrR (restL text at_)) w) := by
  have HB := hid h
  have HE := hid he
  have hlen := restL_len text at_
  have HI0 : Hid (NumAt (restL text at_) 0 0) := ⟨by omega, by omega, by simp, rfl⟩
  have HLN := hid hlen
  have htsI : (text.size : Int) ≤ 1000000000000 := by omega
  have HTS := hid hts
  clear h he hlen hts
  go_enter Tryz.func136, Tryz.ntmps136
  go_wp2_with fail
  go_loopw [4, 7] (fun z i wr => ∃ k acc : Nat, i = .int .i64 (k : Int) ∧ z = .int .i64 (acc : Int) ∧ NumAt (restL text at_) k acc ∧ Keeps (fun _ => False) w wr) (fun _ i _ => 5 - (intOf i).toNat)
  case atStart => exact ⟨0, 0, rfl, rfl, HI0.out, Keeps.refl _ _⟩
  case round =>
    obtain ⟨k, acc, rfl, rfl, hN, hk⟩ := hrel
    have hb : wr.heap[rb]? = _ := (hk.block rb (Array.getElem?_eq_some_iff.1 HB.out).1 (fun h => h)).trans HB.out
    have c0 : wr.cell? ⟨rb, 0, none⟩ = some (.string text) := cell_of_heap hb 0
    have c1 : wr.cell? ⟨rb, 1, none⟩ = some (.int .i64 (at_ : Nat)) := cell_of_heap hb 1
    have f1 : wr.frozen? ⟨rb, 1, none⟩ = false := frozen_of_heap hb 1
    have HBR := hid hb
    have h5 := hN.five
    have HK := hid hk
    have HN := hid hN
    obtain ⟨t11, u11, g11⟩ := (HE.out 11 (by unfold NoSum; omega)).kept hk
    obtain ⟨t10, u10, g10⟩ := (HE.out 10 (by unfold NoSum; omega)).kept hk
    clear hb hk hN
    by_cases hk5 : k < 5
    · by_cases hend : at_ + k = text.size
      · have HNR : Hid (nrR (restL text at_) = .bad (restL text at_).length) := HN.out.cut (by have := HLN.out; omega)
        have heq : ((at_ : Int) + (k : Int) == (text.size : Int)) = true := by
          rw [beq_iff_eq]
          omega
        clear HN
        go_wp2
        go_region
        go_wp2
        go_region
        go_wp2
        go_ret2
        exact rd_fault HNR.out hat (by unfold NoSum; omega) HE.out HK.out g10 (((Keeps.refl _ _).dr).dr)
      · have hlt : at_ + k < text.size := by
          have h1 := HN.out.len
          have h2 := HLN.out
          omega
        have hne : ((at_ : Int) + (k : Int) == (text.size : Int)) = false := by
          rw [beq_eq_false_iff_ne]
          omega
        have hix : ∀ W, (Instr.index 9 (.string text) (.int .i64 ((at_ : Int) + (k : Int)))).run Tryz.prog W = .ok (.int .u8 (text[at_ + k].toNat : Nat)) W := fun W => by
          rw [run_index_string W 9 text .i64 _ Tryz.underlying9, dif_pos ⟨by omega, by omega⟩]
          have hn : ((at_ : Int) + (k : Int)).toNat = at_ + k := by omega
          simp only [hn]
        have hrl : k < (restL text at_).length := by have := HLN.out; omega
        have hget := restL_get hrl hlt
        have hZ := fun h1 h2 => HN.out.zero hk5 hrl h1 h2
        have hL := fun h1 h2 => HN.out.last hk5 hrl h1 h2
        have hX := fun h1 => HN.out.next hk5 hrl h1
        rw [hget] at hZ hL hX
        have hd : text[at_ + k].toNat < 256 := UInt8.toNat_lt _
        have HO := hid (or_shift (d := text[at_ + k].toNat) hk5 HN.out.low)
        have HZ := hid hZ
        have HL := hid hL
        have HX := hid hX
        have e1 := and127 hd
        have HA : Hid (at_ + (k + 1) ≤ text.size) := by show _ ≤ _; omega
        clear hget hrl hZ hL hX h5
        generalize text[at_ + k].toNat = d at *
        have hdI : (d : Int) < 256 := by omega
        by_cases h0 : d = 0
        · by_cases hk0 : 0 < k
          · have HNR := hid (HZ.out h0 hk0)
            have hk0I : (0 : Int) < k := by omega
            clear HZ HL HX HO HA
            subst h0
            go_wp2
            go_region
            go_wp2
            go_region
            go_wp2
            go_region
            go_wp2
            go_ret2
            exact rd_fault HNR.out hat (by unfold NoSum; omega) HE.out HK.out g11 (((Keeps.refl _ _).dr).dr.dr)
          · have hk0I : ¬ (0 : Int) < k := by omega
            have HNR := hid (HL.out (by omega) (fun h => hk0 h.2))
            have HV : Hid (bits BinOp.or IntKind.i64 (acc : Int) 0 = ((acc + 0 * 128 ^ k : Nat) : Int)) := by
              have := HO.out
              rw [h0, show ((0 : Nat) : Int) % 128 * 2 ^ (7 * k) = 0 by simp, IntWalk.wrap64_in 0 (by omega)] at this
              show _ = _
              simpa using this
            clear HZ HL HX HO
            subst h0
            have e0 : bits BinOp.and IntKind.u8 0 127 = 0 := by simpa using e1
            clear e1
            go_wp2
            go_region
            go_wp2
            go_region
            go_wp2
            go_ret2
            exact rd_done HNR.out HA.out (by show Value.int .i64 _ = _; rw [HV.out]) HBR.out HK.out _ (congrArg _ (by omega)) (((Keeps.refl _ _).dr).dr)
        · by_cases h128 : d < 128
          · have HV : Hid (bits BinOp.or IntKind.i64 (acc : Int) (wrap64 ((d : Int) * 2 ^ (7 * k))) = ((acc + d * 128 ^ k : Nat) : Int)) := by
              have := HO.out
              rw [Nat.mod_eq_of_lt h128, show (d : Int) % 128 = d by omega] at this
              exact this
            have hm : d % 128 = d := Nat.mod_eq_of_lt h128
            have h128I : (d : Int) < 128 := by omega
            have h0I : ((d : Int) == 0) = false := by rw [beq_eq_false_iff_ne]; omega
            have HNR := hid (HL.out h128 (fun h => h0 h.1))
            have h0P : ¬ (d : Int) = 0 := by omega
            clear HZ HL HX HO
            go_wp2
            go_region
            go_wp2
            go_region
            go_wp2
            go_ret2
            exact rd_done HNR.out HA.out (by show Value.int .i64 _ = _; rw [HV.out]) HBR.out HK.out _ (congrArg _ (by omega)) (((Keeps.refl _ _).dr).dr)
          · have h128I : (128 : Int) ≤ d := by omega
            have HV : Hid (bits BinOp.or IntKind.i64 (acc : Int) (wrap64 ((d : Int) % 128 * 2 ^ (7 * k))) = ((acc + (d - 128) * 128 ^ k : Nat) : Int)) := by
              have := HO.out
              rw [show d % 128 = d - 128 by omega] at this
              exact this
            have HNX := hid (HX.out h128)
            clear HZ HL HX HO
            go_wp2
            go_region
            go_wp2
            go_region
            go_wp2
            exact ⟨⟨k + 1, acc + (d - 128) * 128 ^ k, by go_num, by rw [HV.out], HNX.out, HK.out.dr.dr⟩, by simp only [intOf]; omega⟩
    · obtain rfl : k = 5 := by omega
      have HNR := hid HN.out.full
      clear HN
      go_wp2
      go_region
      go_wp2
      go_ret2
      exact rd_fault HNR.out hat (by unfold NoSum; omega) HE.out HK.out g11 ((Keeps.refl _ _).dr)

end Go.Proofs.YtpagenipflmlfaaGreatDoor

/- A reader: bounded. -/

namespace Go.Proofs.YtpagenipflmlfaaGreatDoor

open Go.RowKit Go.Shelf

theorem ErrsAt.kept {w w' : World} {S : Nat → Prop} (h : ErrsAt w) (hk : Keeps S w w') (hS : ∀ g, g < 16 → ¬ S g) : ErrsAt w' := fun g hg => by
  obtain ⟨t, u, hc⟩ := h g hg
  refine ⟨t, u, hk.cell hc (hS g ?_)⟩
  unfold NoSum at hg
  omega

theorem nrR_lt {l : List UInt8} {n : Nat} {r : List UInt8} (h : nrR l = .ok n r) : n < 34359738368 ∧ r.length < l.length := by
  unfold nrR at h
  split at h
  · cases h
  · rename_i x hx
    have := numAt_some hx
    cases h
    rw [List.length_drop]
    omega

/-- a fault further on -/
theorem Flt.on {w w1 w2 : World} {v : Value} {p : Nat} {S : Nat → Prop} (h : Flt w w1 v p) (hk : Keeps S w1 w2) (hS : ∀ k, w.heap.size ≤ k → ¬ S k) : Flt w w2 v p := by
  obtain ⟨b, t, u, g, h1, h2, h3, h4, h5⟩ := h
  exact ⟨b, t, u, g, h1, h2, (hk.block b (Array.getElem?_eq_some_iff.1 h3).1 (hS b h2)).trans h3, h4, h5⟩

set_option maxRecDepth 100000 in
set_option maxHeartbeats 2000000 in
theorem bounded_any (rb : Nat) (text : ByteArray) (at_ count least most : Nat) (rv : Value) (w : World) (h : RdAt w rb text at_ count rv) (hat : at_ ≤ text.size) (hts : text.size ≤ 1000000000000) (hrb : 16 ≤ rb) (he : ErrsAt w) :
    Calls Tryz.prog 156 #[.pointer (some ⟨rb, 0, none⟩), .int .i64 (least : Nat), .int .i64 (most : Nat)] w (RdPost (fun n : Nat => .int .i64 (n : Int)) (.int .i64 0) rb text count rv (bndR least most (restL text at_)) w) := by
  have c1 : w.cell? ⟨rb, 1, none⟩ = some (.int .i64 (at_ : Nat)) := cell_of_heap h 1
  have hn := rnumber_any rb text at_ count rv w h hat hts he
  have hlen := restL_len text at_
  rcases hx : nrR (restL text at_) with left | ⟨n, rest⟩
  · rw [hx] at hn
    have e : bndR least most (restL text at_) = .bad left := by unfold bndR; rw [hx]; rfl
    rw [e]
    have HN := hid hn
    clear hn h he hat hts hlen hx e hrb
    go_enter Tryz.func156, Tryz.ntmps156
    go_wp2_with (go_at_call 136; go_must (refine HN.out.mono ?_; rintro e w1 ⟨⟨v, rfl, hf⟩, k1⟩; obtain ⟨b, t, u, g, rfl, hf2⟩ := hf; have HF := hid hf2; have K1 := hid k1; clear hf2 k1))
    go_ret2
    exact ⟨⟨_, rfl, b, t, u, g, rfl, HF.out⟩, K1.out⟩
  · rw [hx] at hn
    by_cases hin : least ≤ n ∧ n ≤ most
    · have e : bndR least most (restL text at_) = .ok n rest := by
        unfold bndR
        rw [hx]
        show (if least ≤ n ∧ n ≤ most then _ else _) = _
        rw [if_pos hin]
      rw [e]
      have hi1 : ¬ (n : Int) < least := by omega
      have hi2 : ¬ (most : Int) < n := by omega
      have HN := hid hn
      clear hn h he hat hts hlen hx e hrb hin
      go_enter Tryz.func156, Tryz.ntmps156
      go_wp2_with (go_at_call 136; go_must (refine HN.out.mono ?_; rintro e w1 ⟨rfl, r1, k1⟩; have R1 := hid r1; have K1 := hid k1; clear r1 k1))
      go_ret2
      exact ⟨rfl, R1.out, K1.out⟩
    · have e : bndR least most (restL text at_) = .bad (restL text at_).length := by
        unfold bndR
        rw [hx]
        show (if least ≤ n ∧ n ≤ most then _ else _) = _
        rw [if_neg hin]
      rw [e, hlen]
      have hp : text.size - (text.size - at_) = at_ := by omega
      have HP := hid hp
      have HN := hid hn
      have HE := hid he
      have HG : Hid (∀ w1, Keeps (· = rb) w w1 → ErrsAt w1) := fun w1 k1 => he.kept k1 (fun g hg e => by have e' : g = rb := e; omega)
      have hfin : ∀ w1 wd t u, Keeps (· = rb) w w1 → Keeps (fun _ => False) w1 wd → w1.cell? ⟨15, 0, none⟩ = some (.iface t u) → RdPost (fun n : Nat => .int .i64 (n : Int)) (.int .i64 0) rb text count rv (.bad (text.size - at_)) w (.returned (.tuple #[.int .i64 0, .iface 173 (.pointer (some ⟨wd.heap.size, 0, none⟩))])) (wd.alloc (.cells #[.int .i64 (at_ : Int), .iface t u] 175)) := fun w1 wd t u k1 k2 hc => by
        have h1 := k1.size
        have h2 := k2.size
        have hc0 : w.cell? ⟨15, 0, none⟩ = some (.iface t u) := by
          obtain ⟨t', u', h'⟩ := HE.out 15 (by unfold NoSum; omega)
          have := k1.cell h' (fun e => by have e' : (15 : Nat) = rb := e; omega)
          rw [this] at hc
          rw [h']
          exact hc
        refine ⟨⟨_, rfl, _, t, u, 15, rfl, by omega, ?_, (by unfold NoSum; omega), hc0⟩, ?_⟩
        · rw [HP.out]
          exact heap_new _ _
        · exact (k1.trans k2 (fun _ _ h => h.elim)).al _
      have HFIN := hid hfin
      have hor : (n : Int) < least ∨ (¬ (n : Int) < least ∧ (most : Int) < n) := by omega
      clear hn h he hat hts hlen hx e hrb hp hfin hin
      rcases hor with h1 | ⟨h1, h2⟩
      · go_enter Tryz.func156, Tryz.ntmps156
        go_wp2_with (go_at_call 136; go_must (refine HN.out.mono ?_; rintro e w1 ⟨rfl, r1, k1⟩; obtain ⟨t, u, g15⟩ := HG.out w1 k1 15 (by unfold NoSum; omega); have R1 := hid r1; have K1 := hid k1; clear r1 k1))
        go_region
        go_wp2
        go_ret2
        exact HFIN.out w1 _ t u K1.out ((Keeps.refl _ _).dr) g15
      · go_enter Tryz.func156, Tryz.ntmps156
        go_wp2_with (go_at_call 136; go_must (refine HN.out.mono ?_; rintro e w1 ⟨rfl, r1, k1⟩; obtain ⟨t, u, g15⟩ := HG.out w1 k1 15 (by unfold NoSum; omega); have R1 := hid r1; have K1 := hid k1; clear r1 k1))
        go_region
        go_wp2
        go_ret2
        exact HFIN.out w1 _ t u K1.out ((Keeps.refl _ _).dr) g15

end Go.Proofs.YtpagenipflmlfaaGreatDoor

/- A reader: kind. -/

namespace Go.Proofs.YtpagenipflmlfaaGreatDoor

open Go.RowKit Go.Shelf

theorem ofL_ne {a : List UInt8} {b : Array UInt8} (h : a ≠ b.toList) : ((ofL a).toList == (⟨b⟩ : ByteArray).toList) = false := by
  refine (Lib.bytes_beq_false_iff _ _).2 (fun e => h ?_)
  have := congrArg (fun x : ByteArray => x.data.toList) e
  exact this

/-- a fault that is made behind a call -/
theorem rd_fault2 {α : Type} {enc : α → Value} {zero : Value} {rb count place left g : Nat} {text : ByteArray} {rv : Value} {w w1 wd : World} {t : TypeId} {u : Value} (hp : text.size - left = place) (hg : NoSum g) (hrb : 16 ≤ rb) (he : ErrsAt w) (k1 : Keeps (· = rb) w w1) (hc : w1.cell? ⟨g, 0, none⟩ = some (.iface t u)) (k2 : Keeps (fun _ => False) w1 wd) :
    RdPost enc zero rb text count rv (.bad left) w (.returned (.tuple #[zero, .iface 173 (.pointer (some ⟨wd.heap.size, 0, none⟩))])) (wd.alloc (.cells #[.int .i64 (place : Int), .iface t u] 175)) := by
  have h1 := k1.size
  have h2 := k2.size
  have hc0 : w.cell? ⟨g, 0, none⟩ = some (.iface t u) := by
    obtain ⟨t', u', h'⟩ := he g hg
    have hlt : g < 16 := by unfold NoSum at hg; omega
    have := k1.cell h' (fun e => by have e' : g = rb := e; omega)
    rw [this] at hc
    rw [h']
    exact hc
  refine ⟨⟨_, rfl, _, t, u, g, rfl, by omega, ?_, hg, hc0⟩, ?_⟩
  · rw [hp]
    exact heap_new _ _
  · exact (k1.trans k2 (fun _ _ h => h.elim)).al _

set_option maxRecDepth 100000 in
set_option maxHeartbeats 2000000 in
theorem kind_any (rb : Nat) (text : ByteArray) (count : Nat) (rv : Value) (w : World) (h : RdAt w rb text 0 count rv) (hts : text.size ≤ 1000000000000) (hrb : 16 ≤ rb) (he : ErrsAt w) :
    Calls Tryz.prog 135 #[.pointer (some ⟨rb, 0, none⟩)] w (RdPost (fun b : Bool => .bool b) (.bool false) rb text count rv (kindR (restL text 0)) w) := by
  have hn := take_any rb text 0 count 4 rv w h (Nat.zero_le _) hts (by omega) he
  have hlen := restL_len text 0
  rcases hx : takeR 4 (restL text 0) with left | ⟨y, rest⟩
  · rw [hx] at hn
    have e : kindR (restL text 0) = .bad left := by unfold kindR; rw [hx]; rfl
    rw [e]
    have HN := hid hn
    clear hn h he hts hlen hx e hrb
    go_enter Tryz.func135, Tryz.ntmps135
    go_wp2_with (go_at_call 155; go_must (refine HN.out.mono ?_; rintro e w1 ⟨⟨v, rfl, hf⟩, k1⟩; obtain ⟨b, t, u, g, rfl, hf2⟩ := hf; have HF := hid hf2; have K1 := hid k1; clear hf2 k1))
    go_ret2
    exact ⟨⟨_, rfl, b, t, u, g, rfl, HF.out⟩, K1.out⟩
  · rw [hx] at hn
    have e : kindR (restL text 0) = if y = kindL true then .ok true rest else if y = kindL false then .ok false rest else .bad (restL text 0).length := by unfold kindR; rw [hx]; rfl
    rw [e]
    by_cases h1 : y = kindL true
    · rw [if_pos h1]
      rw [h1] at hn
      have hn' : Calls Tryz.prog 155 #[.pointer (some ⟨rb, 0, none⟩), .int .i64 4] w fun e w' => e = .returned (.tuple #[.string ⟨#[65, 78, 78, 70]⟩, .nilIface]) ∧ RdAt w' rb text (text.size - rest.length) count rv ∧ Keeps (· = rb) w w' := hn
      have HN := hid hn'
      clear hn hn' h he hts hlen hx e hrb h1
      go_enter Tryz.func135, Tryz.ntmps135
      go_wp2_with (go_at_call 155; go_must (refine HN.out.mono ?_; rintro e w1 ⟨rfl, r1, k1⟩; have R1 := hid r1; have K1 := hid k1; clear r1 k1))
      go_ret2
      exact ⟨rfl, R1.out, K1.out⟩
    · rw [if_neg h1]
      by_cases h2 : y = kindL false
      · rw [if_pos h2]
        rw [h2] at hn
        have hn' : Calls Tryz.prog 155 #[.pointer (some ⟨rb, 0, none⟩), .int .i64 4] w fun e w' => e = .returned (.tuple #[.string ⟨#[65, 78, 78, 68]⟩, .nilIface]) ∧ RdAt w' rb text (text.size - rest.length) count rv ∧ Keeps (· = rb) w w' := hn
        have HN := hid hn'
        clear hn hn' h he hts hlen hx e hrb h1 h2
        go_enter Tryz.func135, Tryz.ntmps135
        go_wp2_with (go_at_call 155; go_must (refine HN.out.mono ?_; rintro e w1 ⟨rfl, r1, k1⟩; have R1 := hid r1; have K1 := hid k1; clear r1 k1))
        go_ret2
        exact ⟨rfl, R1.out, K1.out⟩
      · rw [if_neg h2, hlen]
        have b1 : ((ofL y).toList == (⟨#[65, 78, 78, 70]⟩ : ByteArray).toList) = false := ofL_ne h1
        have b2 : ((ofL y).toList == (⟨#[65, 78, 78, 68]⟩ : ByteArray).toList) = false := ofL_ne h2
        have hn' : Calls Tryz.prog 155 #[.pointer (some ⟨rb, 0, none⟩), .int .i64 4] w fun e w' => e = .returned (.tuple #[.string (ofL y), .nilIface]) ∧ RdAt w' rb text (text.size - rest.length) count rv ∧ Keeps (· = rb) w w' := hn
        have HN := hid hn'
        have HG : Hid (∀ w1, Keeps (· = rb) w w1 → ErrsAt w1) := fun w1 k1 => he.kept k1 (fun g hg e => by have e' : g = rb := e; omega)
        have HE := hid he
        have hp : text.size - (text.size - 0) = 0 := by omega
        have HP := hid hp
        have HRB := hid hrb
        clear hn hn' h he hts hlen hx e hrb h1 h2 hp
        generalize ofL y = z at *
        have d1 : (z.toList == [65, 78, 78, 70]) = false := by
          have e : (⟨#[65, 78, 78, 70]⟩ : ByteArray).toList = [65, 78, 78, 70] := by simp
          rwa [e] at b1
        have d2 : (z.toList == [65, 78, 78, 68]) = false := by
          have e : (⟨#[65, 78, 78, 68]⟩ : ByteArray).toList = [65, 78, 78, 68] := by simp
          rwa [e] at b2
        have q1 : ¬ z.toList = [65, 78, 78, 70] := fun e => by rw [e] at d1; simp at d1
        have q2 : ¬ z.toList = [65, 78, 78, 68] := fun e => by rw [e] at d2; simp at d2
        clear b1 b2
        go_enter Tryz.func135, Tryz.ntmps135
        go_wp2_with (go_at_call 155; go_must (refine HN.out.mono ?_; rintro e w1 ⟨rfl, r1, k1⟩; obtain ⟨t, u, g9⟩ := HG.out w1 k1 9 (by unfold NoSum; omega); have R1 := hid r1; have K1 := hid k1; clear r1 k1))
        go_region
        go_wp2
        go_ret2
        exact rd_fault2 HP.out (by unfold NoSum; omega) HRB.out HE.out K1.out g9 ((Keeps.refl _ _).dr)

end Go.Proofs.YtpagenipflmlfaaGreatDoor

/- A reader: tail. -/

namespace Go.Proofs.YtpagenipflmlfaaGreatDoor

open Go.RowKit Go.Shelf

/-- what a reading function leaves that gives an error only -/
def RdPost1 {α : Type} (rb : Nat) (text : ByteArray) (count : Nat) (rv : Value) (x : Rd α) (w : World) (e : Ending) (w' : World) : Prop := match x with
  | .inl left => (∃ v, e = .returned v ∧ Flt w w' v (text.size - left)) ∧ Keeps (· = rb) w w'
  | .inr (_, rest) => e = .returned .nilIface ∧ RdAt w' rb text (text.size - rest.length) count rv ∧ Keeps (· = rb) w w'

theorem rd_fault3 {α : Type} {rb count place left g : Nat} {text : ByteArray} {rv : Value} {w w1 wd : World} {t : TypeId} {u : Value} (hp : text.size - left = place) (hg : NoSum g) (hrb : 16 ≤ rb) (he : ErrsAt w) (k1 : Keeps (· = rb) w w1) (hc : w1.cell? ⟨g, 0, none⟩ = some (.iface t u)) (k2 : Keeps (fun _ => False) w1 wd) :
    RdPost1 (α := α) rb text count rv (.bad left) w (.returned (.iface 173 (.pointer (some ⟨wd.heap.size, 0, none⟩)))) (wd.alloc (.cells #[.int .i64 (place : Int), .iface t u] 175)) := by
  obtain ⟨⟨v, e, h⟩, hk⟩ := rd_fault2 (α := α) (enc := fun _ => .nilIface) (zero := .nilIface) (count := count) (rv := rv) hp hg hrb he k1 hc k2
  have e' : v = .iface 173 (.pointer (some ⟨wd.heap.size, 0, none⟩)) := by
    simp at e
    exact e.symm
  subst e'
  exact ⟨⟨_, rfl, h⟩, hk⟩

set_option maxRecDepth 100000 in
set_option maxHeartbeats 2000000 in
theorem rtail_any (rb : Nat) (text : ByteArray) (at_ count : Nat) (rv : Value) (w : World) (h : RdAt w rb text at_ count rv) (hat : at_ ≤ text.size) (hts : text.size ≤ 1000000000000) (hrb : 16 ≤ rb) (he : ErrsAt w) :
    Calls Tryz.prog 138 #[.pointer (some ⟨rb, 0, none⟩)] w (RdPost1 rb text count rv (tailR count (restL text at_)) w) := by
  have c1 : w.cell? ⟨rb, 1, none⟩ = some (.int .i64 (at_ : Nat)) := cell_of_heap h 1
  have hn := rnumber_any rb text at_ count rv w h hat hts he
  have hlen := restL_len text at_
  have HRB := hid hrb
  have HE := hid he
  have HG : Hid (∀ w1, Keeps (· = rb) w w1 → ErrsAt w1) := fun w1 k1 => he.kept k1 (fun g hg e => by have e' : g = rb := e; omega)
  rcases hx : nrR (restL text at_) with left | ⟨n, rest⟩
  · rw [hx] at hn
    have e : tailR count (restL text at_) = .bad left := by unfold tailR; rw [hx]; rfl
    rw [e]
    have HN := hid hn
    clear hn h he hat hts hlen hx e hrb
    go_enter Tryz.func138, Tryz.ntmps138
    go_wp2_with (go_at_call 136; go_must (refine HN.out.mono ?_; rintro e w1 ⟨⟨v, rfl, hf⟩, k1⟩; obtain ⟨b, t, u, g, rfl, hf2⟩ := hf; have HF := hid hf2; have K1 := hid k1; clear hf2 k1))
    go_ret
    exact ⟨⟨_, rfl, b, t, u, g, rfl, HF.out⟩, K1.out⟩
  · rw [hx] at hn
    obtain ⟨-, hrl⟩ := nrR_lt hx
    have hr : rest.length ≤ text.size := by omega
    have e : tailR count (restL text at_) = if n = count then (if rest = [] then .ok () rest else .bad rest.length) else .bad (restL text at_).length := by unfold tailR; rw [hx]; rfl
    rw [e]
    have HN := hid hn
    by_cases h1 : n = count
    · subst h1
      rw [if_pos rfl]
      by_cases h2 : rest = []
      · subst h2
        rw [if_pos rfl]
        clear hn h he hat hlen hx e hrb hrl hr hts
        go_enter Tryz.func138, Tryz.ntmps138
        go_wp2_with (go_at_call 136; go_must (refine HN.out.mono ?_; rintro e w1 ⟨rfl, r1, k1⟩; have r1' : w1.heap[rb]? = some (.cells #[.string text, .int .i64 (text.size : Nat), .int .i64 (n : Nat), rv] 177 (0, 0)) := r1; have d0 : w1.cell? ⟨rb, 0, none⟩ = some (.string text) := cell_of_heap r1' 0; have d1 : w1.cell? ⟨rb, 1, none⟩ = some (.int .i64 (text.size : Nat)) := cell_of_heap r1' 1; have d2 : w1.cell? ⟨rb, 2, none⟩ = some (.int .i64 (n : Nat)) := cell_of_heap r1' 2; have R1 := hid r1; have K1 := hid k1; clear r1 k1 r1'))
        go_region
        go_wp2
        go_ret
        exact ⟨rfl, R1.out, K1.out.dr⟩
      · rw [if_neg h2]
        obtain ⟨p, hp⟩ : ∃ p, text.size - rest.length = p := ⟨_, rfl⟩
        have hlt : (p : Int) < text.size := by
          have : 0 < rest.length := List.length_pos_iff.2 h2
          omega
        have HP := hid hp
        have hn' : Calls Tryz.prog 136 #[.pointer (some ⟨rb, 0, none⟩)] w fun e w' => e = .returned (.tuple #[.int .i64 (n : Int), .nilIface]) ∧ RdAt w' rb text p n rv ∧ Keeps (· = rb) w w' := by rw [← hp]; exact hn
        have HN' := hid hn'
        clear hn hn' HN h he hat hlen hx e hrb hrl hr hts hp h2
        go_enter Tryz.func138, Tryz.ntmps138
        go_wp2_with (go_at_call 136; go_must (refine HN'.out.mono ?_; rintro e w1 ⟨rfl, r1, k1⟩; have d0 : w1.cell? ⟨rb, 0, none⟩ = some (.string text) := cell_of_heap r1 0; have d1 : w1.cell? ⟨rb, 1, none⟩ = some (.int .i64 (p : Nat)) := cell_of_heap r1 1; have d2 : w1.cell? ⟨rb, 2, none⟩ = some (.int .i64 (n : Nat)) := cell_of_heap r1 2; obtain ⟨t, u, g14⟩ := HG.out w1 k1 14 (by unfold NoSum; omega); have K1 := hid k1; clear r1 k1))
        go_region
        go_wp2
        go_region
        go_wp2
        go_ret
        exact rd_fault3 HP.out (by unfold NoSum; omega) HRB.out HE.out K1.out g14 (((Keeps.refl _ _).dr).dr)
    · rw [if_neg h1, hlen]
      have hp : text.size - (text.size - at_) = at_ := by omega
      have HP := hid hp
      have hne : ((n : Int) == (count : Int)) = false := by rw [beq_eq_false_iff_ne]; omega
      have hneP : ¬ (n : Int) = (count : Int) := by omega
      obtain ⟨p, hp2⟩ : ∃ p, text.size - rest.length = p := ⟨_, rfl⟩
      have hn' : Calls Tryz.prog 136 #[.pointer (some ⟨rb, 0, none⟩)] w fun e w' => e = .returned (.tuple #[.int .i64 (n : Int), .nilIface]) ∧ RdAt w' rb text p count rv ∧ Keeps (· = rb) w w' := by rw [← hp2]; exact hn
      have HN' := hid hn'
      clear hn hn' HN h he hat hlen hx e hrb hrl hr hts hp hp2 h1
      go_enter Tryz.func138, Tryz.ntmps138
      go_wp2_with (go_at_call 136; go_must (refine HN'.out.mono ?_; rintro e w1 ⟨rfl, r1, k1⟩; have d2 : w1.cell? ⟨rb, 2, none⟩ = some (.int .i64 (count : Nat)) := cell_of_heap r1 2; obtain ⟨t, u, g13⟩ := HG.out w1 k1 13 (by unfold NoSum; omega); have K1 := hid k1; clear r1 k1))
      go_ret
      exact rd_fault3 HP.out (by unfold NoSum; omega) HRB.out HE.out K1.out g13 (Keeps.refl _ _)

end Go.Proofs.YtpagenipflmlfaaGreatDoor

/- A reader: what is left of its text, from one reading function to the next. -/

namespace Go.Proofs.YtpagenipflmlfaaGreatDoor

open Go.RowKit Go.Shelf

/-- the end of a text -/
def Place (text : ByteArray) (l : List UInt8) : Prop := l = restL text (text.size - l.length)

theorem place_rest {text : ByteArray} {at_ : Nat} (h : at_ ≤ text.size) : Place text (restL text at_) := by
  unfold Place
  rw [restL_len, show text.size - (text.size - at_) = at_ by omega]

theorem Place.len {text : ByteArray} {l : List UInt8} (h : Place text l) : l.length ≤ text.size := by
  have := congrArg List.length h
  rw [restL_len] at this
  omega

theorem Place.drop {text : ByteArray} {l : List UInt8} (h : Place text l) (k : Nat) : Place text (l.drop k) := by
  have h1 := h.len
  by_cases hk : k ≤ l.length
  · have e : l.drop k = restL text (text.size - l.length + k) := by
      conv => lhs; rw [h]
      unfold restL
      rw [List.drop_drop]
    rw [e]
    exact place_rest (by omega)
  · have e : l.drop k = restL text text.size := by
      rw [List.drop_eq_nil_of_le (by omega)]
      exact (List.eq_nil_of_length_eq_zero (by rw [restL_len]; omega)).symm
    rw [e]
    exact place_rest (Nat.le_refl _)

theorem Place.take {text : ByteArray} {l x r : List UInt8} {n : Nat} (h : Place text l) (ht : takeR n l = .ok x r) : Place text r ∧ x.length = n ∧ r.length + n = l.length := by
  unfold takeR at ht
  split at ht
  · cases ht
    exact ⟨h.drop n, by rw [List.length_take]; omega, by rw [List.length_drop]; omega⟩
  · cases ht

theorem Place.nr {text : ByteArray} {l r : List UInt8} {n : Nat} (h : Place text l) (ht : nrR l = .ok n r) : Place text r := by
  unfold nrR at ht
  split at ht
  · cases ht
  · cases ht
    exact h.drop _

theorem Place.bnd {text : ByteArray} {l r : List UInt8} {least most n : Nat} (h : Place text l) (ht : bndR least most l = .ok n r) : Place text r ∧ least ≤ n ∧ n ≤ most ∧ r.length < l.length := by
  unfold bndR at ht
  rcases hx : nrR l with k | ⟨m, s⟩
  · rw [hx] at ht; cases ht
  · rw [hx] at ht
    have ht' : (if least ≤ m ∧ m ≤ most then Rd.ok m s else .bad l.length) = Rd.ok n r := ht
    by_cases hin : least ≤ m ∧ m ≤ most
    · rw [if_pos hin] at ht'
      cases ht'
      exact ⟨h.nr hx, hin.1, hin.2, (nrR_lt hx).2⟩
    · rw [if_neg hin] at ht'
      cases ht'

/-- the reader, when this much of its text is left -/
def RdL (w : World) (rb : Nat) (text : ByteArray) (l : List UInt8) (count : Nat) (rv : Value) : Prop := Place text l ∧ RdAt w rb text (text.size - l.length) count rv ∧ ErrsAt w

theorem RdL.take {rb : Nat} {text : ByteArray} {l : List UInt8} {count : Nat} {rv : Value} {w : World} (h : RdL w rb text l count rv) (n : Nat) (hts : text.size ≤ 1000000000000) (hn : n ≤ 1000000000000) :
    Calls Tryz.prog 155 #[.pointer (some ⟨rb, 0, none⟩), .int .i64 (n : Nat)] w (RdPost (fun l => .string (ofL l)) (.string ⟨#[]⟩) rb text count rv (takeR n l) w) := by
  have := take_any rb text (text.size - l.length) count n rv w h.2.1 (by omega) hts hn h.2.2
  rwa [← h.1] at this

theorem RdL.bounded {rb : Nat} {text : ByteArray} {l : List UInt8} {count : Nat} {rv : Value} {w : World} (h : RdL w rb text l count rv) (least most : Nat) (hts : text.size ≤ 1000000000000) (hrb : 16 ≤ rb) :
    Calls Tryz.prog 156 #[.pointer (some ⟨rb, 0, none⟩), .int .i64 (least : Nat), .int .i64 (most : Nat)] w (RdPost (fun n : Nat => .int .i64 (n : Int)) (.int .i64 0) rb text count rv (bndR least most l) w) := by
  have := bounded_any rb text (text.size - l.length) count least most rv w h.2.1 (by omega) hts hrb h.2.2
  rwa [← h.1] at this

theorem RdL.on {rb : Nat} {text : ByteArray} {l r : List UInt8} {count : Nat} {rv : Value} {w w' : World} (h : RdL w rb text l count rv) (hrb : 16 ≤ rb) (hp : Place text r) (ha : RdAt w' rb text (text.size - r.length) count rv) (hk : Keeps (· = rb) w w') : RdL w' rb text r count rv :=
  ⟨hp, ha, h.2.2.kept hk (fun g hg e => by have e' : g = rb := e; omega)⟩

theorem RdL.kept {rb : Nat} {text : ByteArray} {l : List UInt8} {count : Nat} {rv : Value} {w w' : World} (h : RdL w rb text l count rv) (hk : Keeps (fun _ => False) w w') : RdL w' rb text l count rv :=
  ⟨h.1, (hk.block rb (Array.getElem?_eq_some_iff.1 h.2.1).1 (fun h => h)).trans h.2.1, h.2.2.kept hk (fun _ _ h => h)⟩

end Go.Proofs.YtpagenipflmlfaaGreatDoor
