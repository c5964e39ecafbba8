import Derived.Test.YtpagenipflmlfaaGreatDoorM16
import Derived.Laws.ResultCell

/- A reader: block, walked. -/

namespace Go.Proofs.YtpagenipflmlfaaGreatDoor

open Go.RowKit Go.Shelf

set_option maxRecDepth 100000 in
set_option maxHeartbeats 4000000 in
theorem rblock_any (B rb : Nat) (text : ByteArray) (l : List UInt8) (all : List RecB) (w : World) (h : RdrAt B w rb text l all) (hts : text.size ≤ 1000000000000) (hB : B ≤ w.heap.size) (h16 : 16 ≤ B) (hrb : 16 ≤ rb) (hc : all.length < 100000000000) (ht : TurnsAt w) :
    Calls Tryz.prog 137 #[.pointer (some ⟨rb, 0, none⟩)] w (BlkPost B rb text all (blockR l) w) := by
  have H := hid h
  obtain ⟨oa, cap, h1, h2, h3⟩ := h
  have c1 : w.cell? ⟨rb, 1, none⟩ = some (.int .i64 ((text.size - l.length : Nat) : Int)) := cell_of_heap h1.2.1 1
  have HN := hid (h1.bounded 0 4 hts hrb)
  have H1 := hid h1
  have H2 := hid h2
  have H3 := hid h3
  have HTS := hid hts
  have HB := hid hB
  have H16 := hid h16
  have HRB := hid hrb
  have HC := hid hc
  have HT := hid ht
  have HR : Hid (blockR l = (bndR 0 4 l).bind fun n l1 => if n = 0 then .ok [] l1 else (recsR n [] l1).bind fun x l2 => endR l x l2) := hid rfl
  generalize blockR l = res at *
  obtain ⟨p0, hp0⟩ : ∃ p0, text.size - l.length = p0 := ⟨_, rfl⟩
  rw [hp0] at c1
  have HP0 := hid hp0
  clear h1 h2 h3 hts hB h16 hrb hc ht hp0
  go_enter Tryz.func137, Tryz.ntmps137
  go_wp2_with fail
  refine HN.out.mono ?_
  clear HN
  rcases hx1 : bndR 0 4 l with left | ⟨n, l1⟩
  · rintro e w1 ⟨⟨v, rfl, b, t, u, g, rfl, hf⟩, k1⟩
    have e : res = .bad left := by rw [HR.out, hx1]; rfl
    subst e
    have HF := hid hf
    have K1 := hid k1
    clear hf k1
    go_wp2
    go_ret2
    exact ⟨⟨_, rfl, b, t, u, g, rfl, HF.out⟩, K1.out.rdr1⟩
  · rintro e w1 ⟨rfl, r1, k1⟩
    obtain ⟨p1, -, hn4, hl1⟩ := H1.out.1.bnd hx1
    have HL1 := hid hl1
    have HLL := hid H1.out.1.len
    clear hl1
    have R1 := hid (RdrAt.on HRB.out H1.out H2.out H3.out p1 r1 k1)
    have K1 := hid (Keeps.rdr1 (B := B) k1)
    have hres : res = if n = 0 then .ok [] l1 else (recsR n [] l1).bind fun x l2 => endR l x l2 := by rw [HR.out, hx1]; rfl
    clear r1 k1 p1 HR hx1
    by_cases hn0 : n = 0
    · subst hn0
      rw [if_pos rfl] at hres
      subst hres
      go_wp2
      go_ret2
      refine ⟨rfl, ?_, K1.out⟩
      rw [List.map_nil, List.append_nil]
      exact R1.out
    · rw [if_neg hn0] at hres
      have HRES := hid hres
      have hn0I : ¬ (n : Int) = 0 := by omega
      have hn0B : ((n : Int) == 0) = false := by rw [beq_eq_false_iff_ne]; exact hn0I
      have hn4I : (n : Int) ≤ 4 := by omega
      clear hres hn0 hn4
      go_wp2_with fail
      go_loopw [7, 29] (fun z i wr => ∃ k ahead done l', i = .int .i64 (k : Nat) ∧ z = .string ahead ∧ BlkAt B rb text all n l1 w k ahead done l' wr) (fun _ i _ => n - (intOf i).toNat)
      case atStart => exact ⟨0, ⟨#[]⟩, [], l1, rfl, rfl, ⟨Nat.zero_le _, rfl, by simpa using R1.out, by decide, Nat.le_refl _, by simp [Rd.bind]; cases recsR n [] l1 <;> rfl, K1.out⟩⟩
      case round =>
        obtain ⟨k, ahead, done, l', rfl, rfl, hBk⟩ := hrel
        have HBK := hid hBk
        obtain ⟨ob, cb, q1, q2, q3⟩ := hBk.rdr
        by_cases hlt : k < n
        · have hltI : (k : Int) < n := by omega
          have HNR := hid (rrecord_any rb text l' _ _ ahead wr q1 HTS.out HRB.out hBk.key)
          have Q1 := hid q1
          have Q2 := hid q2
          have Q3 := hid q3
          clear hBk q1 q2 q3
          go_wp2_with fail
          refine HNR.out.mono ?_
          clear HNR
          rcases hx : recR ahead.data.toList l' with left | ⟨r, l2⟩
          · rintro e w6 ⟨⟨v, rfl, b, t, u, g, rfl, hf⟩, k6⟩
            have e : res = .bad left := by rw [HRES.out, HBK.out.bad hlt hx]; rfl
            subst e
            have HF : Hid (Flt wr w6 (.iface 173 (.pointer (some ⟨b, 0, none⟩))) (text.size - left)) := ⟨b, t, u, g, rfl, hf⟩
            have K6 := hid k6
            clear hf k6
            unfold recZ
            go_wp2
            go_ret2
            exact ⟨⟨_, rfl, (HF.out.early H1.out.2.2 HBK.out.keep H16.out HRB.out).on (Keeps.alloc (fun _ => False) w6 _) (fun _ _ h => h)⟩, (HBK.out.keep.rdr K6.out.rdr1).rdr (Keeps.alloc (fun _ => False) w6 _).rdr0⟩
          · rintro e w6 ⟨rfl, r6, k6⟩
            obtain ⟨p6, hr10, -, hsh⟩ := recR_fits (by have := HBK.out.key; simpa using this) Q1.out.1 hx
            have kA := Keeps.alloc (fun _ => False) w6 (.cells #[.string (ofL r.key), .string (ofL r.value), .bool r.gone] 147)
            have z1 := (Q1.out.on HRB.out p6 r6 k6).kept kA
            have z2 := (Q2.out.kept k6 (fun i hi e => (Q2.out.typeIs hi).ne (e' := 177) (by decide) ⟨_, (show i = rb from e) ▸ Q1.out.2.1⟩)).kept kA (fun _ _ h => h)
            have HKP := hid (keep_at B rb text l2 (all ++ done.map recB) (recB r) _ ob cb z1 z2 Q3.out (by have h1 := HB.out; have h2 := HBK.out.keep.size; have h3 := k6.size; have h4 := kA.size; omega) H16.out HRB.out (by have h1 := HC.out; have h2 := HBK.out.len; rw [List.length_append, List.length_map]; omega))
            have HOW : Hid (∀ g, (Value.slice ob ((all ++ done.map recB).take 1001).length cb).ownBlock = some g → g < wr.heap.size) := fun g hg => Q2.out.lt hg
            have K6 := hid k6
            have hrbw := (Array.getElem?_eq_some_iff.1 Q1.out.2.1).1
            have HRW := hid hrbw
            have HX := hid hx
            clear r6 k6 p6 kA z1 z2 hx hrbw
            unfold recV
            go_wp2_with fail
            refine HKP.out.mono ?_
            rintro e w8 ⟨rfl, hR8, k8⟩
            have hz6 := K6.out.size
            have d := (k8.block w6.heap.size (by simp) (by
              rintro (e | e)
              · have := HRW.out; omega
              · have := HOW.out _ e; omega)).trans (heap_new w6 _)
            have d0 := cell_of_heap d 0
            simp at d0
            have HK8 : Hid (Keeps (RdrS B rb wr) wr w8) := (K6.out.rdr1.tr (Keeps.alloc (fun _ => False) w6 _) (fun _ h => False.elim h)).trans k8 (fun i hi e => by
              rcases e with e | e
              · exact .inl e
              · exact .inr ⟨Q3.out i e, Q2.out.typeIs e⟩)
            have HR8 := hid hR8
            clear d k8 hR8 HKP
            go_wp2
            exact ⟨⟨k + 1, ofL r.key, done ++ [r], l2, by go_num, rfl, HBK.out.next hlt HX.out hr10 hsh HR8.out HK8.out⟩, by simp only [intOf]; omega⟩
        · have hkn : k = n := by have := hBk.le; omega
          subst hkn
          have hall := hBk.all_
          have hsh := hBk.short
          have hltI : ¬ (k : Int) < k := by omega
          have HTW : Hid (TurnsAt wr) := HT.out.kept hBk.keep (by
            rintro (e | ⟨e, -⟩)
            · have := HRB.out; omega
            · have := H16.out; omega)
          have hres : res = endR l done l' := by rw [HRES.out, hall]; rfl
          have HNT := hid (q1.take 4 HTS.out (by omega))
          have c1' : wr.cell? ⟨rb, 1, none⟩ = some (.int .i64 ((text.size - l'.length : Nat) : Int)) := cell_of_heap q1.2.1 1
          obtain ⟨p2, hp2⟩ : ∃ p2, text.size - l'.length = p2 := ⟨_, rfl⟩
          rw [hp2] at c1'
          have hle : p0 ≤ p2 ∧ p2 ≤ text.size := by have h1 := HP0.out; have h2 := HL1.out; have h3 := HLL.out; omega
          obtain ⟨hle1, hle2⟩ := hle
          have hex : text.extract p0 p2 = ofL (l.take (l.length - l'.length)) := by
            have h1 := HP0.out
            have h2 := HL1.out
            have h3 := HLL.out
            have := extract_rest text p0 (l.length - l'.length)
            rw [show p0 + (l.length - l'.length) = p2 by omega, ← h1, ← H1.out.1] at this
            rw [← h1]
            exact this
          have HEX := hid hex
          have htsI : (text.size : Int) ≤ 1000000000000 := by have := HTS.out; omega
          have HP2 := hid hp2
          have Q1 := hid q1
          have Q2 := hid q2
          have Q3 := hid q3
          have HRE := hid hres
          have hdn : done.isEmpty = false := by
            have := hBk.len
            cases done with
            | nil => simp at this; omega
            | cons a b => rfl
          have HDN := hid hdn
          clear hBk q1 q2 q3 hall hres hex hp2 hdn hsh
          go_wp2_with fail
          refine HNT.out.mono ?_
          clear HNT
          rcases hx : takeR 4 l' with left | ⟨y, l3⟩
          · rintro e w6 ⟨⟨v, rfl, b, t, u, g, rfl, hf⟩, k6⟩
            have e : res = .bad left := by rw [HRE.out]; unfold endR; rw [hx]; rfl
            subst e
            have HF : Hid (Flt wr w6 (.iface 173 (.pointer (some ⟨b, 0, none⟩))) (text.size - left)) := ⟨b, t, u, g, rfl, hf⟩
            have K6 := hid k6
            clear hf k6
            go_wp2
            go_ret2
            exact ⟨⟨_, rfl, HF.out.early H1.out.2.2 HBK.out.keep H16.out HRB.out⟩, HBK.out.keep.rdr K6.out.rdr1⟩
          · rintro e w6 ⟨rfl, r6, k6⟩
            obtain ⟨p6, -, -⟩ := Q1.out.1.take hx
            have hre : res = if y = checkL (l.take (l.length - l'.length)) then .ok done l3 else .bad l'.length := by rw [HRE.out]; unfold endR; rw [hx]; rfl
            have d0 : w6.cell? ⟨rb, 0, none⟩ = some (.string text) := cell_of_heap r6 0
            have HCK : Hid (Calls Tryz.prog 106 #[.string (text.extract p0 p2)] w6 fun e w' => e = .returned (.string (ofL (checkL (l.take (l.length - l'.length))))) ∧ Keeps (fun _ => False) w6 w') := by
              have := checkOf_any (text.extract p0 p2) w6 (by rw [ByteArray.size_extract]; unfold maxLen; omega) (HTW.out.kept k6 (fun e => by have e' : (8 : Nat) = rb := e; have := HRB.out; omega))
              rwa [show (text.extract p0 p2).data.toList = l.take (l.length - l'.length) by rw [HEX.out]; rfl] at this
            have R6 := hid (RdrAt.on HRB.out Q1.out Q2.out Q3.out p6 r6 k6)
            have K6 := hid k6
            have HE6 : Hid (ErrsAt w6) := Q1.out.2.2.kept k6 (fun g hg e => by have e' : g = rb := e; have := HRB.out; omega)
            clear r6 k6 p6 hx
            by_cases hy : y = checkL (l.take (l.length - l'.length))
            · rw [if_pos hy] at hre
              subst hre
              rw [← hy] at HCK
              go_wp2_with (go_at_call 106; go_must (refine HCK.out.mono ?_; rintro e w7 ⟨rfl, k7⟩))
              go_ret2
              exact ⟨by rw [HDN.out]; rfl, R6.out.kept k7, (HBK.out.keep.rdr K6.out.rdr1).rdr k7.rdr0⟩
            · rw [if_neg hy] at hre
              subst hre
              have hne : ((ofL y).toList == (ofL (checkL (l.take (l.length - l'.length)))).toList) = false := (Lib.bytes_beq_false_iff _ _).2 (fun e => hy (by have := congrArg (fun x : ByteArray => x.data.toList) e; exact this))
              clear hy
              generalize checkL (l.take (l.length - l'.length)) = ck at *
              go_wp2_with (go_at_call 106; go_must (refine HCK.out.mono ?_; rintro e w7 ⟨rfl, k7⟩; obtain ⟨t, u, g12⟩ := (HE6.out.kept k7 (fun _ _ h => h)) 12 (by unfold NoSum; omega); have K7 := hid k7; clear k7))
              go_region
              go_wp2
              go_ret2
              have hkk : Keeps (RdrS B rb w) w w7 := (HBK.out.keep.rdr K6.out.rdr1).rdr K7.out.rdr0
              have hfl : Flt w7 (w7.drew.alloc (.cells #[.int .i64 (p2 : Int), .iface t u] 175)) (.iface 173 (.pointer (some ⟨w7.drew.heap.size, 0, none⟩))) (text.size - l'.length) := ⟨_, t, u, 12, rfl, Nat.le_refl _, by rw [HP2.out]; exact heap_new _ _, (by unfold NoSum; omega), g12⟩
              exact ⟨⟨_, rfl, hfl.early H1.out.2.2 hkk H16.out HRB.out⟩, hkk.rdr (((Keeps.refl (fun _ => False) w7).dr).al _).rdr0⟩

end Go.Proofs.YtpagenipflmlfaaGreatDoor

/- A reader with its records: kind, number, tail, told by what is left. -/

namespace Go.Proofs.YtpagenipflmlfaaGreatDoor

open Go.RowKit Go.Shelf

theorem Place.kind {text : ByteArray} {l r : List UInt8} {b : Bool} (h : Place text l) (ht : kindR l = .ok b r) : Place text r ∧ r.length + 4 = l.length := by
  unfold kindR at ht
  obtain ⟨x, r1, h1, h2⟩ := bind_eq_ok ht
  obtain ⟨p1, -, q1⟩ := h.take h1
  by_cases e1 : x = kindL true
  · rw [if_pos e1] at h2
    cases h2
    exact ⟨p1, q1⟩
  · rw [if_neg e1] at h2
    by_cases e2 : x = kindL false
    · rw [if_pos e2] at h2
      cases h2
      exact ⟨p1, q1⟩
    · rw [if_neg e2] at h2
      cases h2

theorem RdL.number {rb : Nat} {text : ByteArray} {l : List UInt8} {count : Nat} {rv : Value} {w : World} (h : RdL w rb text l count rv) (hts : text.size ≤ 1000000000000) :
    Calls Tryz.prog 136 #[.pointer (some ⟨rb, 0, none⟩)] w (RdPost (fun n : Nat => .int .i64 (n : Int)) (.int .i64 0) rb text count rv (nrR l) w) := by
  have := rnumber_any rb text (text.size - l.length) count rv w h.2.1 (by omega) hts h.2.2
  rwa [← h.1] at this

theorem RdL.tail {rb : Nat} {text : ByteArray} {l : List UInt8} {count : Nat} {rv : Value} {w : World} (h : RdL w rb text l count rv) (hts : text.size ≤ 1000000000000) (hrb : 16 ≤ rb) :
    Calls Tryz.prog 138 #[.pointer (some ⟨rb, 0, none⟩)] w (RdPost1 rb text count rv (tailR count l) w) := by
  have := rtail_any rb text (text.size - l.length) count rv w h.2.1 (by omega) hts hrb h.2.2
  rwa [← h.1] at this

/-- reading at the beginning -/
theorem RdL.kind {rb : Nat} {text : ByteArray} {count : Nat} {rv : Value} {w : World} (h : RdL w rb text text.data.toList count rv) (hts : text.size ≤ 1000000000000) (hrb : 16 ≤ rb) :
    Calls Tryz.prog 135 #[.pointer (some ⟨rb, 0, none⟩)] w (RdPost (fun b : Bool => .bool b) (.bool false) rb text count rv (kindR text.data.toList) w) := by
  have e : text.size - text.data.toList.length = 0 := by
    rw [Array.length_toList]
    exact Nat.sub_self _
  have h1 := h.2.1
  rw [e] at h1
  exact kind_any rb text count rv w h1 hts hrb h.2.2

theorem blockR_fits {text : ByteArray} {l r : List UInt8} {b : List Rec} (hp : Place text l) (h : blockR l = .ok b r) : Place text r ∧ r.length < l.length ∧ b.length ≤ 4 := by
  unfold blockR at h
  obtain ⟨n, l1, h1, h2⟩ := bind_eq_ok h
  obtain ⟨p1, -, c1, q1⟩ := hp.bnd h1
  by_cases hn : n = 0
  · rw [if_pos hn] at h2
    cases h2
    exact ⟨p1, q1, by simp⟩
  · rw [if_neg hn] at h2
    obtain ⟨x, l2, h3, h4⟩ := bind_eq_ok h2
    have hrec : ∀ (k : Nat) (ah l x r : List UInt8) (y : List Rec), x = ah → ah.length ≤ 10 → Place text l → recsR k ah l = .ok y r → Place text r ∧ r.length ≤ l.length ∧ y.length = k := by
      intro k
      induction k with
      | zero =>
        intro ah l x r y _ _ hp h
        rw [recsR] at h
        cases h
        exact ⟨hp, Nat.le_refl _, rfl⟩
      | succ k ih =>
        intro ah l x r y _ ha hp h
        rw [recsR] at h
        obtain ⟨r1, l3, g1, g2⟩ := bind_eq_ok h
        obtain ⟨y2, l4, g3, g4⟩ := bind_eq_ok g2
        obtain ⟨p2, k1, -, q2⟩ := recR_fits ha hp g1
        obtain ⟨p3, q3, e3⟩ := ih r1.key l3 r1.key l4 y2 rfl k1 p2 g3
        cases g4
        exact ⟨p3, by omega, by rw [List.length_cons, e3]⟩
    obtain ⟨p2, q2, e2⟩ := hrec n [] l1 [] l2 x rfl (by simp) p1 h3
    unfold endR at h4
    obtain ⟨s, l3, g1, g2⟩ := bind_eq_ok h4
    obtain ⟨p3, -, q3⟩ := p2.take g1
    by_cases hs : s = checkL (l.take (l.length - l2.length))
    · rw [if_pos hs] at g2
      cases g2
      exact ⟨p3, by omega, by omega⟩
    · rw [if_neg hs] at g2
      cases g2

end Go.Proofs.YtpagenipflmlfaaGreatDoor

/- A reader: stream. -/

namespace Go.Proofs.YtpagenipflmlfaaGreatDoor

open Go.RowKit Go.Shelf

def strZ : Value := .agg #[.bool false, .int .i64 0, .int .i64 0, .slice none 0 0]

theorem own_len (oa : Option Addr) (n m cap : Nat) : (Value.slice oa n cap).ownBlock = (Value.slice oa m cap).ownBlock := by cases oa <;> rfl

/-- what stream leaves -/
def StPost (B rb : Nat) (text : ByteArray) (x : Rd Str) (w : World) (e : Ending) (w' : World) : Prop := match x with
  | .inl left => (∃ v, e = .returned (.tuple #[strZ, v]) ∧ Flt w w' v (text.size - left)) ∧ Keeps (RdrS B rb w) w w'
  | .inr (s, _) => ∃ oa cap, e = .returned (.tuple #[.agg #[.bool s.full, .int .i64 (s.a : Nat), .int .i64 (s.b : Nat), .slice oa ((s.recs.map recB).take 1001).length cap], .nilIface]) ∧ Row w' 147 3 (.slice oa ((s.recs.map recB).take 1001).length cap) ((s.recs.map recB).take 1001).length (recCs ((s.recs.map recB).take 1001)) ∧ Keeps (RdrS B rb w) w w' ∧ ∀ g, (Value.slice oa ((s.recs.map recB).take 1001).length cap).ownBlock = some g → B ≤ g

theorem four_set (w1 : World) (q : Nat) (x y z u : Value) : Keeps (· = q) w1 ((((w1.setCell ⟨q, 0, none⟩ x).setCell ⟨q, 1, none⟩ y).setCell ⟨q, 2, none⟩ z).setCell ⟨q, 3, none⟩ u) :=
  (((Keeps.setCell w1 ⟨q, 0, none⟩ x).trans (Keeps.setCell _ ⟨q, 1, none⟩ y) (fun _ _ e => e)).trans (Keeps.setCell _ ⟨q, 2, none⟩ z) (fun _ _ e => e)).trans (Keeps.setCell _ ⟨q, 3, none⟩ u) (fun _ _ e => e)

/-- an error, handed on -/
theorem st_bad {B rb left : Nat} {text : ByteArray} {w w0 w1 wz : World} {v : Value} (he : ErrsAt w) (h16 : 16 ≤ B) (hrb : 16 ≤ rb) (k0 : Keeps (RdrS B rb w) w w0) (hq : w.heap.size < w0.heap.size) (hf : Flt w0 w1 v (text.size - left)) (k1 : Keeps (RdrS B rb w0) w0 w1) (kz : Keeps (· = w.heap.size) w1 wz) :
    StPost B rb text (.bad left) w (.returned (.tuple #[strZ, v])) wz := by
  refine ⟨⟨v, rfl, ?_⟩, (k0.rdr k1).trans kz (fun k hk e => by have e' : k = w.heap.size := e; omega)⟩
  have h1 := hf.early he k0 h16 hrb
  obtain ⟨b, t, u, g, e1, e2, e3, e4, e5⟩ := hf
  obtain ⟨b', t', u', g', f1, f2, f3, f4, f5⟩ := h1
  have hb : b' = b := by rw [e1] at f1; simp at f1; exact f1.symm
  subst hb
  exact ⟨b', t', u', g', f1, f2, (kz.block b' (Array.getElem?_eq_some_iff.1 f3).1 (fun e => by have e' : b' = w.heap.size := e; omega)).trans f3, f4, f5⟩

/-- the block of the result is kept -/
theorem st_cells {B rb : Nat} {W W' : World} {q : Nat} {cs : Array Value} (h : W.heap[q]? = some (.cells cs 84 (0, 0))) (hne : q ≠ rb) (k : Keeps (RdrS B rb W) W W') : W'.heap[q]? = some (.cells cs 84 (0, 0)) :=
  (k.block q (Array.getElem?_eq_some_iff.1 h).1 (by
    rintro (e | ⟨-, e⟩)
    · exact hne e
    · exact TypeIs.ne ⟨_, h⟩ (by decide) e)).trans h

/-- how far the reader is -/
def posOf (w : World) (rb : Nat) : Nat := match w.cell? ⟨rb, 1, none⟩ with
  | some (.int _ n) => n.toNat
  | _ => 0

def moreM (text : ByteArray) (rb : Nat) (z : Value) (w : World) : Nat := match z with
  | .bool true => text.size + 1 - posOf w rb
  | _ => 0

/-- between two blocks -/
structure StAt (B rb : Nat) (text : ByteArray) (total : Rd (List Rec)) (w : World) (more : Bool) (acc : List Rec) (l' : List UInt8) (f : Nat) (wr : World) : Prop where
  rdr : RdrAt B wr rb text l' (acc.map recB)
  same : total = if more = true then blocksR f acc l' else .ok acc l'
  fuel : l'.length < f
  few : acc.length + 4 * l'.length ≤ 4 * text.size
  cells : wr.heap[w.heap.size]? = some (.cells #[.bool false, .int .i64 0, .int .i64 0, .slice none 0 0] 84 (0, 0))
  keep : Keeps (RdrS B rb w) w wr
  size : w.heap.size < wr.heap.size

theorem posOf_rdr {B rb : Nat} {text : ByteArray} {l : List UInt8} {all : List RecB} {w : World} (h : RdrAt B w rb text l all) : posOf w rb = text.size - l.length ∧ l.length ≤ text.size := by
  obtain ⟨_, _, h1, _, _⟩ := h
  have c : w.cell? ⟨rb, 1, none⟩ = some (.int .i64 ((text.size - l.length : Nat) : Int)) := cell_of_heap h1.2.1 1
  refine ⟨?_, h1.1.len⟩
  unfold posOf
  rw [c]
  rfl

theorem StAt.bad {B rb : Nat} {text : ByteArray} {total : Rd (List Rec)} {w : World} {acc : List Rec} {l' : List UInt8} {f : Nat} {wr : World} (h : StAt B rb text total w true acc l' f wr) {left : Nat} (hx : blockR l' = .bad left) : total = .bad left := by
  rw [h.same, if_pos rfl]
  have := h.fuel
  obtain ⟨f, rfl⟩ : ∃ f', f = f' + 1 := ⟨f - 1, by omega⟩
  rw [blocksR, hx]
  rfl

theorem StAt.next {B rb : Nat} {text : ByteArray} {total : Rd (List Rec)} {w : World} {acc b : List Rec} {l' l2 : List UInt8} {f : Nat} {wr w2 : World} (h : StAt B rb text total w true acc l' f wr) (hp : Place text l') (hrb : rb < w.heap.size) (hx : blockR l' = .ok b l2) (hR : RdrAt B w2 rb text l2 (acc.map recB ++ b.map recB)) (hk : Keeps (RdrS B rb wr) wr w2) : StAt B rb text total w (!b.isEmpty) (acc ++ b) l2 (f - 1) w2 := by
  have h1 := h.fuel
  have h2 := h.few
  obtain ⟨-, h3, h4⟩ := blockR_fits hp hx
  refine ⟨by rw [List.map_append]; exact hR, ?_, by omega, by rw [List.length_append]; omega, st_cells h.cells (by omega) hk, h.keep.rdr hk, Nat.lt_of_lt_of_le h.size hk.size⟩
  rw [h.same, if_pos rfl]
  obtain ⟨f, rfl⟩ : ∃ f', f = f' + 1 := ⟨f - 1, by omega⟩
  rw [blocksR, hx, Rd.bind_ok]
  cases b with
  | nil => simp
  | cons y ys => simp

set_option maxRecDepth 100000 in
set_option maxHeartbeats 4000000 in
theorem rstream_any (B rb : Nat) (text : ByteArray) (w : World) (h : RdrAt B w rb text text.data.toList []) (hts : text.size ≤ 10000000000) (hB : B ≤ w.heap.size) (h16 : 16 ≤ B) (hrb : 16 ≤ rb) (ht : TurnsAt w) :
    Calls Tryz.prog 107 #[.pointer (some ⟨rb, 0, none⟩)] w (StPost B rb text (coreR text.data.toList) w) := by
  have k0 := Keeps.alloc (fun _ => False) w (.cells #[.bool false, .int .i64 0, .int .i64 0, .slice none 0 0] 84)
  have HK0 := hid (Keeps.rdr0 (B := B) (rb := rb) k0)
  have hh := h.kept k0
  obtain ⟨oa, cap, h1, h2, h3⟩ := hh
  have HE : Hid (ErrsAt w) := by obtain ⟨_, _, x, _, _⟩ := h; exact x.2.2
  have hrw : rb < w.heap.size := by obtain ⟨_, _, x, _, _⟩ := h; exact (Array.getElem?_eq_some_iff.1 x.2.1).1
  have HQ0 : Hid (w.heap.size < (w.alloc (.cells #[.bool false, .int .i64 0, .int .i64 0, .slice none 0 0] 84)).heap.size) := by show _ < _; simp
  have D0 := hid (heap_new w (.cells #[.bool false, .int .i64 0, .int .i64 0, .slice none 0 0] 84))
  have HN := hid (h1.kind (by omega) hrb)
  have H1 := hid h1
  have H2 := hid h2
  have H3 := hid h3
  have HTS := hid hts
  have HB := hid hB
  have H16 := hid h16
  have HRB := hid hrb
  have HT := hid ht
  have HRW := hid hrw
  have HR : Hid (coreR text.data.toList = (kindR text.data.toList).bind fun k l1 => (nrR l1).bind fun a l2 => (nrR l2).bind fun b l3 => (blocksR (text.data.toList.length + 1) [] l3).bind fun x l4 => (tailR x.length l4).bind fun _ l5 => .ok ⟨k, a, b, x⟩ l5) := hid rfl
  generalize coreR text.data.toList = res at *
  clear h h1 h2 h3 hts hB h16 hrb ht hrw k0
  go_enter Tryz.func107, Tryz.ntmps107
  go_wp2_with fail
  refine HN.out.mono ?_
  clear HN
  rcases hx1 : kindR text.data.toList with left | ⟨kd, l1⟩
  · rintro e w1 ⟨⟨v, rfl, b, t, u, g, rfl, hf⟩, k1⟩
    have e : res = .bad left := by rw [HR.out, hx1]; rfl
    subst e
    have d := st_cells D0.out (by have := HRW.out; omega) (Keeps.rdr1 (B := B) k1)
    have d0 := cell_of_heap d 0
    have d1 := cell_of_heap d 1
    have d2 := cell_of_heap d 2
    have d3 := cell_of_heap d 3
    have f0 := frozen_of_heap d 0
    have f1 := frozen_of_heap d 1
    have f2 := frozen_of_heap d 2
    have f3 := frozen_of_heap d 3
    simp at d0 d1 d2 d3
    have HF := hid hf
    have KK := hid k1
    clear hf k1 d
    go_wp2
    refine bodyPost_ret (v := .tuple #[strZ, .iface 173 (.pointer (some ⟨b, 0, none⟩))]) ?_ rfl ?_
    · unfold strZ
      rw [results_cell_tmp rfl]
      go_simp
    · exact st_bad HE.out H16.out HRB.out HK0.out HQ0.out ⟨b, t, u, g, rfl, HF.out⟩ KK.out.rdr1 (four_set w1 _ _ _ _ _)
  · rintro e w1 ⟨rfl, r1, k1⟩
    have p1 := (H1.out.1.kind hx1).1
    have R1 := hid (H1.out.on HRB.out p1 r1 k1)
    have D1 := hid (st_cells D0.out (by have := HRW.out; omega) (Keeps.rdr1 (B := B) k1))
    have HK1 := hid (HK0.out.rdr (Keeps.rdr1 (B := B) k1))
    have HQ1 : Hid (w.heap.size < w1.heap.size) := Nat.lt_of_lt_of_le HQ0.out k1.size
    have Row1 := hid (H2.out.kept k1 (fun i hi e => (H2.out.typeIs hi).ne (e' := 177) (by decide) ⟨_, (show i = rb from e) ▸ H1.out.2.1⟩))
    clear r1 k1 p1
    have HR1 : Hid (res = (nrR l1).bind fun a l2 => (nrR l2).bind fun b l3 => (blocksR (text.data.toList.length + 1) [] l3).bind fun x l4 => (tailR x.length l4).bind fun _ l5 => .ok ⟨kd, a, b, x⟩ l5) := by show _ = _; rw [HR.out, hx1]; rfl
    have HL1 : Hid (l1.length ≤ text.data.toList.length) := by have := (H1.out.1.kind hx1).2; show _ ≤ _; omega
    have HN2 := hid (R1.out.number (by have := HTS.out; omega))
    clear hx1 HR
    go_wp2_with fail
    refine HN2.out.mono ?_
    clear HN2
    rcases hx2 : nrR l1 with left | ⟨a, l2⟩
    · rintro e w2 ⟨⟨v, rfl, b, t, u, g, rfl, hf⟩, k1⟩
      have e : res = .bad left := by rw [HR1.out, hx2]; rfl
      subst e
      have d := st_cells D1.out (by have := HRW.out; omega) (Keeps.rdr1 (B := B) k1)
      have d0 := cell_of_heap d 0
      have d1 := cell_of_heap d 1
      have d2 := cell_of_heap d 2
      have d3 := cell_of_heap d 3
      have f0 := frozen_of_heap d 0
      have f1 := frozen_of_heap d 1
      have f2 := frozen_of_heap d 2
      have f3 := frozen_of_heap d 3
      simp at d0 d1 d2 d3
      have HF := hid hf
      have KK := hid k1
      clear hf k1 d
      go_wp2
      refine bodyPost_ret (v := .tuple #[strZ, .iface 173 (.pointer (some ⟨b, 0, none⟩))]) ?_ rfl ?_
      · unfold strZ
        rw [results_cell_tmp rfl]
        go_simp
      · exact st_bad HE.out H16.out HRB.out HK1.out HQ1.out ⟨b, t, u, g, rfl, HF.out⟩ KK.out.rdr1 (four_set w2 _ _ _ _ _)
    · rintro e w2 ⟨rfl, r1, k1⟩
      have p1 := R1.out.1.nr hx2
      have R2 := hid (R1.out.on HRB.out p1 r1 k1)
      have D2 := hid (st_cells D1.out (by have := HRW.out; omega) (Keeps.rdr1 (B := B) k1))
      have HK2 := hid (HK1.out.rdr (Keeps.rdr1 (B := B) k1))
      have HQ2 : Hid (w.heap.size < w2.heap.size) := Nat.lt_of_lt_of_le HQ1.out k1.size
      have Row2 := hid (Row1.out.kept k1 (fun i hi e => (Row1.out.typeIs hi).ne (e' := 177) (by decide) ⟨_, (show i = rb from e) ▸ R1.out.2.1⟩))
      clear r1 k1 p1
      have HR2 : Hid (res = (nrR l2).bind fun b l3 => (blocksR (text.data.toList.length + 1) [] l3).bind fun x l4 => (tailR x.length l4).bind fun _ l5 => .ok ⟨kd, a, b, x⟩ l5) := by show _ = _; rw [HR1.out, hx2]; rfl
      have HL2 : Hid (l2.length ≤ text.data.toList.length) := by have h1 := (nrR_lt hx2).2; have h2 := HL1.out; show _ ≤ _; omega
      have HN3 := hid (R2.out.number (by have := HTS.out; omega))
      clear hx2 HR1
      go_wp2_with fail
      refine HN3.out.mono ?_
      clear HN3
      rcases hx3 : nrR l2 with left | ⟨b, l3⟩
      · rintro e w3 ⟨⟨v, rfl, b, t, u, g, rfl, hf⟩, k1⟩
        have e : res = .bad left := by rw [HR2.out, hx3]; rfl
        subst e
        have d := st_cells D2.out (by have := HRW.out; omega) (Keeps.rdr1 (B := B) k1)
        have d0 := cell_of_heap d 0
        have d1 := cell_of_heap d 1
        have d2 := cell_of_heap d 2
        have d3 := cell_of_heap d 3
        have f0 := frozen_of_heap d 0
        have f1 := frozen_of_heap d 1
        have f2 := frozen_of_heap d 2
        have f3 := frozen_of_heap d 3
        simp at d0 d1 d2 d3
        have HF := hid hf
        have KK := hid k1
        clear hf k1 d
        go_wp2
        refine bodyPost_ret (v := .tuple #[strZ, .iface 173 (.pointer (some ⟨b, 0, none⟩))]) ?_ rfl ?_
        · unfold strZ
          rw [results_cell_tmp rfl]
          go_simp
        · exact st_bad HE.out H16.out HRB.out HK2.out HQ2.out ⟨b, t, u, g, rfl, HF.out⟩ KK.out.rdr1 (four_set w3 _ _ _ _ _)
      · rintro e w3 ⟨rfl, r1, k1⟩
        have p1 := R2.out.1.nr hx3
        have R3 := hid (R2.out.on HRB.out p1 r1 k1)
        have D3 := hid (st_cells D2.out (by have := HRW.out; omega) (Keeps.rdr1 (B := B) k1))
        have HK3 := hid (HK2.out.rdr (Keeps.rdr1 (B := B) k1))
        have HQ3 : Hid (w.heap.size < w3.heap.size) := Nat.lt_of_lt_of_le HQ2.out k1.size
        have Row3 := hid (Row2.out.kept k1 (fun i hi e => (Row2.out.typeIs hi).ne (e' := 177) (by decide) ⟨_, (show i = rb from e) ▸ R2.out.2.1⟩))
        clear r1 k1 p1
        have HR3 : Hid (res = (blocksR (text.data.toList.length + 1) [] l3).bind fun x l4 => (tailR x.length l4).bind fun _ l5 => .ok ⟨kd, a, b, x⟩ l5) := by show _ = _; rw [HR2.out, hx3]; rfl
        have HL3 : Hid (l3.length ≤ text.data.toList.length) := by have h1 := (nrR_lt hx3).2; have h2 := HL2.out; show _ ≤ _; omega
        clear hx3 HR2
        have hst0 : StAt B rb text (blocksR (text.data.toList.length + 1) [] l3) w true [] l3 (text.data.toList.length + 1) w3 := by
          refine ⟨⟨oa, cap, R3.out, Row3.out, H3.out⟩, by rw [if_pos rfl], by have := HL3.out; omega, ?_, D3.out, HK3.out, HQ3.out⟩
          have h1 := HL3.out
          rw [Array.length_toList] at h1
          have h2 : l3.length ≤ text.size := h1
          simp
          omega
        have HST0 := hid hst0
        clear hst0 R3 Row3 D3 HK3 HQ3 H1 H2
        generalize blocksR (text.data.toList.length + 1) [] l3 = total at *
        go_wp2_with fail
        go_loopw [8] (fun z wr => ∃ more acc l' f, z = .bool more ∧ StAt B rb text total w more acc l' f wr) (fun z wr => moreM text rb z wr)
        case atStart => exact ⟨true, [], l3, _, rfl, HST0.out⟩
        case round =>
          obtain ⟨more, acc, l', f, rfl, hst⟩ := hrel
          have HST := hid hst
          cases more with
          | true =>
            have hpl : Place text l' := by obtain ⟨_, _, x, _, _⟩ := hst.rdr; exact x.1
            have HPL := hid hpl
            have HNB := hid (rblock_any B rb text l' (acc.map recB) wr hst.rdr (by have := HTS.out; omega) (by have h1 := HB.out; have h2 := hst.keep.size; omega) H16.out HRB.out (by have h1 := hst.few; have h2 := HTS.out; rw [List.length_map]; omega) (HT.out.kept hst.keep (by
              rintro (e | ⟨e, -⟩)
              · have := HRB.out; omega
              · have := H16.out; omega)))
            clear hst hpl
            go_wp2_with fail
            refine HNB.out.mono ?_
            clear HNB
            rcases hx : blockR l' with left | ⟨bl, l2'⟩
            · rintro e w6 ⟨⟨v, rfl, b', t, u, g, rfl, hf⟩, k1⟩
              have e : res = .bad left := by rw [HR3.out, HST.out.bad hx]; rfl
              subst e
              have d := st_cells HST.out.cells (by have := HRW.out; omega) k1
              have d0 := cell_of_heap d 0
              have d1 := cell_of_heap d 1
              have d2 := cell_of_heap d 2
              have d3 := cell_of_heap d 3
              have f0 := frozen_of_heap d 0
              have f1 := frozen_of_heap d 1
              have f2 := frozen_of_heap d 2
              have f3 := frozen_of_heap d 3
              simp at d0 d1 d2 d3
              have HF := hid hf
              have KK := hid k1
              clear hf k1 d
              go_wp2
              refine bodyPost_ret (v := .tuple #[strZ, .iface 173 (.pointer (some ⟨b', 0, none⟩))]) ?_ rfl ?_
              · unfold strZ
                rw [results_cell_tmp rfl]
                go_simp
              · exact st_bad HE.out H16.out HRB.out HST.out.keep HST.out.size ⟨b', t, u, g, rfl, HF.out⟩ KK.out (four_set w6 _ _ _ _ _)
            · rintro e w6 ⟨rfl, r6, k6⟩
              have HNX := hid (HST.out.next HPL.out HRW.out hx r6 k6)
              have hm : moreM text rb (.bool (!bl.isEmpty)) w6 < moreM text rb (.bool true) wr := by
                have h1 := posOf_rdr HST.out.rdr
                have h2 := posOf_rdr r6
                have h3 := (blockR_fits HPL.out hx).2.1
                cases bl.isEmpty with
                | true => simp only [moreM, Bool.not_true]; omega
                | false => simp only [moreM, Bool.not_false]; omega
              have HM := hid hm
              clear r6 k6 hm hx
              generalize (!bl.isEmpty) = mb at *
              go_wp2
              exact ⟨⟨mb, _, _, _, rfl, HNX.out⟩, HM.out⟩
          | false =>
            obtain ⟨ob, cb, q1, q2, q3⟩ := hst.rdr
            have hsame : total = .ok acc l' := by have := hst.same; simpa using this
            have hlm : (acc.map recB).length = acc.length := List.length_map ..
            have hnt := q1.tail (by have := HTS.out; omega) HRB.out
            have hres : res = (tailR (acc.map recB).length l').bind fun _ l5 => .ok ⟨kd, a, b, acc⟩ l5 := by rw [HR3.out, hsame, hlm]; rfl
            have HRE := hid hres
            have HNT := hid hnt
            have Q1 := hid q1
            have Q2 := hid q2
            have Q3 := hid q3
            clear hst q1 q2 q3 hsame hlm hnt hres
            go_wp2_with fail
            refine HNT.out.mono ?_
            clear HNT
            rcases hx : tailR (acc.map recB).length l' with left | ⟨un, l5⟩
            · rintro e w6 ⟨⟨v, rfl, b', t, u, g, rfl, hf⟩, k1⟩
              have e : res = .bad left := by rw [HRE.out, hx]; rfl
              subst e
              have d := st_cells HST.out.cells (by have := HRW.out; omega) (Keeps.rdr1 (B := B) k1)
              have d0 := cell_of_heap d 0
              have d1 := cell_of_heap d 1
              have d2 := cell_of_heap d 2
              have d3 := cell_of_heap d 3
              have f0 := frozen_of_heap d 0
              have f1 := frozen_of_heap d 1
              have f2 := frozen_of_heap d 2
              have f3 := frozen_of_heap d 3
              simp at d0 d1 d2 d3
              have HF := hid hf
              have KK := hid k1
              clear hf k1 d
              go_wp2
              refine bodyPost_ret (v := .tuple #[strZ, .iface 173 (.pointer (some ⟨b', 0, none⟩))]) ?_ rfl ?_
              · unfold strZ
                rw [results_cell_tmp rfl]
                go_simp
              · exact st_bad HE.out H16.out HRB.out HST.out.keep HST.out.size ⟨b', t, u, g, rfl, HF.out⟩ KK.out.rdr1 (four_set w6 _ _ _ _ _)
            · rintro e w6 ⟨rfl, r6, k6⟩
              have e : res = .ok ⟨kd, a, b, acc⟩ l5 := by rw [HRE.out, hx]; rfl
              subst e
              have d := st_cells HST.out.cells (by have := HRW.out; omega) (Keeps.rdr1 (B := B) k6)
              have d0 := cell_of_heap d 0
              have d1 := cell_of_heap d 1
              have d2 := cell_of_heap d 2
              have d3 := cell_of_heap d 3
              have f0 := frozen_of_heap d 0
              have f1 := frozen_of_heap d 1
              have f2 := frozen_of_heap d 2
              have f3 := frozen_of_heap d 3
              simp at d0 d1 d2 d3
              have c3 := cell_of_heap r6 3
              simp only [List.getElem?_toArray] at c3
              have D6 := hid d
              have Row6 := hid (Q2.out.kept k6 (fun i hi e => (Q2.out.typeIs hi).ne (e' := 177) (by decide) ⟨_, (show i = rb from e) ▸ Q1.out.2.1⟩))
              have KK := hid (HST.out.keep.rdr (Keeps.rdr1 (B := B) k6))
              have c3' : w6.cell? ⟨rb, 3, none⟩ = some (.slice ob ((acc.map recB).take 1001).length cb) := cell_of_heap r6 3
              clear r6 k6 d c3 hx
              generalize hlen : ((acc.map recB).take 1001).length = len at *
              go_wp2
              refine bodyPost_ret (v := .tuple #[.agg #[.bool kd, .int .i64 (a : Nat), .int .i64 (b : Nat), .slice ob len cb], .nilIface]) ?_ rfl ?_
              · rw [results_cell_tmp rfl]
                go_simp
              · refine ⟨ob, cb, ?_, ?_, KK.out.trans (four_set w6 w.heap.size _ _ _ _) (fun k hk e => by have e' : k = w.heap.size := e; omega), by have h9 := Q3.out; rw [← hlen] at h9; exact h9⟩
                · rw [hlen]
                · rw [hlen]
                  exact Row6.out.kept (four_set w6 w.heap.size _ _ _ _) (fun i hi e => (Row6.out.typeIs hi).ne (e' := 84) (by decide) ⟨_, (show i = w.heap.size from e) ▸ D6.out⟩)

end Go.Proofs.YtpagenipflmlfaaGreatDoor

/- Read: what it leaves; a text whose check is another. -/

namespace Go.Proofs.YtpagenipflmlfaaGreatDoor

open Go.RowKit Go.Shelf

/-- what comes of a text -/
abbrev RdO : Type := Option (Nat ⊕ Str)

abbrev RdO.sum : RdO := none

abbrev RdO.bad (place : Nat) : RdO := some (.inl place)

abbrev RdO.ok (s : Str) : RdO := some (.inr s)

def judgeS (s : Str) : Bool := judgeB s.full s.a s.b (s.recs.map recB)

def readO (t : List UInt8) : RdO :=
  if t.length < 4 then .sum
  else if t.drop (t.length - 4) = checkL (t.take (t.length - 4)) then
    match coreR (t.take (t.length - 4)) with
    | .inl left => .bad (t.length - 4 - left)
    | .inr (s, _) => if judgeS s = true ∧ streamL s = t then .ok s else .bad 0
  else .sum

/-- the fault of the check at the end -/
def SumF (w w' : World) (v : Value) : Prop := ∃ b t u, v = .iface 173 (.pointer (some ⟨b, 0, none⟩)) ∧ w.heap.size ≤ b ∧ w'.heap[b]? = some (.cells #[.int .i64 0, .iface t u] 175 (0, 0)) ∧ w.cell? ⟨0, 0, none⟩ = some (.iface t u)

/-- what Read leaves -/
def ReadPost (x : RdO) (w : World) (e : Ending) (w' : World) : Prop := (match x with
  | none => ∃ v, e = .returned (.tuple #[strZ, v]) ∧ SumF w w' v
  | some (.inl p) => ∃ v, e = .returned (.tuple #[strZ, v]) ∧ Flt w w' v p
  | some (.inr s) => ∃ oa cap, e = .returned (.tuple #[.agg #[.bool s.full, .int .i64 (s.a : Nat), .int .i64 (s.b : Nat), .slice oa s.recs.length cap], .nilIface]) ∧ Row w' 147 3 (.slice oa s.recs.length cap) s.recs.length (recCs (s.recs.map recB)) ∧ ∀ g, (Value.slice oa s.recs.length cap).ownBlock = some g → w.heap.size ≤ g) ∧ Keeps (fun _ => False) w w'

theorem sum_post {w wz : World} {b : Nat} {t : TypeId} {u : Value} (hs : w.cell? ⟨0, 0, none⟩ = some (.iface t u)) (hb : w.heap.size ≤ b) (hz : wz.heap[b]? = some (.cells #[.int .i64 0, .iface t u] 175 (0, 0))) (hk : Keeps (fun _ => False) w wz) :
    ReadPost .sum w (.returned (.tuple #[strZ, .iface 173 (.pointer (some ⟨b, 0, none⟩))])) wz := ⟨⟨_, rfl, b, t, u, rfl, hb, hz, hs⟩, hk⟩

set_option maxRecDepth 100000 in
set_option maxHeartbeats 2000000 in
theorem read_short (text : ByteArray) (w : World) (t : TypeId) (u : Value) (h4 : text.size < 4) (hs : w.cell? ⟨0, 0, none⟩ = some (.iface t u)) :
    Calls Tryz.prog 71 #[.string text] w (ReadPost .sum w) := by
  have k0 := Keeps.alloc (fun _ => False) w (.cells #[.bool false, .int .i64 0, .int .i64 0, .slice none 0 0] 84)
  have g0 := k0.cell hs (fun h => h)
  have hneg : (text.size : Int) - 4 < 0 := by omega
  have hge : -4 ≤ (text.size : Int) - 4 := by omega
  have HS := hid hs
  clear hs h4 k0
  go_enter Tryz.func71, Tryz.ntmps71
  go_wp2
  go_region
  go_wp2
  go_region
  go_wp2
  refine bodyPost_ret (v := .tuple #[strZ, .iface 173 (.pointer (some ⟨w.heap.size + 1, 0, none⟩))]) ?_ rfl ?_
  · unfold strZ
    rw [results_cell_tmp rfl]
    go_simp
  · exact sum_post HS.out (by omega) (by have := heap_new (w.alloc (.cells #[.bool false, .int .i64 0, .int .i64 0, .slice none 0 0] 84)) (.cells #[.int .i64 0, .iface t u] 175); rw [World.size_alloc] at this; exact this) (((((Keeps.refl (fun _ => False) w).al _).al _).dr).dr)

/-- a cell that gets what it has -/
theorem set_same {w : World} {b i : Nat} {c : Array Value} {e : TypeId} {fz : Nat × Nat} {v : Value} (h : w.heap[b]? = some (.cells c e fz)) (hv : c[i]? = some v) : w.setCell ⟨b, i, none⟩ v = w := by
  have he : (w.setCell ⟨b, i, none⟩ v).heap = w.heap := by
    apply Array.ext_getElem?
    intro k
    unfold World.setCell
    rw [Array.getElem?_modify]
    by_cases hk : b = k
    · subst hk
      rw [if_pos rfl, h]
      simp only [Option.map_some, Option.isSome_none, Bool.false_eq_true, if_false, Option.some.injEq, Obj.cells.injEq, and_true]
      apply Array.ext_getElem?
      intro j
      rw [Array.getElem?_setIfInBounds]
      by_cases hj : i = j
      · subst hj
        obtain ⟨hl, -⟩ := Array.getElem?_eq_some_iff.1 hv
        rw [if_pos rfl, if_pos hl, hv]
      · rw [if_neg hj]
    · rw [if_neg hk]
  show ({ w with heap := (w.setCell ⟨b, i, none⟩ v).heap } : World) = w
  rw [he]

theorem extract_take (s : ByteArray) (n : Nat) : (s.extract 0 n).data.toList = s.data.toList.take n := by
  have := extract_rest s 0 n
  simp only [Nat.zero_add] at this
  rw [this]
  rfl

set_option maxRecDepth 100000 in
set_option maxHeartbeats 2000000 in
theorem read_sum (text : ByteArray) (w : World) (t : TypeId) (u : Value) (h4 : 4 ≤ text.size) (hts : text.size ≤ 10000000000) (hs : w.cell? ⟨0, 0, none⟩ = some (.iface t u)) (ht : TurnsAt w) (hne : text.data.toList.drop (text.data.toList.length - 4) ≠ checkL (text.data.toList.take (text.data.toList.length - 4))) :
    Calls Tryz.prog 71 #[.string text] w (ReadPost .sum w) := by
  have k0 := Keeps.alloc (fun _ => False) w (.cells #[.bool false, .int .i64 0, .int .i64 0, .slice none 0 0] 84)
  have hlen : text.data.toList.length = text.size := rfl
  rw [hlen] at hne
  obtain ⟨n, hn⟩ : ∃ n : Nat, text.size = n + 4 := ⟨text.size - 4, by omega⟩
  have hsub : (text.size : Int) - 4 = (n : Int) := by omega
  have hck : ∀ W, Keeps (fun _ => False) w W → Calls Tryz.prog 106 #[.string (text.extract 0 n)] W fun e w' => e = .returned (.string (ofL (checkL (text.data.toList.take n)))) ∧ Keeps (fun _ => False) W w' := fun W hW => by
    have := checkOf_any (text.extract 0 n) W (by rw [ByteArray.size_extract]; unfold maxLen; omega) (ht.kept hW (fun h => h))
    rwa [extract_take text n] at this
  have hnb : ((text.extract n text.size).toList == (ofL (checkL (text.data.toList.take n))).toList) = false := (Lib.bytes_beq_false_iff _ _).2 (fun e => hne (by
    have := congrArg (fun x : ByteArray => x.data.toList) e
    rw [extract_drop text n] at this
    rw [show text.size - 4 = n by omega]
    exact this))
  have HS := hid hs
  have HC := hid hck
  have hnI : (n : Int) ≤ 10000000000 := by omega
  have hnS : (n : Int) ≤ text.size := by omega
  have hz0 : 0 < w.heap.size := by
    rcases Nat.eq_zero_or_pos w.heap.size with h0 | h
    · simp [World.cell?, h0] at hs
    · exact h
  have hz1 : ¬ w.heap.size = 0 := by omega
  have hz2 : ¬ 0 = w.heap.size := by omega
  have HN := hid hn
  have g0 := k0.cell hs (fun h => h)
  clear hck hne hs ht hts h4 hlen hn
  generalize ofL (checkL (text.data.toList.take n)) = ck at *
  go_enter Tryz.func71, Tryz.ntmps71
  go_wp2
  go_region_held3 (fun _ => True) (go_keep) (first | (go_at_call 106; refine (HC.out _ (((Keeps.refl (fun _ => False) w).al _).dr)).mono ?_; rintro e w2 ⟨rfl, k2⟩; have hk2 := ((((Keeps.refl (fun _ => False) w).al _).dr).tr k2 (fun _ h => h)); have g2 := hk2.cell HS.out (fun h => h); have D2 := (k2.block w.heap.size (by simp) (fun h => h)).trans (heap_new w _); have d0 := cell_of_heap D2 0; have d1 := cell_of_heap D2 1; have d2 := cell_of_heap D2 2; have d3 := cell_of_heap D2 3; have f0 := frozen_of_heap D2 0; have f1 := frozen_of_heap D2 1; have f2 := frozen_of_heap D2 2; have f3 := frozen_of_heap D2 3; simp at d0 d1 d2 d3; have HZ : Hid (w.heap.size < w2.heap.size) := (by have := k2.size; simp at this; show _ < _; omega); have HK2 := hid hk2; have D3 := ((Keeps.alloc (fun _ => False) w2 (.cells #[.int .i64 0, .iface t u] 175)).block w.heap.size HZ.out (fun h => h)).trans D2; have a0 := cell_of_heap D3 0; have a1 := cell_of_heap D3 1; have a2 := cell_of_heap D3 2; have a3 := cell_of_heap D3 3; have b0 := frozen_of_heap D3 0; have b1 := frozen_of_heap D3 1; have b2 := frozen_of_heap D3 2; have b3 := frozen_of_heap D3 3; have s0 := set_same D2 (i := 0) (v := .bool false) rfl; have s1 := set_same D2 (i := 1) (v := .int .i64 0) rfl; have s2 := set_same D2 (i := 2) (v := .int .i64 0) rfl; have s3 := set_same D2 (i := 3) (v := .slice none 0 0) rfl; have t0 := set_same D3 (i := 0) (v := .bool false) rfl; have t1 := set_same D3 (i := 1) (v := .int .i64 0) rfl; have t2 := set_same D3 (i := 2) (v := .int .i64 0) rfl; have t3 := set_same D3 (i := 3) (v := .slice none 0 0) rfl; simp at a0 a1 a2 a3; clear k2 hk2 D2 g0 D3))
  go_wp2
  go_region
  all_goals
    go_wp2
    refine bodyPost_ret (v := .tuple #[strZ, .iface 173 (.pointer (some ⟨w2.heap.size, 0, none⟩))]) ?_ rfl ?_
    · unfold strZ
      rw [results_cell_tmp rfl]
      go_simp
    · exact sum_post HS.out (Nat.le_of_lt HZ.out) (heap_new w2 _) (HK2.out.al _).dr

end Go.Proofs.YtpagenipflmlfaaGreatDoor
