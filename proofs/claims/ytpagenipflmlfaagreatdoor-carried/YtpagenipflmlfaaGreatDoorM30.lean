import Derived.Test.YtpagenipflmlfaaGreatDoorM29
import Derived.Test.YtpagenipflmlfaaGreatDoorRows
import Derived.LaidLaws
import Derived.LaidHandle
import Derived.Lib.LaidTab
import Derived.ProofKit
import Derived.OpenShut
import Derived.ShutString
import Derived.ChangeOld
import Derived.Below
import Derived.Deep.Slices
import Derived.Deep.DeepHandedRow
import Derived.Deep.DeepWitnessRowRef

/- A copying's text, while others write on. -/

namespace Go.Proofs.YtpagenipflmlfaaGreatDoor

open Go.RowKit Go.Shelf

/-- a raw step -/
structure RawStep where
  what : Int
  key : Int
  value : ByteArray

/-- A list of raw steps lies so. -/
def StepsAt (w : World) (oa : Option Addr) (n : Nat) (S : Nat → RawStep) : Prop :=
  ∀ i, i < n → ∃ b off, oa = some ⟨b, off, none⟩ ∧ b < w.heap.size ∧ w.cell? ⟨b, off + i * 3, none⟩ = some (.int .i64 (S i).what) ∧ w.cell? ⟨b, off + i * 3 + 1, none⟩ = some (.int .i64 (S i).key) ∧ w.cell? ⟨b, off + i * 3 + 2, none⟩ = some (.string (S i).value) ∧
    (-9223372036854775808 ≤ (S i).what ∧ (S i).what ≤ 9223372036854775807) ∧ (-9223372036854775808 ≤ (S i).key ∧ (S i).key ≤ 9223372036854775807) ∧ (S i).value.size ≤ maxLen

theorem StepsAt.kept {w w' : World} {oa : Option Addr} {n : Nat} {S : Nat → RawStep} (h : StepsAt w oa n S) (hk : Keeps (fun _ => False) w w') : StepsAt w' oa n S := fun i hi => by
  obtain ⟨b, off, e, hb, h1, h2, h3, h4⟩ := h i hi
  exact ⟨b, off, e, Nat.lt_of_lt_of_le hb hk.size, hk.cell h1 (fun h => h), hk.cell h2 (fun h => h), hk.cell h3 (fun h => h), h4⟩

theorem head_len (full : Bool) {a b : Nat} (ha : a < 9223372036854775808) (hb : b < 9223372036854775808) : (headL full a b).length ≤ 10000 := by
  have h1 := numL_len 8 a (by omega)
  have h2 := numL_len 8 b (by omega)
  unfold headL kindL
  cases full <;> simp <;> omega

theorem goX_len {x : Cop} {recs : List RecB} (h1 : x.from'.toNat < 9223372036854775808) (h2 : x.to.toNat < 9223372036854775808) (h3 : x.count.toNat < 9223372036854775808) (hs : Small recs) (h4 : recs.length ≤ 4) : (goX x recs).1.length ≤ 10000 := by
  unfold goX
  split
  · exact head_len _ h1 h2
  · split
    · have n1 := numL_len 8 0 (by omega)
      have n2 := numL_len 8 x.count.toNat (by omega)
      simp only [tailL, sumL, List.length_append, List.length_cons, List.length_nil]
      omega
    · exact block_len hs h4

/-- what is so while others write on: the copying's records are L -/
structure Cpr (P : Gst → Prop) (L : List RecB) (full : Bool) (a t n : Nat) : Prop where
  tell : ∀ A, P A → tellL A.keys A.vers (Cop.new full a t) = L
  cops : ∀ A s c, P A → P { A with started := s, copyings := c }
  works : ∀ A, P A → A.works = []
  wrote : 0 < n → ∀ A key val gone, P A → Gok A → A.now < 1000000000 → key ∈ K12 → valB val = true → (gone = true → val = ByteArray.empty) → P (A.wrote1 key val gone)
  swept : 0 < n → ∀ A, P A → Gok A → P A.sweepS

/-- its next piece, of the store -/
theorem next_cop {A : Gst} {m : Int} {x : Cop} {L : List RecB} {full : Bool} {a t : Nat} {i : Nat} {T : List UInt8} (hl : A.copyings = [(m, x)]) (hr : Rises A.keys) (ht : tellL A.keys A.vers (Cop.new full a t) = L) (hc : CopAt L full a t i T x) :
    A.nextR m = ((goX x ((L.filter (fun r => !ltK r.key x.next)).take 4)).1, (goX x ((L.filter (fun r => !ltK r.key x.next)).take 4)).2.1, 0) ∧
    A.nextS m = { A with copyings := if (goX x ((L.filter (fun r => !ltK r.key x.next)).take 4)).2.1 = true then [] else [(m, (goX x ((L.filter (fun r => !ltK r.key x.next)).take 4)).2.2)] } := by
  have hk : look A.copyings m = some x := by rw [hl]; simp [look]
  have e : tell4 A.keys A.vers x = (L.filter (fun r => !ltK r.key x.next)).take 4 := by
    unfold tell4
    rw [tell_next hr, hc.full_, hc.from_, hc.to_, ht]
  unfold Gst.nextR Gst.nextS
  rw [hk]
  simp only [e]
  refine ⟨trivial, ?_⟩
  rw [hl]
  simp [put, del]

/-- between two pieces -/
def CpInv (P : Gst → Prop) (L : List RecB) (full : Bool) (a t : Nat) (O : Nat → Prop) (N : Nat) (w : World) (b : Nat) (m now : Int) (tx i : Value) (wr : World) : Prop :=
  ∃ (k : Nat) (T : List UInt8) (x : Cop) (A : Gst), tx = .string (ofL T) ∧ i = .int .i64 k ∧ T.length ≤ k * 10000 ∧ CopAt L full a t k T x ∧ HAt O (N + 1 + 31 * k) wr b A ∧ P A ∧ A.copyings = [(m, x)] ∧ now ≤ A.now ∧ A.now ≤ now + k ∧ Keeps (fun k => ¬ O k) w wr

def CopiedG (P : Gst → Prop) (L : List RecB) (full : Bool) (a t : Nat) (O : Nat → Prop) (N : Nat) (w : World) (b : Nat) (now : Int) (e : Ending) (w' : World) : Prop :=
  e = .returned (.tuple #[.string (ofL (streamL ⟨full, a, t, L.map RecB.rec_⟩)), .bool true]) ∧ ∃ A, P A ∧ A.copyings = [] ∧ now ≤ A.now ∧ A.now ≤ now + 20 ∧ HAt O (N + 1000) w' b A ∧ Keeps (fun k => ¬ O k) w w'

theorem next_h {O : Nat → Prop} {N : Nat} {w : World} {b : Nat} {A : Gst} {m : Int} {x : Cop} {L : List RecB} {full : Bool} {a t : Nat} {i : Nat} {T : List UInt8} (h : HAt O N w b A) (hO : ∀ k, O k → k < w.heap.size) (hN : N ≤ 100000000000) (ht : TurnsAt w) (hl : A.copyings = [(m, x)]) (htl : tellL A.keys A.vers (Cop.new full a t) = L) (hc : CopAt L full a t i T x) (hL : L.length ≤ 12) :
    Calls Tryz.prog 33 #[.pointer (some ⟨b, 0, none⟩), .int .i64 m] w fun e w' => e = .returned (.tuple #[.string (ofL (goX x ((L.filter (fun r => !ltK r.key x.next)).take 4)).1), .bool (goX x ((L.filter (fun r => !ltK r.key x.next)).take 4)).2.1, .int .i64 0]) ∧
      HAt O N w' b { A with copyings := if (goX x ((L.filter (fun r => !ltK r.key x.next)).take 4)).2.1 = true then [] else [(m, (goX x ((L.filter (fun r => !ltK r.key x.next)).take 4)).2.2)] } ∧ Keeps (fun k => ¬ O k) w w' := by
  obtain ⟨e1, e2⟩ := next_cop hl h.ok.rises htl hc
  have hcount : ∀ y, look A.copyings m = some y → y.count ≤ 999999999996 := fun y hy => by
    have hk : look A.copyings m = some x := by rw [hl]; simp [look]
    rw [hk] at hy
    cases hy
    by_cases h0 : 0 < i
    · rw [hc.count h0]
      omega
    · obtain ⟨-, e⟩ := hc.first (by omega)
      rw [e]
      simp [Cop.new]
  have := h.call hO (fun _ hF => next_g m hF hN ht hcount)
  rw [e1, e2] at this
  exact this

theorem start_h {O : Nat → Prop} {N : Nat} {w : World} {b : Nat} {A : Gst} (full : Bool) (x y : Int) (h : HAt O N w b A) (hO : ∀ k, O k → k < w.heap.size) (hN : N ≤ 100000000000) (hj : A.judgeJ full x y = 0) :
    Calls Tryz.prog 32 #[.pointer (some ⟨b, 0, none⟩), .bool full, .int .i64 x, .int .i64 y] w fun e w' => e = .returned (.tuple #[.int .i64 (A.started + 1), .int .i64 0]) ∧ HAt O (N + 1) w' b { A with started := A.started + 1, copyings := A.copyings ++ [(A.started + 1, Cop.new full x y)] } ∧ Keeps (fun k => ¬ O k) w w' := by
  have := h.call hO (fun _ hF => start_g full x y hF hN)
  unfold Gst.startR Gst.startS at this
  rw [hj] at this
  simpa using this

theorem sweep_h {O : Nat → Prop} {N : Nat} {w : World} {b : Nat} {A : Gst} (h : HAt O N w b A) (hO : ∀ k, O k → k < w.heap.size) (hN : N ≤ 100000000000) :
    Calls Tryz.prog 34 #[.pointer (some ⟨b, 0, none⟩)] w fun e w' => e = .returned (.int .i64 A.sweepR) ∧ HAt O N w' b A.sweepS ∧ Keeps (fun k => ¬ O k) w w' :=
  h.call hO (fun _ hF => sweep_g hF hN)

set_option maxRecDepth 100000 in
set_option maxHeartbeats 2000000 in
theorem copied_any {P : Gst → Prop} {L : List RecB} {full : Bool} {a t : Nat} {O : Nat → Prop} {N : Nat} {w0 w : World} {b : Nat} {A : Gst} {oa : Option Addr} {n cap : Nat} {S : Nat → RawStep} (hC : Cpr P L full a t n) (h : HAt O N w b A) (hP : P A) (hcp : A.copyings = []) (hj : A.judgeJ full a t = 0) (hL : L.length ≤ 12) (hLs : Small L) (ha : a ≤ 1000000000) (htt : t ≤ 1000000000)
    (hO : ∀ k, O k → k < w.heap.size) (hN : N ≤ 10000000000) (hT : TurnsAt w0) (h0 : Keeps (fun _ => False) w0 w) (hO0 : ∀ k, k < w0.heap.size → O k) (hS : StepsAt w0 oa n S) (hn : A.now + 20 < 1000000000) (hnl : n ≤ maxLen) :
    Calls Tryz.prog 9 #[.pointer (some ⟨b, 0, none⟩), .bool full, .int .i64 (a : Nat), .int .i64 (t : Nat), .slice oa n cap] w (CopiedG P L full a t O N w b A.now) := by
  have hst := h.ok.started
  have hnow := h.ok.now
  unfold maxLen at hnl
  have HS := hid (start_h full a t h hO (by omega) hj)
  have hP1 := hC.cops A (A.started + 1) (A.copyings ++ [(A.started + 1, Cop.new full a t)]) hP
  rw [hcp, List.nil_append] at HS hP1
  have HLR := hid (fun A (hA : P A) (g : Gok A) => by have := tell_rises g.rises A.vers (Cop.new full a t); rw [hC.tell A hA] at this; exact this)
  obtain ⟨m, hm⟩ : ∃ m, m = A.started + 1 := ⟨_, rfl⟩
  rw [← hm] at HS hP1
  have HP1 := hid hP1
  have HNW := hid hnow
  obtain ⟨now, hnw⟩ : ∃ now, now = A.now := ⟨_, rfl⟩
  rw [← hnw] at hn HNW ⊢
  have hm0 : 1 ≤ m := by omega
  have HO := hid hO
  have HN := hid hN
  have HST := hid hS
  have HT := hid hT
  have H0 := hid h0
  have HO0 := hid hO0
  have HL := hid hL
  have HLs := hid hLs
  have HC := hid hC
  have HA1 := hid (And.intro ha htt)
  have Hn := hid hn
  have HNWE := hid hnw
  clear hst hnow hP1 hm hC h hP hcp hj hL hLs hO hN hT h0 hO0 hS ha htt hn hnw
  go_enter Tryz.func9, Tryz.ntmps9
  go_wp2_with fail
  refine HS.out.mono ?_
  rintro e w1 ⟨rfl, s1, k1⟩
  have HI : Hid (CpInv P L full a t O N w b m now (.string ⟨#[]⟩) (.int .i64 0) w1) := ⟨0, [], Cop.new full a t, _, rfl, rfl, by simp, cop_first L full a t, s1, HP1.out, rfl, by have := HNWE.out; show now ≤ A.now; omega, by have := HNWE.out; show A.now ≤ now + 0; omega, k1⟩
  clear s1 k1 HS HP1
  go_wp2_with fail
  go_loopw [14, 15] (CpInv P L full a t O N w b m now) (fun _ i _ => (20 - intOf i).toNat)
  case atStart => exact HI.out
  case round =>
    obtain ⟨k, T, x, B, rfl, rfl, hTl, hc, sB, pB, cB, n1, n2, kB⟩ := hrel
    have hk5 : k < 5 := by
      have := HL.out
      by_cases h0 : 0 < k
      · have := hc.less h0
        omega
      · omega
    have hOr : ∀ j, O j → j < wr.heap.size := fun j hj => Nat.lt_of_lt_of_le (HO.out j hj) kB.size
    have hk0 : Keeps (fun _ => False) w0 wr := H0.out.trans kB (fun j hj h => h (HO0.out j hj))
    have HNX := hid (next_h sB hOr (by have := HN.out; omega) (HT.out.kept hk0 (fun h => h)) cB (HC.out.tell B pB) hc HL.out)
    have hgl : (goX x ((L.filter (fun r => !ltK r.key x.next)).take 4)).1.length ≤ 10000 := by
      obtain ⟨q1, q2⟩ := HA1.out
      refine goX_len (by rw [hc.from_]; omega) (by rw [hc.to_]; omega) ?_ (fun r hr => HLs.out r ((List.mem_filter.1 (List.mem_of_mem_take hr)).1)) (by rw [List.length_take]; omega)
      by_cases h0 : 0 < k
      · rw [hc.count h0]; have := HL.out; omega
      · obtain ⟨-, e⟩ := hc.first (by omega); rw [e]; simp [Cop.new]
    have hstep := cop_step hc (HLR.out B pB sB.ok)
    have HPC := hid (fun c => HC.out.cops B B.started c pB)
    have HW := hid (fun hlt : k < n => HST.out.kept hk0 k hlt)
    have HCB := hid (fun (hlt : k < n) A' => HC.out.wrote (by omega) A')
    have HSB := hid (fun (hlt : k < n) A' => HC.out.swept (by omega) A')
    generalize goX x ((L.filter (fun r => !ltK r.key x.next)).take 4) = g at *
    obtain ⟨pc, over, x'⟩ := g
    simp only at hgl hstep HNX
    have hadd : ∀ W, (Op.stringOp .add (ofL T) (ofL pc)).run Tryz.prog W = .ok (.string (ofL (T ++ pc))) W := fun W => by rw [← ofL_append]; exact run_string_add_sum W _ _ (by rw [ofL_size, ofL_size]; omega)
    have HNB := hid (And.intro n1 n2)
    have KB := hid kB
    have HTL := hid hTl
    have HGL := hid hgl
    have HOR := hid hOr
    have HK0 := hid hk0
    have HWK := hid (HC.out.works)
    clear sB pB cB n1 n2 kB hTl hc hOr hk0 hgl HI
    cases over with
    | true =>
      rcases hstep with ⟨h, -⟩ | ⟨-, hs⟩
      · cases h
      · have HSX := hid hs
        clear hs
        have hk20 : (k : Int) < 20 := by omega
        go_wp2_with fail
        refine HNX.out.mono ?_
        rintro e w2 ⟨rfl, s2, k2⟩
        simp only [if_true] at s2
        have S2 := hid s2
        have K2 := hid k2
        clear s2 k2 HNX
        go_wp2
        go_ret2
        refine ⟨by rw [HSX.out]; rfl, _, HPC.out [], rfl, HNB.out.1, by have := HNB.out.2; show B.now ≤ _; omega, S2.out.more (by omega) (fun j hj => .inl hj), KB.out.trans K2.out (fun j _ h => h)⟩
    | false =>
      rcases hstep with ⟨-, hs⟩ | ⟨h, -⟩
      · have HSX := hid hs
        clear hs
        have hk20 : (k : Int) < 20 := by omega
        go_wp2_with fail
        refine HNX.out.mono ?_
        rintro e w2 ⟨rfl, s2, k2⟩
        simp only [Bool.false_eq_true, if_false] at s2
        have K2 : Hid (Keeps (fun j => ¬ O j) w w2) := KB.out.trans k2 (fun j _ h => h)
        have KZ : Hid (Keeps (fun _ => False) w0 w2) := HK0.out.trans k2 (fun j hj h => h (HO0.out j hj))
        have HO2 : Hid (∀ j, O j → j < w2.heap.size) := fun j hj => Nat.lt_of_lt_of_le (HOR.out j hj) k2.size
        by_cases hlt : k < n
        · obtain ⟨b0, off, rfl, hb0, q0, q1, q2, d1, d2, d3⟩ := HST.out.kept KZ.out k hlt
          have hb2 := HNB.out
          have hn3 := Hn.out
          have hN3 := HN.out
          have hwk := HWK.out B
          have HWR := hid (writeG_any (S k).what (S k).key (S k).value s2 HO2.out (by show B.works.length < 8; rw [HWK.out _ (HPC.out [])]; simp) (by show B.now < _; omega) (by omega) d1 d2 d3)
          obtain ⟨hp0, hp1⟩ := pick_lt (S k).key (n := 12) (by decide)
          have HPW := hid (fun val (hv : valB val = true) gone (hg : gone = true → val = ByteArray.empty) => HCB.out hlt { B with copyings := [(m, x')] } (keyZ (pickZ (S k).key 12)) val gone (HPC.out [(m, x')]) s2.ok (by show B.now < _; omega) (key_mem hp0 hp1) hv hg)
          clear d1 d2 d3 hb2 hn3 hN3 s2 k2 HNX hp0 hp1 hwk
          go_wp2_with (go_at_call 5; go_must (refine (HWR.out).mono ?_; rintro e w3 ⟨rfl, s3, k3⟩))
          have hP3 := HPW.out (if pickZ (S k).what 4 = 3 then ByteArray.empty else (S k).value.extract 0 40) (by split; exact (by decide +kernel); exact cut_ok _) (decide (pickZ (S k).what 4 = 3)) (fun hg => if_pos (of_decide_eq_true hg))
          generalize hB3 : Gst.wrote1 { B with copyings := [(m, x')] } (keyZ (pickZ (S k).key 12)) (if pickZ (S k).what 4 = 3 then ByteArray.empty else (S k).value.extract 0 40) (decide (pickZ (S k).what 4 = 3)) = B3 at *
          have e1 : B3.copyings = [(m, x')] := by rw [← hB3]; rfl
          have e2 : B3.now = B.now + 1 := by rw [← hB3]; rfl
          have HO3 : ∀ j, O j → j < w3.heap.size := fun j hj => Nat.lt_of_lt_of_le (HO2.out j hj) k3.size
          have HSW := hid (sweep_h s3 HO3 (by have := HN.out; omega))
          have HP4 := hid (HSB.out hlt B3 hP3 s3.ok)
          have HE := hid (And.intro e1 e2)
          have K3 : Hid (Keeps (fun j => ¬ O j) w w3) := K2.out.trans k3 (fun j _ h => h)
          clear hP3 hB3 e1 e2 HO3 s3 k3 HWR HPW
          go_wp2_with fail
          refine HSW.out.mono ?_
          rintro e w4 ⟨rfl, s4, k4⟩
          have S4 := hid s4
          have K4 := hid k4
          clear s4 k4 HSW
          go_wp2
          obtain ⟨e1, e2⟩ := HE.out
          obtain ⟨n1, n2⟩ := HNB.out
          exact ⟨⟨k + 1, T ++ pc, x', _, rfl, by go_num, by rw [List.length_append]; have := HTL.out; have := HGL.out; omega, HSX.out, S4.out.more (by omega) (fun j hj => .inl hj), HP4.out, e1, by show now ≤ B3.now; omega, by show B3.now ≤ now + _; omega, K3.out.trans K4.out (fun j _ h => h)⟩, by simp only [intOf]; omega⟩
        · have S2 := hid s2
          clear s2 k2 HNX
          go_wp2
          obtain ⟨n1, n2⟩ := HNB.out
          exact ⟨⟨k + 1, T ++ pc, x', _, rfl, by go_num, by rw [List.length_append]; have := HTL.out; have := HGL.out; omega, HSX.out, S2.out.more (by omega) (fun j hj => .inl hj), HPC.out _, rfl, n1, by show B.now ≤ now + _; omega, K2.out⟩, by simp only [intOf]; omega⟩
      · cases h

end Go.Proofs.YtpagenipflmlfaaGreatDoor

/- What the listed variables give a walk. -/

namespace Go.Proofs.YtpagenipflmlfaaGreatDoor

open Go.RowKit Go.Shelf

theorem laid_mem {P : Program} {w : World} : ∀ {l : List (String × DataW Unit)} {ps : List MemPlace}, DataW.LaidVars P w l ps → ∀ {n : String} {d : DataW Unit}, (n, d) ∈ l →
    ∃ g t cs fuel p, P.globalNamed n = some g ∧ (P.globals[g]?).map (·.type) = some t ∧ w.var? P n = some cs ∧ DataW.trod (fun _ => ()) P w 0 (fun _ => true) false fuel t cs.toList = some (d, p) ∧ ∀ x ∈ MemPlace.row ⟨g, 0, none⟩ cs.size ++ p, x ∈ ps
  | [], _, _, n, d, hm => by cases hm
  | (n', d') :: r, ps, h, n, d, hm => by
    obtain ⟨g, t, cs, fuel, p, q, h1, h2, h3, h4, h5, rfl⟩ := h
    rcases List.mem_cons.1 hm with e | hm
    · injection e with e1 e2
      subst e1 e2
      exact ⟨g, t, cs, fuel, p, h1, h2, h3, h4, fun x hx => List.mem_append.2 (.inl hx)⟩
    · obtain ⟨g', t', cs', fuel', p', k1, k2, k3, k4, k5⟩ := laid_mem h5 hm
      exact ⟨g', t', cs', fuel', p', k1, k2, k3, k4, fun x hx => List.mem_append.2 (.inr (k5 x hx))⟩

theorem Tryz.rowES : ∀ u, Tryz.prog.typeName? 3 u = some "*errors.errorString" → u = 275 :=
  typeName_ptr_named (nm := "errors.errorString") (by kernel_rfl) (by kernel_rfl) (by decide)

theorem Tryz.cellsES : Tryz.prog.cellsOf 293 = 1 := by kernel_rfl

theorem Tryz.cellsStr : Tryz.prog.cellsOf 9 = 1 := by kernel_rfl

set_option maxRecDepth 100000 in
/-- an error that errors.New made -/
theorem laid_sent {l : List (String × DataW Unit)} {W : World} {n : String} {text : List UInt8} {g : Nat} (h : laidMet Tryz.prog l W) (hm : (n, .iface "*errors.errorString" (.ptr (.agg [.lit (.string text)]))) ∈ l) (hg : Tryz.prog.globalNamed n = some g) (ht : (Tryz.prog.globals[g]?).map (·.type) = some 141) :
    ∃ (a : Addr) (s : ByteArray), W.cell? ⟨g, 0, none⟩ = some (.iface 275 (.pointer (some a))) ∧ W.cell? a = some (.string s) ∧ s.data.toList = text ∧ ∃ ca ta, W.heap[a.block]? = some (.cells ca ta (0, 0)) := by
  obtain ⟨ps, hv, -, hrows⟩ := h
  obtain ⟨g0, t0, cs0, f0, p0, hg0, ht0, hv0, hd0, hin⟩ := laid_mem hv hm
  obtain rfl := Option.some.inj (hg.symm.trans hg0)
  obtain rfl := Option.some.inj (ht.symm.trans ht0)
  obtain ⟨l0⟩ := cs0
  have ok0 : ∀ u v, l0 = [.iface u v] → Value.okWide Tryz.prog W .any 0 u v := fun u v e => by
    subst e
    exact (hrows g 0 (hin _ (by simp [MemPlace.row]))).2 u v (by simpa using World.var?_cell hg0 hv0 0)
  obtain ⟨a, s, rfl, hc, hs, -, hp⟩ := errorString_of_trod Tryz.underlying141 Tryz.rowES Tryz.underlying275 Tryz.underlying293 rfl rfl Tryz.underlying9 Tryz.cellsES Tryz.cellsStr hd0 ok0
  refine ⟨a, s, by simpa using World.var?_cell hg0 hv0 0, hc, hs, ?_⟩
  exact (hrows a.block a.off (hin _ (by rw [hp]; simp [MemPlace.row]))).1

theorem Tryz.gTurns : Tryz.prog.globalNamed "annals/stream.turns" = some 8 := by kernel_rfl

theorem Tryz.gTurnsT : (Tryz.prog.globals[8]?).map (·.type) = some 241 := by kernel_rfl

theorem Tryz.cellsCheck : Tryz.prog.cellsOf 125 = 1 := by kernel_rfl

theorem Tryz.cellsTurns : Tryz.prog.cellsOf 241 = 16 := by kernel_rfl

theorem Tryz.gType : Tryz.prog.globalNamed "errors.errorType" = some 2 := by kernel_rfl

theorem Tryz.rtypeT : (Tryz.prog.cutTypes.find? (·.1 == "internal/reflectlite.rtype")).map (·.2) = some 214 := by kernel_rfl

theorem Tryz.oneRow : ((List.range (405 - 100)).filter fun t => Tryz.prog.rowNamed t [101, 114, 114, 111, 114]) = [141] := by kernel_rfl

theorem Tryz.typesN : Tryz.prog.types.size = 405 - 100 := by kernel_rfl

/-- the table -/
theorem laid_table {l : List (String × DataW Unit)} {W : World} (h : laidMet Tryz.prog l W) (hm : ("annals/stream.turns", Lib.tabData .u32 (turnsL.map fun n : Nat => (n : Int))) ∈ l) : TurnsAt W := by
  obtain ⟨ps, hv, -, -⟩ := h
  obtain ⟨g0, t0, cs0, f0, p0, hg0, ht0, hv0, hd0, -⟩ := laid_mem hv hm
  obtain rfl := Option.some.inj (Tryz.gTurns.symm.trans hg0)
  obtain rfl := Option.some.inj (Tryz.gTurnsT.symm.trans ht0)
  have hc := Lib.cells_of_tab Tryz.underlying241 Tryz.underlying125 Tryz.cellsCheck Tryz.cellsTurns hd0
  intro i hi
  rw [World.var?_cell hg0 hv0 i, ← Array.getElem?_toList, hc]
  unfold turnAt
  rw [List.getElem?_map, List.getElem?_map]
  have hl : i < turnsL.length := hi
  rw [List.getElem?_eq_getElem hl, List.getD_eq_getElem?_getD, List.getElem?_eq_getElem hl]
  rfl

/-- the type of errors -/
theorem laid_type {W : World} {d : DataW Unit} (hd : d.handleName? = some [101, 114, 114, 111, 114]) (hf : d.funcsIn? = none) (h : handlesMet Tryz.prog [("errors.errorType", d)] W) : W.cell? ⟨2, 0, none⟩ = some (.iface 214 (.agg #[.pointer (some ⟨16, 141, none⟩)])) := by
  have h1 := h _ (List.mem_singleton.2 rfl)
  simp only [hf] at h1
  obtain ⟨name, u, ty, e1, e2, e3, e4, e5⟩ := h1
  obtain rfl := Option.some.inj (e1.symm.trans hd)
  obtain rfl := Option.some.inj (Tryz.rtypeT.symm.trans e2)
  have hm : ty ∈ (List.range (405 - 100)).filter fun t => Tryz.prog.rowNamed t [101, 114, 114, 111, 114] := List.mem_filter.2 ⟨List.mem_range.2 (by rw [← Tryz.typesN]; exact e3), e4⟩
  rw [Tryz.oneRow] at hm
  obtain rfl := List.mem_singleton.1 hm
  have hh : typeHandle Tryz.prog 141 = .pointer (some ⟨16, 141, none⟩) := by kernel_rfl
  rw [hh] at e5
  simpa using World.var?_cell Tryz.gType e5 0

end Go.Proofs.YtpagenipflmlfaaGreatDoor

/- Carried: what the listed variables give a walk. -/

namespace Go.Proofs.YtpagenipflmlfaaGreatDoor

open Go.ChangeShapes Go.WideShapes Go.ChangeAt Go.RowKit Go.Deep

set_option maxRecDepth 100000 in
theorem glob_of_laid {W : World} (h : laidMetH Tryz.prog Rows.carriedRow.laid W) : Glob W := by
  have h' : laidMet Tryz.prog (Rows.carriedRow.laid.drop 1) W ∧ handlesMet Tryz.prog [("errors.errorType", Rows.laid_errors_errorType)] W := h
  obtain ⟨hL, hH⟩ := h'
  obtain ⟨a, s, h1, h2, h3, h4⟩ := laid_sent hL (List.mem_of_getElem? (i := 1) (l := Rows.carriedRow.laid.drop 1) (a := ("annals/stream.ErrSum", .iface "*errors.errorString" (.ptr (.agg [.lit (.string [97, 110, 111, 116, 104, 101, 114, 32, 99, 104, 101, 99, 107])])))) rfl) (show Tryz.prog.globalNamed "annals/stream.ErrSum" = some 0 by kernel_rfl) (by kernel_rfl)
  refine ⟨⟨a, h1, h4, fun g hg => ?_⟩, laid_type rfl rfl hH, laid_table hL (List.mem_of_getElem? (i := 0) rfl)⟩
  · obtain rfl | rfl | rfl | rfl | rfl | rfl | rfl | rfl | rfl | rfl | rfl | rfl | rfl : g = 1 ∨ g = 3 ∨ g = 4 ∨ g = 5 ∨ g = 6 ∨ g = 7 ∨ g = 9 ∨ g = 10 ∨ g = 11 ∨ g = 12 ∨ g = 13 ∨ g = 14 ∨ g = 15 := by unfold NoSum at hg; omega
    · obtain ⟨c, t, c1, c2, c3, c4⟩ := laid_sent hL (List.mem_of_getElem? (i := 9) (l := Rows.carriedRow.laid.drop 1) (a := ("annals/stream.errOther", .iface "*errors.errorString" (.ptr (.agg [.lit (.string [110, 111, 116, 32, 97, 115, 32, 116, 104, 101, 32, 115, 116, 114, 101, 97, 109, 32, 105, 115, 32, 119, 114, 105, 116, 116, 101, 110])])))) rfl) (show Tryz.prog.globalNamed "annals/stream.errOther" = some 1 by kernel_rfl) (by kernel_rfl)
      exact ⟨c, c1, fun e => by rw [e, h2] at c2; have e2 := Value.string.inj (Option.some.inj c2); rw [e2, c3] at h3; exact absurd h3 (by decide), c4⟩
    · obtain ⟨c, t, c1, c2, c3, c4⟩ := laid_sent hL (List.mem_of_getElem? (i := 10) (l := Rows.carriedRow.laid.drop 1) (a := ("annals/stream.errStates", .iface "*errors.errorString" (.ptr (.agg [.lit (.string [110, 111, 32, 115, 116, 97, 116, 101, 115, 32, 111, 102, 32, 97, 32, 115, 116, 114, 101, 97, 109])])))) rfl) (show Tryz.prog.globalNamed "annals/stream.errStates" = some 3 by kernel_rfl) (by kernel_rfl)
      exact ⟨c, c1, fun e => by rw [e, h2] at c2; have e2 := Value.string.inj (Option.some.inj c2); rw [e2, c3] at h3; exact absurd h3 (by decide), c4⟩
    · obtain ⟨c, t, c1, c2, c3, c4⟩ := laid_sent hL (List.mem_of_getElem? (i := 11) (l := Rows.carriedRow.laid.drop 1) (a := ("annals/stream.errMany", .iface "*errors.errorString" (.ptr (.agg [.lit (.string [116, 111, 111, 32, 109, 97, 110, 121, 32, 114, 101, 99, 111, 114, 100, 115])])))) rfl) (show Tryz.prog.globalNamed "annals/stream.errMany" = some 4 by kernel_rfl) (by kernel_rfl)
      exact ⟨c, c1, fun e => by rw [e, h2] at c2; have e2 := Value.string.inj (Option.some.inj c2); rw [e2, c3] at h3; exact absurd h3 (by decide), c4⟩
    · obtain ⟨c, t, c1, c2, c3, c4⟩ := laid_sent hL (List.mem_of_getElem? (i := 12) (l := Rows.carriedRow.laid.drop 1) (a := ("annals/stream.errText", .iface "*errors.errorString" (.ptr (.agg [.lit (.string [110, 111, 32, 107, 101, 121, 44, 32, 111, 114, 32, 110, 111, 32, 118, 97, 108, 117, 101])])))) rfl) (show Tryz.prog.globalNamed "annals/stream.errText" = some 5 by kernel_rfl) (by kernel_rfl)
      exact ⟨c, c1, fun e => by rw [e, h2] at c2; have e2 := Value.string.inj (Option.some.inj c2); rw [e2, c3] at h3; exact absurd h3 (by decide), c4⟩
    · obtain ⟨c, t, c1, c2, c3, c4⟩ := laid_sent hL (List.mem_of_getElem? (i := 13) (l := Rows.carriedRow.laid.drop 1) (a := ("annals/stream.errOrder", .iface "*errors.errorString" (.ptr (.agg [.lit (.string [107, 101, 121, 115, 32, 116, 104, 97, 116, 32, 100, 111, 32, 110, 111, 116, 32, 114, 105, 115, 101])])))) rfl) (show Tryz.prog.globalNamed "annals/stream.errOrder" = some 6 by kernel_rfl) (by kernel_rfl)
      exact ⟨c, c1, fun e => by rw [e, h2] at c2; have e2 := Value.string.inj (Option.some.inj c2); rw [e2, c3] at h3; exact absurd h3 (by decide), c4⟩
    · obtain ⟨c, t, c1, c2, c3, c4⟩ := laid_sent hL (List.mem_of_getElem? (i := 14) (l := Rows.carriedRow.laid.drop 1) (a := ("annals/stream.errGone", .iface "*errors.errorString" (.ptr (.agg [.lit (.string [103, 111, 110, 101, 32, 105, 110, 32, 97, 32, 102, 117, 108, 108, 32, 115, 116, 114, 101, 97, 109, 44, 32, 111, 114, 32, 119, 105, 116, 104, 32, 97, 32, 118, 97, 108, 117, 101])])))) rfl) (show Tryz.prog.globalNamed "annals/stream.errGone" = some 7 by kernel_rfl) (by kernel_rfl)
      exact ⟨c, c1, fun e => by rw [e, h2] at c2; have e2 := Value.string.inj (Option.some.inj c2); rw [e2, c3] at h3; exact absurd h3 (by decide), c4⟩
    · obtain ⟨c, t, c1, c2, c3, c4⟩ := laid_sent hL (List.mem_of_getElem? (i := 3) (l := Rows.carriedRow.laid.drop 1) (a := ("annals/stream.errLetters", .iface "*errors.errorString" (.ptr (.agg [.lit (.string [111, 116, 104, 101, 114, 32, 108, 101, 116, 116, 101, 114, 115])])))) rfl) (show Tryz.prog.globalNamed "annals/stream.errLetters" = some 9 by kernel_rfl) (by kernel_rfl)
      exact ⟨c, c1, fun e => by rw [e, h2] at c2; have e2 := Value.string.inj (Option.some.inj c2); rw [e2, c3] at h3; exact absurd h3 (by decide), c4⟩
    · obtain ⟨c, t, c1, c2, c3, c4⟩ := laid_sent hL (List.mem_of_getElem? (i := 2) (l := Rows.carriedRow.laid.drop 1) (a := ("annals/stream.errCut", .iface "*errors.errorString" (.ptr (.agg [.lit (.string [99, 117, 116, 32, 111, 102, 102])])))) rfl) (show Tryz.prog.globalNamed "annals/stream.errCut" = some 10 by kernel_rfl) (by kernel_rfl)
      exact ⟨c, c1, fun e => by rw [e, h2] at c2; have e2 := Value.string.inj (Option.some.inj c2); rw [e2, c3] at h3; exact absurd h3 (by decide), c4⟩
    · obtain ⟨c, t, c1, c2, c3, c4⟩ := laid_sent hL (List.mem_of_getElem? (i := 4) (l := Rows.carriedRow.laid.drop 1) (a := ("annals/stream.errNumber", .iface "*errors.errorString" (.ptr (.agg [.lit (.string [110, 111, 32, 110, 117, 109, 98, 101, 114])])))) rfl) (show Tryz.prog.globalNamed "annals/stream.errNumber" = some 11 by kernel_rfl) (by kernel_rfl)
      exact ⟨c, c1, fun e => by rw [e, h2] at c2; have e2 := Value.string.inj (Option.some.inj c2); rw [e2, c3] at h3; exact absurd h3 (by decide), c4⟩
    · obtain ⟨c, t, c1, c2, c3, c4⟩ := laid_sent hL (List.mem_of_getElem? (i := 6) (l := Rows.carriedRow.laid.drop 1) (a := ("annals/stream.errBlock", .iface "*errors.errorString" (.ptr (.agg [.lit (.string [97, 110, 111, 116, 104, 101, 114, 32, 99, 104, 101, 99, 107, 32, 111, 102, 32, 97, 32, 98, 108, 111, 99, 107])])))) rfl) (show Tryz.prog.globalNamed "annals/stream.errBlock" = some 12 by kernel_rfl) (by kernel_rfl)
      exact ⟨c, c1, fun e => by rw [e, h2] at c2; have e2 := Value.string.inj (Option.some.inj c2); rw [e2, c3] at h3; exact absurd h3 (by decide), c4⟩
    · obtain ⟨c, t, c1, c2, c3, c4⟩ := laid_sent hL (List.mem_of_getElem? (i := 7) (l := Rows.carriedRow.laid.drop 1) (a := ("annals/stream.errCount", .iface "*errors.errorString" (.ptr (.agg [.lit (.string [97, 110, 111, 116, 104, 101, 114, 32, 110, 117, 109, 98, 101, 114, 32, 111, 102, 32, 114, 101, 99, 111, 114, 100, 115])])))) rfl) (show Tryz.prog.globalNamed "annals/stream.errCount" = some 13 by kernel_rfl) (by kernel_rfl)
      exact ⟨c, c1, fun e => by rw [e, h2] at c2; have e2 := Value.string.inj (Option.some.inj c2); rw [e2, c3] at h3; exact absurd h3 (by decide), c4⟩
    · obtain ⟨c, t, c1, c2, c3, c4⟩ := laid_sent hL (List.mem_of_getElem? (i := 8) (l := Rows.carriedRow.laid.drop 1) (a := ("annals/stream.errBehind", .iface "*errors.errorString" (.ptr (.agg [.lit (.string [115, 111, 109, 101, 116, 104, 105, 110, 103, 32, 98, 101, 104, 105, 110, 100, 32, 116, 104, 101, 32, 101, 110, 100])])))) rfl) (show Tryz.prog.globalNamed "annals/stream.errBehind" = some 14 by kernel_rfl) (by kernel_rfl)
      exact ⟨c, c1, fun e => by rw [e, h2] at c2; have e2 := Value.string.inj (Option.some.inj c2); rw [e2, c3] at h3; exact absurd h3 (by decide), c4⟩
    · obtain ⟨c, t, c1, c2, c3, c4⟩ := laid_sent hL (List.mem_of_getElem? (i := 5) (l := Rows.carriedRow.laid.drop 1) (a := ("annals/stream.errBounds", .iface "*errors.errorString" (.ptr (.agg [.lit (.string [97, 32, 110, 117, 109, 98, 101, 114, 32, 111, 117, 116, 32, 111, 102, 32, 105, 116, 115, 32, 98, 111, 117, 110, 100, 115])])))) rfl) (show Tryz.prog.globalNamed "annals/stream.errBounds" = some 15 by kernel_rfl) (by kernel_rfl)
      exact ⟨c, c1, fun e => by rw [e, h2] at c2; have e2 := Value.string.inj (Option.some.inj c2); rw [e2, c3] at h3; exact absurd h3 (by decide), c4⟩

end Go.Proofs.YtpagenipflmlfaaGreatDoor

/- Deltas: what is told of two states, and what it makes of the first: pure. -/

namespace Go.Proofs.YtpagenipflmlfaaGreatDoor

open Go.RowKit Go.Shelf

/-- what stands of a key, by the record of it that a stream tells -/
def pairR (k : ByteArray) (r : RecB) : Option (ByteArray × ByteArray) := if r.gone = true then none else some (k, r.value)

def recOf (l : List RecB) (k : ByteArray) : Option RecB := l.find? (fun r => decide (r.key = k))

theorem pairs_ext {A B : Gst} (ha : Gok A) (hb : Gok B) {s t : Int} (h : ∀ k, pairOf [] A.vers s k = pairOf [] B.vers t k) : A.pairs s = B.pairs t := by
  unfold Gst.pairs
  have e : pairOf [] A.vers s = pairOf [] B.vers t := funext h
  rw [e]
  exact filterMap_rises ha.rises hb.rises (fun k hk => (ha.keys k).2 (pair_some (by rw [e]; exact hk))) (fun k hk => (hb.keys k).2 (pair_some hk))

theorem upN_eqs {vs : List Ver} {s t : Int} (hr : Rising vs) (hst : s ≤ t) (h : ∀ v, atVer vs t = some v → v.state ≤ s) : upN vs s = upN vs t := by
  have hm := upN_mono hst hr
  have hle := upN_le vs t
  obtain ⟨h1, h2⟩ := upN_spec (t := s) hr
  by_cases hlt : upN vs s < upN vs t
  · exfalso
    have hl : upN vs t - 1 < vs.length := by omega
    have h3 := h2 (upN vs t - 1) hl (by omega)
    have h4 := h vs[upN vs t - 1] (by unfold atVer; rw [if_neg (by omega), List.getElem?_eq_getElem hl])
    omega
  · omega

theorem at_same {vs : List Ver} {s t : Int} (hr : Rising vs) (hst : s ≤ t) (h : ∀ v, atVer vs t = some v → v.state ≤ s) : atVer vs s = atVer vs t := by
  unfold atVer
  rw [upN_eqs hr hst h]

/-- what stands at the second state, by the delta -/
theorem delta_point {vers : ByteArray → List Ver} {k : ByteArray} (hr : Rising (vers k)) {a b : Int} (hab : a ≤ b) : pairOf [] vers b k = match tellOf (Cop.new false a b) vers k with
    | some r => pairR k r
    | none => pairOf [] vers a k := by
  have e1 : (Cop.new false a b).to = b := rfl
  unfold tellOf
  rw [e1, pair_nil]
  cases hv : atVer (vers k) b with
  | none =>
    have := at_same hr hab (fun v h => by rw [hv] at h; cases h)
    simp only [tellV]
    rw [pair_nil, this, hv]
  | some v =>
    by_cases hs : a < v.state
    · have ht : tellsB (Cop.new false a b) v = true := by simp [tellsB, Cop.new, hs]
      simp only [tellV, ht, if_true, pairR]
      cases hg : v.gone <;> simp [standsB, hg]
    · have ht : tellsB (Cop.new false a b) v = false := by simp [tellsB, Cop.new, hs]
      have := at_same hr hab (fun u h => by rw [hv] at h; cases h; omega)
      simp only [tellV, ht, Bool.false_eq_true, if_false]
      rw [pair_nil, this, hv]

theorem find_filterMap {f : ByteArray → Option RecB} (hf : ∀ k r, f k = some r → r.key = k) (k : ByteArray) : ∀ (ks : List ByteArray), (k ∉ ks → f k = none) → recOf (ks.filterMap f) k = f k
  | [], h => by rw [h (by simp)]; rfl
  | j :: ks, h => by
    by_cases e : j = k
    · subst e
      cases hj : f j with
      | none =>
        have ih := find_filterMap hf j ks (fun _ => hj)
        rw [List.filterMap_cons, hj]
        simp only
        rw [ih, hj]
      | some r =>
        rw [List.filterMap_cons, hj]
        simp [recOf, hf j r hj]
    · have ih := find_filterMap hf k ks (fun hk => h (by simp [hk, Ne.symm e]))
      cases hj : f j with
      | none => rw [List.filterMap_cons, hj]; exact ih
      | some r =>
        have hr := hf j r hj
        rw [List.filterMap_cons, hj]
        unfold recOf at ih ⊢
        rw [List.find?_cons]
        have : decide (r.key = k) = false := by rw [hr]; simp [e]
        simp only [this]
        exact ih

theorem recOf_tell {A : Gst} (h : Gok A) (full : Bool) (a b : Int) (k : ByteArray) : recOf (tellL A.keys A.vers (Cop.new full a b)) k = tellOf (Cop.new full a b) A.vers k := by
  unfold tellL
  have e0 : (Cop.new full a b).next = ByteArray.empty := rfl
  rw [e0, below_none, List.drop_zero]
  refine find_filterMap (fun k r h => tellOf_key h) k _ (fun hk => ?_)
  have hv : A.vers k = [] := Classical.not_not.1 (fun hn => hk ((h.keys k).2 hn))
  unfold tellOf
  rw [hv]
  simp [atVer, upN, tellV]

/-- a delta has been applied -/
def Gst.grown (A : Gst) (l : List RecB) (t : Int) : Gst := { A with now := t, keys := insAll A.keys (l.map RecB.key), vers := fun k => if memB (l.map RecB.key) k then A.vers k ++ [verR l t k] else A.vers k }

theorem recOf_mem {l : List RecB} {k : ByteArray} {r : RecB} (h : recOf l k = some r) : r ∈ l ∧ r.key = k := by
  unfold recOf at h
  exact ⟨List.mem_of_find?_eq_some h, by have := List.find?_some h; simpa using this⟩

theorem recOf_none {l : List RecB} {k : ByteArray} (h : recOf l k = none) : memB (l.map RecB.key) k = false := by
  rw [Bool.eq_false_iff]
  intro hm
  obtain ⟨r, hr, e⟩ := List.mem_map.1 ((memB_iff _ _).1 hm)
  have := List.find?_eq_none.1 h r hr
  simp [e] at this

theorem grown_point {A : Gst} (h : Gok A) {l : List RecB} (hr : Rises (l.map RecB.key)) {t : Int} (ht : A.now < t) (k : ByteArray) : pairOf [] (A.grown l t).vers t k = match recOf l k with
    | some r => pairR k r
    | none => pairOf [] A.vers A.now k := by
  cases hx : recOf l k with
  | none =>
    have hm := recOf_none hx
    have e : (A.grown l t).vers k = A.vers k := by show (if memB (l.map RecB.key) k then _ else _) = _; rw [hm]; rfl
    simp only
    rw [pair_nil, pair_nil, e, at_same (s := A.now) (t := t) (h.rising k) (by omega) (fun v hv => (h.states k v (atVer_mem hv)).2)]
  | some r =>
    obtain ⟨h1, h2⟩ := recOf_mem hx
    obtain ⟨j, hj, e⟩ := List.mem_iff_getElem.1 h1
    have hm : memB (l.map RecB.key) k = true := (memB_iff _ _).2 (List.mem_map.2 ⟨r, h1, h2⟩)
    have ev : (A.grown l t).vers k = A.vers k ++ [⟨t, r.value, r.gone⟩] := by
      show (if memB (l.map RecB.key) k then _ else _) = _
      rw [hm, if_pos rfl]
      have := verR_at (to := t) hr hj
      rw [e, h2] at this
      rw [this]
    have hat : atVer (A.vers k ++ [⟨t, r.value, r.gone⟩]) t = some ⟨t, r.value, r.gone⟩ := by
      have hR : Rising (A.vers k ++ [⟨t, r.value, r.gone⟩]) := by
        unfold Rising
        rw [List.pairwise_append]
        refine ⟨h.rising k, List.pairwise_singleton _ _, fun a ha b hb => ?_⟩
        have := (h.states k a ha).2
        simp at hb
        subst hb
        show a.state < t
        omega
      have hu := upN_all (t := t) hR (fun v hv => by
        rcases List.mem_append.1 hv with hv | hv
        · have := (h.states k v hv).2; omega
        · simp at hv; subst hv; exact Int.le_refl _)
      unfold atVer
      rw [hu]
      simp
    rw [pair_nil, ev, hat]
    simp only [pairR]
    cases hg : r.gone <;> simp [standsB]

/-- a delta applied where its first state stands: the second stands -/
theorem applied_pairs {A B : Gst} (ha : Gok A) (hb : Gok B) {a b : Int} {l : List RecB} (hg : Gok (B.grown l b)) (hab : a < b) (hn : B.now = a) (hl : tellL A.keys A.vers (Cop.new false a b) = l) (h : ∀ k, pairOf [] B.vers a k = pairOf [] A.vers a k) : (∀ k, pairOf [] (B.grown l b).vers b k = pairOf [] A.vers b k) ∧ (B.grown l b).pairs b = A.pairs b := by
  have hp : ∀ k, pairOf [] (B.grown l b).vers b k = pairOf [] A.vers b k := fun k => by
    have hr : Rises (l.map RecB.key) := by rw [← hl]; exact tell_rises ha.rises _ _
    rw [grown_point hb hr (by omega) k, delta_point (ha.rising k) (show a ≤ b by omega), ← hl, recOf_tell ha, hn, h]
  exact ⟨hp, pairs_ext hg ha hp⟩

end Go.Proofs.YtpagenipflmlfaaGreatDoor
