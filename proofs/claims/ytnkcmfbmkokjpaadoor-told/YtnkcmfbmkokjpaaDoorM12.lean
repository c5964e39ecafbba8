import Derived.Test.YtnkcmfbmkokjpaaDoorM11
import Derived.Laws.IdiomStrings

/- Streams that are written and read again: pure. -/
namespace Go.Proofs.YtnkcmfbmkokjpaaDoor
open Go.RowKit Go.Shelf

theorem rec_recB (r : RecB) : recB r.rec_ = r := by
  obtain ⟨k, v, g⟩ := r
  show RecB.mk (ofL k.data.toList) (ofL v.data.toList) g = _
  rw [ofL_self, ofL_self]
theorem recs_recB (l : List RecB) : (l.map RecB.rec_).map recB = l := by
  rw [List.map_map]
  have : (recB ∘ RecB.rec_) = id := funext fun r => rec_recB r
  rw [this, List.map_id]

/-- what judge lets by can be read again -/
theorem judge_ok {full : Bool} {a b : Nat} {l : List RecB} (h : judgeB full a b l = true) : Str.ok ⟨full, a, b, l.map RecB.rec_⟩ := by
  obtain ⟨h1, h2, h3, -⟩ := judge_facts h
  refine ⟨by show a < _; omega, by show b < _; omega, by show (l.map RecB.rec_).length < _; rw [List.length_map]; omega, fun r hr => ?_⟩
  obtain ⟨x, hx, rfl⟩ := List.mem_map.1 hr
  obtain ⟨k, hk, rfl⟩ := List.mem_iff_getElem.1 hx
  unfold judgeB at h
  simp only [Bool.and_eq_true] at h
  have h4 := okTo_mono (show k + 1 ≤ l.length by omega) h.2
  rw [okTo_next hk, Bool.and_eq_true] at h4
  have h5 := h4.2
  unfold okRec at h5
  simp only [Bool.and_eq_true] at h5
  obtain ⟨⟨⟨h6, h7⟩, -⟩, h8⟩ := h5
  simp [keyB] at h6
  simp [valB] at h7
  refine ⟨by show 1 ≤ l[k].key.size; omega, by show l[k].key.size ≤ 10; omega, by show l[k].value.size ≤ 40; omega, fun hg => ?_⟩
  have hg' : l[k].gone = true := hg
  rw [hg'] at h8
  cases he : l[k].value.toList.isEmpty with
  | false => rw [he] at h8; simp at h8
  | true =>
    show l[k].value.data.toList = []
    have h9 := List.isEmpty_iff.1 he
    rw [ByteArray.toList_eq] at h9
    exact h9

theorem stream_split (x : Str) : (streamL x).length = (bodyL x).length + 4 ∧ (streamL x).take (bodyL x).length = bodyL x ∧ (streamL x).drop (bodyL x).length = checkL (bodyL x) := by
  unfold streamL
  refine ⟨by rw [List.length_append, checkL_length], by simp, by simp⟩

theorem read_self {full : Bool} {a b : Nat} {l : List RecB} (h : judgeB full a b l = true) : readO (streamL ⟨full, a, b, l.map RecB.rec_⟩) = .ok ⟨full, a, b, l.map RecB.rec_⟩ := by
  obtain ⟨h1, h2, h3⟩ := stream_split ⟨full, a, b, l.map RecB.rec_⟩
  unfold readO
  rw [if_neg (by omega), show (streamL ⟨full, a, b, l.map RecB.rec_⟩).length - 4 = (bodyL ⟨full, a, b, l.map RecB.rec_⟩).length by omega, h2, h3, if_pos rfl, coreR_body (judge_ok h)]
  show (if _ then _ else _) = _
  refine if_pos ⟨?_, rfl⟩
  show judgeB full a b ((l.map RecB.rec_).map recB) = true
  rw [recs_recB]
  exact h

theorem read_turned (x : Str) {k : Nat} {d : UInt8} (hk : k < (streamL x).length) (hd : (streamL x)[k] ≠ d) : readO ((streamL x).set k d) = .sum := by
  obtain ⟨h1, h2, h3⟩ := stream_split x
  have h4 := check_turned hk (by rw [show (streamL x).length - 4 = (bodyL x).length by omega, h2, h3]) hd
  unfold readO
  rw [List.length_set, if_neg (by omega), if_neg h4]

theorem read_ok {t : List UInt8} {s : Str} (h : readO t = .ok s) : streamL s = t ∧ judgeS s = true := by
  unfold readO at h
  split at h
  · cases h
  · split at h
    · split at h
      · cases h
      · split at h
        · rename_i hh
          cases h
          exact ⟨hh.2, hh.1⟩
        · cases h
    · cases h

theorem stream_len {full : Bool} {a b : Nat} {l : List RecB} (h : judgeB full a b l = true) (hl : l.length ≤ 12) : (streamL ⟨full, a, b, l.map RecB.rec_⟩).length ≤ 100000 ∧ 4 ≤ (streamL ⟨full, a, b, l.map RecB.rec_⟩).length := by
  obtain ⟨h1, h2, h3, hs⟩ := judge_facts h
  have e := (parts_all l.length l (Nat.le_refl _)).1
  have p := (parts_len hs (List.range ((l.length + 3) / 4))).1
  rw [e, List.length_range] at p
  have n1 := numL_len 8 a (by omega)
  have n2 := numL_len 8 b (by omega)
  have n3 := numL_len 8 0 (by omega)
  have n4 := numL_len 8 (l.map RecB.rec_).length (by rw [List.length_map]; omega)
  have k1 : (kindL full).length = 4 := by cases full <;> rfl
  have hb : (bodyL ⟨full, a, b, l.map RecB.rec_⟩).length ≤ 99000 := by
    unfold bodyL headL
    simp only [List.length_append]
    omega
  have := (stream_split ⟨full, a, b, l.map RecB.rec_⟩).1
  omega

/-- the turned byte is another -/
theorem xor_u8 {a b : Nat} (ha : a < 256) (hb : b < 256) : bits .xor .u8 (a : Int) (b : Int) = ((a ^^^ b : Nat) : Int) := by
  have hx : a ^^^ b < 2 ^ 8 := Nat.xor_lt_two_pow (by omega) (by omega)
  have h1 : (BitVec.ofInt 8 (a : Int)).toNat = a := by
    rw [BitVec.ofInt_natCast, BitVec.toNat_ofNat]; exact Nat.mod_eq_of_lt (by omega)
  have h2 : (BitVec.ofInt 8 (b : Int)).toNat = b := by
    rw [BitVec.ofInt_natCast, BitVec.toNat_ofNat]; exact Nat.mod_eq_of_lt (by omega)
  show IntKind.u8.wrap ((BitVec.ofInt 8 (a : Int) ^^^ BitVec.ofInt 8 (b : Int)).toNat : Int) = _
  rw [BitVec.toNat_xor, h1, h2, IntKind.wrap_u8]
  omega
theorem turned_ne {x : UInt8} {m : Nat} (h0 : 1 ≤ m) (h1 : m < 256) : x ≠ UInt8.ofNat (x.toNat ^^^ m) := by
  intro e
  have e1 := congrArg UInt8.toNat e
  have hx : x.toNat < 256 := x.toNat_lt
  rw [toNat_ofNat (Nat.xor_lt_two_pow (n := 8) hx h1)] at e1
  have : m = 0 := by
    have h2 := congrArg (x.toNat ^^^ ·) e1
    simp only [Nat.xor_self] at h2
    rw [← Nat.xor_assoc, Nat.xor_self, Nat.zero_xor] at h2
    exact h2.symm
  omega

/-- a text's bytes, in a row of their own -/
theorem bytes_conv (s : List UInt8) (sv : ByteArray) (h : sv = ofL s) (W : World) : ∃ cap w8, (convert 9 35 (.string sv)).run Tryd.prog W = .ok (.slice (some ⟨W.heap.size, 0, none⟩) sv.size cap) w8 ∧ (∀ j (hj : j < s.length), w8.cell? ⟨W.heap.size, j, none⟩ = some (.int .u8 (s[j].toNat : Nat)) ∧ w8.frozen? ⟨W.heap.size, j, none⟩ = false) ∧ Keeps (fun _ => False) W w8 ∧ W.heap.size < w8.heap.size := by
  subst h
  refine ⟨_, _, run_bytes_of_string W 9 35 5 (ofL s) Tryd.underlying9 Tryd.underlying35 Tryd.underlying5, fun j hj => ?_, ((Keeps.refl _ W).dr).al _, by simp⟩
  have hn := heap_new W.drew (.cells (bytesRow (ofL s) (grownCap W (ofL s).size 0 5)) 5 ((bytesRow (ofL s) (grownCap W (ofL s).size 0 5)).size, (bytesRow (ofL s) (grownCap W (ofL s).size 0 5)).size + 1))
  have hsz : (ofL s).size = s.length := ofL_size s
  have hrs : s.length ≤ (bytesRow (ofL s) (grownCap W (ofL s).size 0 5)).size := by
    unfold bytesRow
    rw [Array.size_append, Array.size_map]
    have : (ofL s).data.size = s.length := hsz
    omega
  constructor
  · have hc : (W.drew.alloc (.cells (bytesRow (ofL s) (grownCap W (ofL s).size 0 5)) 5 ((bytesRow (ofL s) (grownCap W (ofL s).size 0 5)).size, (bytesRow (ofL s) (grownCap W (ofL s).size 0 5)).size + 1))).cell? ⟨W.heap.size, j, none⟩ = (bytesRow (ofL s) (grownCap W (ofL s).size 0 5))[j]? := cell_of_heap hn j
    rw [hc]
    unfold bytesRow
    rw [Array.getElem?_append_left (by rw [Array.size_map]; have : (ofL s).data.size = s.length := hsz; omega)]
    simp [ofL, hj]
  · have hf : (W.drew.alloc (.cells (bytesRow (ofL s) (grownCap W (ofL s).size 0 5)) 5 ((bytesRow (ofL s) (grownCap W (ofL s).size 0 5)).size, (bytesRow (ofL s) (grownCap W (ofL s).size 0 5)).size + 1))).heap[W.heap.size]? = _ := hn
    simp only [World.frozen?, hf]
    simp
    omega

/-- the row read again, one byte turned -/
theorem bytes_back (s : List UInt8) (w8 : World) (g cap k : Nat) (d : UInt8) (hk : k < s.length) (hc : ∀ j (hj : j < s.length), w8.cell? ⟨g, j, none⟩ = some (.int .u8 (s[j].toNat : Nat)) ∧ w8.frozen? ⟨g, j, none⟩ = false) :
    (convert 35 9 (.slice (some ⟨g, 0, none⟩) s.length cap)).run Tryd.prog (w8.setCell ⟨g, k, none⟩ (.int .u8 (d.toNat : Nat))) = .ok (.string (ofL (s.set k d))) (w8.setCell ⟨g, k, none⟩ (.int .u8 (d.toNat : Nat))) := by
  have h := run_convert_bytes_back (P := Tryd.prog) (w8.setCell ⟨g, k, none⟩ (.int .u8 (d.toNat : Nat))) 35 9 5 ⟨g, 0, none⟩ cap (s.set k d) Tryd.underlying35 Tryd.underlying5 Tryd.underlying9 (fun j hj => by
    have hj2 : j < s.length := by rw [List.length_set] at hj; exact hj
    rw [Addr.add_lit, Nat.zero_add]
    by_cases e : j = k
    · subst e
      rw [World.cell?_setCell_same _ _ _ (hc j hj2).1]
      simp
    · rw [World.cell?_setCell_other _ _ _ _ (by simp; first | done | omega), (hc j hj2).1]
      rw [List.getElem_set_ne (by omega)])
  rw [List.length_set] at h
  exact h

end Go.Proofs.YtnkcmfbmkokjpaaDoor
