/- The calls that Steady makes of its work. -/
import Derived.Test.YthgojidgaeimnaaV8
namespace Go.Proofs.Ythgojidgaeimnaa
open Go.RowKit Go.Shelf

theorem look_one {β : Type} (n : Int) (x : β) : look [(n, x)] n = some x := by simp [look]

/-- behind Begin -/
def BegunAt (w0 : World) (b : Nat) (wn bg : Int) (A : Abs) (wr : World) : Prop :=
  SAt K12 (fun j => j < w0.heap.size) wr b A ∧ A.works = [(wn, (bg, []))] ∧ (bg ≤ A.now ∧ A.now ≤ 100000) ∧ (1 ≤ A.begun ∧ A.begun ≤ 100001) ∧ Keeps (fun _ => False) w0 wr

theorem steady_begin {w0 wr : World} {b : Nat} (h : FirstBefore w0 b wr) :
    Calls Try.prog 7 #[.pointer (some ⟨b, 0, none⟩)] wr fun e w' => ∃ wn bg A, e = .returned (.tuple #[.int .i64 wn, .int .i64 0]) ∧ BegunAt w0 b wn bg A w' := by
  obtain ⟨A, s, a1, a2, a3, k⟩ := h
  have hS := s.sound.begun
  refine (begin_s s (fun j hj => Nat.lt_of_lt_of_le hj k.size) (by rw [a1]; simp) (by omega)).mono ?_
  rintro e w' ⟨rfl, s2, k2⟩
  refine ⟨A.begun + 1, A.now, A.opened, rfl, s2, by simp [Abs.opened, a1], ⟨Int.le_refl _, a2⟩, ⟨?_, ?_⟩, k.trans k2 (fun j hj h => h hj)⟩
  · show 1 ≤ A.begun + 1
    omega
  · show A.begun + 1 ≤ _
    omega

theorem steady_scan0 {w0 wr : World} {b : Nat} {wn bg : Int} {A : Abs} (h : BegunAt w0 b wn bg A wr) :
    Calls Try.prog 16 #[.pointer (some ⟨b, 0, none⟩), .int .i64 wn, .string ⟨#[]⟩, .int .i64 (-1)] wr fun e w' => ∃ ps vl, e = .returned (.tuple #[vl, .int .i64 0]) ∧ SteadyAt w0 b wn bg ps vl 0 A w' := by
  obtain ⟨s, a1, a2, a3, k⟩ := h
  have s' := s.more (O' := fun j => j < w0.heap.size ∨ wr.heap.size ≤ j) (fun j hj => hj)
  refine (scan_s s' (by rw [a1]; exact look_one _ _)).mono ?_
  rintro e w' ⟨v, rfl, hrow, hown, s2, k2⟩
  refine ⟨_, v, rfl, s2.more (fun j hj => ?_), a1, rfl, ⟨a2.1, by have := a2.2; omega⟩, ⟨a3.1, by have := a3.2; omega⟩, hrow, fun g hg => Nat.le_trans k.size (hown g hg), k.tr k2 (fun _ h => h)⟩
  rcases hj with hj | hj
  · exact .inl (.inl hj)
  · exact .inl (.inr (hown j hj))

theorem SteadyAt.still {w0 : World} {b : Nat} {wn bg : Int} {ps : List (ByteArray × ByteArray)} {vl : Value} {k : Nat} {A : Abs} {wr w' : World} (h : SteadyAt w0 b wn bg ps vl k A wr) (hk : Keeps (fun _ => False) wr w') : SteadyAt w0 b wn bg ps vl k A w' :=
  h.kept (h.st.kept hk (fun _ _ h => h.elim)) (hk.mono (fun _ _ h => h.elim)) rfl rfl h.now h.begun

theorem SteadyAt.scanned {w0 : World} {b : Nat} {wn bg : Int} {ps : List (ByteArray × ByteArray)} {vl : Value} {k : Nat} {A : Abs} {wr : World} (h : SteadyAt w0 b wn bg ps vl k A wr) :
    Calls Try.prog 16 #[.pointer (some ⟨b, 0, none⟩), .int .i64 wn, .string ⟨#[]⟩, .int .i64 (-1)] wr fun e w' => ∃ m, e = .returned (.tuple #[m, .int .i64 0]) ∧ SteadyAt w0 b wn bg ps vl k A w' ∧ Row w' 52 2 m ps.length (ps.flatMap pairCells) := by
  refine (scan_s h.st (by rw [h.works]; exact look_one _ _)).mono ?_
  rintro e w' ⟨v, rfl, hrow, -, -, k2⟩
  rw [h.scan] at hrow
  exact ⟨v, rfl, h.still k2, hrow⟩

theorem SteadyAt.sweeps {w0 : World} {b : Nat} {wn bg : Int} {ps : List (ByteArray × ByteArray)} {vl : Value} {k : Nat} {A : Abs} {wr : World} (h : SteadyAt w0 b wn bg ps vl k A wr) :
    Calls Try.prog 17 #[.pointer (some ⟨b, 0, none⟩)] wr fun e w' => ∃ (z : Int) (A' : Abs), e = .returned (.int .i64 z) ∧ SteadyAt w0 b wn bg ps vl k A' w' := by
  refine (sweep_s h.st h.room K12_len h.begun.1).mono ?_
  rintro e w' ⟨L, z, rfl, hL, s, hk⟩
  exact ⟨z, _, rfl, h.swept hL s hk⟩

/-- the work has written -/
structure OwnAt (w0 : World) (b : Nat) (wn bg : Int) (ps : List (ByteArray × ByteArray)) (vl : Value) (ws : List (ByteArray × Ver)) (A : Abs) (wr : World) : Prop where
  st : SAt K12 (fun j => j < w0.heap.size ∨ vl.ownBlock = some j) wr b A
  works : A.works = [(wn, (bg, ws))]
  scan : A.scan bg [] = ps
  row : Row wr 52 2 vl ps.length (ps.flatMap pairCells)
  own : ∀ g, vl.ownBlock = some g → w0.heap.size ≤ g
  keep : Keeps (fun _ => False) w0 wr

theorem SteadyAt.mine {w0 : World} {b : Nat} {wn bg : Int} {ps : List (ByteArray × ByteArray)} {vl : Value} {k : Nat} {A : Abs} {wr : World} (h : SteadyAt w0 b wn bg ps vl k A wr) : OwnAt w0 b wn bg ps vl [] A wr :=
  ⟨h.st, h.works, h.scan, h.row, h.own, h.keep⟩

theorem OwnAt.still {w0 : World} {b : Nat} {wn bg : Int} {ps : List (ByteArray × ByteArray)} {vl : Value} {ws : List (ByteArray × Ver)} {A : Abs} {wr w' : World} (h : OwnAt w0 b wn bg ps vl ws A wr) (hk : Keeps (fun _ => False) wr w') : OwnAt w0 b wn bg ps vl ws A w' :=
  ⟨h.st.kept hk (fun _ _ h => h.elim), h.works, h.scan, h.row.kept hk (fun _ _ h => h), h.own, h.keep.tr hk (fun _ h => h)⟩

theorem OwnAt.wrote {w0 : World} {b : Nat} {wn bg : Int} {ps : List (ByteArray × ByteArray)} {vl : Value} {ws : List (ByteArray × Ver)} {A : Abs} {wr w' : World} {key : ByteArray} {v : Ver} (h : OwnAt w0 b wn bg ps vl ws A wr) (s : SAt K12 (fun j => j < w0.heap.size ∨ vl.ownBlock = some j) w' b (A.wrote wn bg ws key v)) (hk : Keeps (fun j => ¬ (j < w0.heap.size ∨ vl.ownBlock = some j)) wr w') :
    OwnAt w0 b wn bg ps vl (put ws key v) (A.wrote wn bg ws key v) w' :=
  ⟨s, by simp [Abs.wrote, h.works, put], h.scan, h.row.kept hk (fun _ hg hn => hn (.inr hg)), h.own, h.keep.trans hk (fun _ hj hn => hn (.inl hj))⟩

theorem OwnAt.puts {w0 : World} {b : Nat} {wn bg : Int} {ps : List (ByteArray × ByteArray)} {vl : Value} {A : Abs} {wr : World} {j : Nat} {val : ByteArray} (h : OwnAt w0 b wn bg ps vl [] A wr) (hj : j < 12) (hv : valB val = true) :
    Calls Try.prog 10 #[.pointer (some ⟨b, 0, none⟩), .int .i64 wn, .string (keyZ j), .string val] wr fun e w' => ∃ A', e = .returned (.int .i64 0) ∧ OwnAt w0 b wn bg ps vl [(keyZ j, ⟨0, val, false⟩)] A' w' := by
  refine (put_s h.st K12_len (by rw [h.works]; exact look_one _ _) (key_mem (by omega) (by omega)) (key_ok (by omega) (by omega)) hv).mono ?_
  rintro e w' ⟨rfl, s, hk⟩
  exact ⟨_, rfl, h.wrote s hk⟩

theorem OwnAt.gets {w0 : World} {b : Nat} {wn bg : Int} {ps : List (ByteArray × ByteArray)} {vl : Value} {A : Abs} {wr : World} {j : Nat} {val : ByteArray} (h : OwnAt w0 b wn bg ps vl [(keyZ j, ⟨0, val, false⟩)] A wr) (hj : j < 12) :
    Calls Try.prog 14 #[.pointer (some ⟨b, 0, none⟩), .int .i64 wn, .string (keyZ j)] wr fun e w' => e = .returned (.tuple #[.string val, .int .i64 0]) ∧ OwnAt w0 b wn bg ps vl [(keyZ j, ⟨0, val, false⟩)] A w' := by
  have e : A.get wn (keyZ j) = (val, 0) := by
    have hk : keyB (keyZ j) = true := key_ok (by omega) (by omega)
    simp [Abs.get, h.works, look, hk, seeVer, standsB]
  refine (get_s (n := wn) h.st (key_size (k := j) (by omega) (by omega))).mono ?_
  rintro e' w' ⟨rfl, -, hk⟩
  rw [e]
  exact ⟨rfl, h.still hk⟩

theorem OwnAt.deletes {w0 : World} {b : Nat} {wn bg : Int} {ps : List (ByteArray × ByteArray)} {vl : Value} {A : Abs} {wr : World} {j : Nat} {val : ByteArray} (h : OwnAt w0 b wn bg ps vl [(keyZ j, ⟨0, val, false⟩)] A wr) (hj : j < 12) :
    Calls Try.prog 19 #[.pointer (some ⟨b, 0, none⟩), .int .i64 wn, .string (keyZ j)] wr fun e w' => ∃ A', e = .returned (.int .i64 0) ∧ OwnAt w0 b wn bg ps vl [(keyZ j, ⟨0, ByteArray.empty, true⟩)] A' w' := by
  refine (delete_s h.st K12_len (by rw [h.works]; exact look_one _ _) (key_mem (k := j) (by omega) (by omega)) (key_ok (by omega) (by omega))).mono ?_
  rintro e w' ⟨rfl, s, hk⟩
  have h2 := h.wrote s hk
  simp only [put, if_true] at h2
  exact ⟨_, rfl, h2⟩

theorem OwnAt.getsNone {w0 : World} {b : Nat} {wn bg : Int} {ps : List (ByteArray × ByteArray)} {vl : Value} {A : Abs} {wr : World} {j : Nat} (h : OwnAt w0 b wn bg ps vl [(keyZ j, ⟨0, ByteArray.empty, true⟩)] A wr) (hj : j < 12) :
    Calls Try.prog 14 #[.pointer (some ⟨b, 0, none⟩), .int .i64 wn, .string (keyZ j)] wr fun e w' => e = .returned (.tuple #[.string ⟨#[]⟩, .int .i64 1]) ∧ OwnAt w0 b wn bg ps vl [(keyZ j, ⟨0, ByteArray.empty, true⟩)] A w' := by
  have e : A.get wn (keyZ j) = (⟨#[]⟩, 1) := by
    have hk : keyB (keyZ j) = true := key_ok (by omega) (by omega)
    simp [Abs.get, h.works, look, hk, seeVer, standsB]
    rfl
  refine (get_s (n := wn) h.st (key_size (k := j) (by omega) (by omega))).mono ?_
  rintro e' w' ⟨rfl, -, hk⟩
  rw [e]
  exact ⟨rfl, h.still hk⟩

theorem OwnAt.scanned {w0 : World} {b : Nat} {wn bg : Int} {ps : List (ByteArray × ByteArray)} {vl : Value} {key : ByteArray} {A : Abs} {wr : World} (h : OwnAt w0 b wn bg ps vl [(key, ⟨0, ByteArray.empty, true⟩)] A wr) :
    Calls Try.prog 16 #[.pointer (some ⟨b, 0, none⟩), .int .i64 wn, .string ⟨#[]⟩, .int .i64 (-1)] wr fun e w' => ∃ m, e = .returned (.tuple #[m, .int .i64 0]) ∧ Keeps (fun _ => False) w0 w' ∧ Row w' 52 2 vl ps.length (ps.flatMap pairCells) ∧
      Row w' 52 2 m (ps.filter (fun p => decide (p.1 ≠ key))).length ((ps.filter (fun p => decide (p.1 ≠ key))).flatMap pairCells) := by
  refine (scan_s h.st (by rw [h.works]; exact look_one _ _)).mono ?_
  rintro e w' ⟨v, rfl, hrow, -, -, k2⟩
  rw [scan_gone, h.scan] at hrow
  exact ⟨v, rfl, (h.still k2).keep, (h.still k2).row, hrow⟩

/-- what is wanted, as far as it has been made -/
def WantAt (w9 : World) (v : Value) (xs : List (ByteArray × ByteArray)) (wr : World) : Prop :=
  Row wr 52 2 v xs.length (xs.flatMap pairCells) ∧ (∀ g, v.ownBlock = some g → w9.heap.size ≤ g) ∧ Keeps (fun _ => False) w9 wr

theorem want_step {w9 wr w5 : World} {v v' : Value} {xs : List (ByteArray × ByteArray)} {p : ByteArray × ByteArray} {o : Obj} (h : WantAt w9 v xs wr) (hr : Row w5 52 2 v' (xs.length + 1) (xs.flatMap pairCells ++ [.string p.1, .string p.2])) (hg : (wr.alloc o).grownBy w5 v.ownBlock) (ho : v'.ownBlock = v.ownBlock ∨ v'.ownBlock = some (wr.alloc o).heap.size) : WantAt w9 v' (xs ++ [p]) w5 := by
  have hz := h.2.2.size
  refine ⟨?_, fun g hg' => ?_, ?_⟩
  · have e : (xs ++ [p]).flatMap pairCells = xs.flatMap pairCells ++ [.string p.1, .string p.2] := by
      simp [pairCells]
    rw [e, List.length_append]; exact hr
  · rcases ho with e | e
    · exact h.2.1 g (by rw [← e]; exact hg')
    · rw [hg'] at e
      simp at e
      omega
  · refine (h.2.2.al o).trans (Keeps.grown hg) (fun j hj e => ?_)
    have := h.2.1 j e.symm
    omega

end Go.Proofs.Ythgojidgaeimnaa
