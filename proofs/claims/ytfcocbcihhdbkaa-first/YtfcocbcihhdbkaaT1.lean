/- Put, Delete, Abort, Get, Look of a store, from outside. -/
import Derived.Test.YtfcocbcihhdbkaaT0
namespace Go.Proofs.Ytfcocbcihhdbkaa
open Go.RowKit Go.Shelf

theorem fp_written {R : Rep} {n : Int} {x : WkR} {l : List (ByteArray × Ver)} (hn : look R.works n = some x) : Rep.fp { R with works := put R.works n { x with writes := l } } = R.fp := by
  have e := put_flatMap (fun p : Int × WkR => [p.2.blk, p.2.mb]) (v := { x with writes := l }) hn rfl
  simp only [Rep.fp, Rep.fpWorks, Rep.fpPast, e]

theorem Inv.wrote {K : List ByteArray} {w w' : World} {R : Rep} {n : Int} {x : WkR} {key val : ByteArray} {gone : Bool} (h : Inv K w R) (hK : K.length ≤ 30) (hn : look R.works n = some x) (hkey : key ∈ K) (hkb : keyB key = true) (hvb : valB val = true)
    (hs : StoreAt w' { R with works := put R.works n { x with writes := put x.writes key ⟨0, val, gone⟩ } }) : Inv K w' { R with works := put R.works n { x with writes := put x.writes key ⟨0, val, gone⟩ } } := by
  have hx := look_mem hn
  refine ⟨hs, h.good.written hn (works_nodup h.st) (writes_nodup h.st hx) hkb hvb (h.fits hK hx hkey), ⟨h.tied.rises, h.tied.keys, h.tied.filled⟩, h.pm, h.wm, h.kin, ?_⟩
  intro p hp q hq
  rcases mem_put (works_nodup h.st) hp with rfl | ⟨h1, _⟩
  · rcases mem_put (writes_nodup h.st hx) hq with rfl | ⟨h2, _⟩
    · exact hkey
    · exact h.win _ hx q h2
  · exact h.win p h1 q hq

theorem abs_put (R : Rep) (n : Int) (x : WkR) (l : List (ByteArray × Ver)) : (put R.works n { x with writes := l }).map (fun p => (p.1, (p.2.began, p.2.writes))) = put R.abs.works n (x.began, l) := by
  have := put_map (fun y : WkR => (y.began, y.writes)) R.works n { x with writes := l }
  exact this.symm

theorem abs_del (R : Rep) (n : Int) : (del R.works n).map (fun p => (p.1, (p.2.began, p.2.writes))) = del R.abs.works n := by
  have := del_map (fun y : WkR => (y.began, y.writes)) R.works n
  exact this.symm

/-- write -/
theorem write_s {K : List ByteArray} {O : Nat → Prop} {w : World} {b : Nat} {A : Abs} {n bg : Int} {ws : List (ByteArray × Ver)} {key val : ByteArray} (gone : Bool) (h : SAt K O w b A) (hK : K.length ≤ 30) (hn : look A.works n = some (bg, ws)) (hkey : key ∈ K) (hkb : keyB key = true) (hvb : valB val = true) :
    Calls Try.prog 26 #[.pointer (some ⟨b, 0, none⟩), .int .i64 n, .string key, .agg #[.int .i64 0, .string val, .bool gone]] w fun e w' => e = .returned (.int .i64 0) ∧ SAt K O w' b (A.wrote n bg ws key ⟨0, val, gone⟩) ∧ Keeps (fun k => ¬ O k) w w' := by
  obtain ⟨R, hi, rfl, rfl, hf⟩ := h
  obtain ⟨x, hx, rfl, rfl⟩ := abs_look hn
  refine (write_ok R n x key val gone w hi.st hx hkb hvb (hi.fits hK (look_mem hx) hkey) (hi.good.writes30 _ (look_mem hx))).mono ?_
  rintro e w' ⟨rfl, h1, h2⟩
  refine ⟨rfl, ⟨_, hi.wrote hK hx hkey hkb hvb h1, rfl, ?_, ?_⟩, keeps_off hf h2⟩
  · simp only [Rep.abs, Abs.wrote]
    rw [abs_put]
    rfl
  · rw [fp_written hx]
    exact hf

set_option maxRecDepth 100000 in
set_option maxHeartbeats 400000 in
theorem put_s {K : List ByteArray} {O : Nat → Prop} {w : World} {b : Nat} {A : Abs} {n bg : Int} {ws : List (ByteArray × Ver)} {key val : ByteArray} (h : SAt K O w b A) (hK : K.length ≤ 30) (hn : look A.works n = some (bg, ws)) (hkey : key ∈ K) (hkb : keyB key = true) (hvb : valB val = true) :
    Calls Try.prog 10 #[.pointer (some ⟨b, 0, none⟩), .int .i64 n, .string key, .string val] w fun e w' => e = .returned (.int .i64 0) ∧ SAt K O w' b (A.wrote n bg ws key ⟨0, val, false⟩) ∧ Keeps (fun k => ¬ O k) w w' := by
  have HC := hid (write_s (val := val) false h hK hn hkey hkb hvb)
  clear h hn hkey hkb hvb
  go_enter Try.func10, Try.ntmps10
  go_wp2_with (go_at_call 26; go_must (refine (HC.out).mono ?_; rintro e w1 ⟨rfl, h1, h2⟩))
  go_ret
  exact ⟨rfl, h1, h2⟩

set_option maxRecDepth 100000 in
set_option maxHeartbeats 400000 in
theorem delete_s {K : List ByteArray} {O : Nat → Prop} {w : World} {b : Nat} {A : Abs} {n bg : Int} {ws : List (ByteArray × Ver)} {key : ByteArray} (h : SAt K O w b A) (hK : K.length ≤ 30) (hn : look A.works n = some (bg, ws)) (hkey : key ∈ K) (hkb : keyB key = true) :
    Calls Try.prog 19 #[.pointer (some ⟨b, 0, none⟩), .int .i64 n, .string key] w fun e w' => e = .returned (.int .i64 0) ∧ SAt K O w' b (A.wrote n bg ws key ⟨0, ByteArray.empty, true⟩) ∧ Keeps (fun k => ¬ O k) w w' := by
  have HC := hid (write_s (val := ByteArray.empty) true h hK hn hkey hkb (by decide +kernel))
  clear h hn hkey hkb
  go_enter Try.func19, Try.ntmps19
  go_wp2_with (go_at_call 26; go_must (refine (HC.out).mono ?_; rintro e w1 ⟨rfl, h1, h2⟩))
  go_ret
  exact ⟨rfl, h1, h2⟩

end Go.Proofs.Ytfcocbcihhdbkaa
