/-
  The contract of block; calm disks (power on, no faults); awake.
-/
import Derived.Test.YtbknpfngboioeaaDkE
import Derived.Test.YtbknpfngboioeaaYes
namespace Go.Proofs.Ytbknpfngboioeaa
open Go.RowKit

def block (b : UInt8) : List UInt8 := List.replicate 64 b
theorem block_len (b : UInt8) : (block b).length = 64 := by simp [block]
set_option maxRecDepth 20000 in
set_option maxHeartbeats 1600000 in
theorem block_any (b : UInt8) (w : World) : Calls Try.prog 47 #[.int .u8 (b.toNat : Int)] w fun e w' => ∃ g c, e = .returned (.slice (some ⟨g, 0, none⟩) 64 c) ∧ w.heap.size ≤ g ∧ Own8 w' g c 64 (block b) ∧ Below w.heap.size w w' := by
  obtain ⟨i5, hi5, hz0, hz1, hz2⟩ := info_parts infoU8
  have hbl := byte_lt b
  obtain ⟨y, hy⟩ : ∃ y : Int, y = (b.toNat : Int) := ⟨_, rfl⟩
  rw [← hy] at hbl ⊢
  have hY := Lib.hid hy
  clear hy
  go_enter Try.func47, Try.ntmps47
  go_wp2
  go_loopw [3, 4] (fun v i wr => ∃ k : Nat, k ≤ 64 ∧ i = .int .i64 k ∧ wr.ownsRow w.heap.size 5 1 v k (List.replicate k (.int .u8 y)) ∧ Below w.heap.size w wr) (fun _ i _ => 64 - (RowKit.intOf i).toNat)
  case atStart => exact ⟨0, by omega, rfl, ⟨rfl, .inl ⟨rfl, rfl⟩⟩, Below.refl _ _⟩
  case round =>
    obtain ⟨k, hk, rfl, hown, hb⟩ := hrel
    by_cases hlt : k < 64
    · have hlti : (k : Int) < 64 := by omega
      go_wp2_with (at_builtin; refine wpList_app_one _ rfl _ _ 32 (by exact rfl) w.heap.size 5 i5 (.int .u8 0) 1 tyBs hi5 hz0 hz1 hz2 rfl _ (by exact rfl) _ _ _ (by exact rfl) hown (by exact rfl) (by unfold maxLen; omega) (by omega) hb (Nat.le_refl _) ?_; intro v' w' hown' hb' _)
      go_roundw
      case rel => exact ⟨k + 1, by omega, by go_num, by rw [List.replicate_succ']; exact hown', hb'⟩
      case measure => simp [RowKit.intOf]; omega
    · have hlti : ¬ (k : Int) < 64 := by omega
      obtain rfl : k = 64 := by omega
      have HO := Lib.hid hown
      clear hown
      go_wp2
      go_ret
      have h1 : wr.ownsRow w.heap.size 5 1 u3 64 ((block b).map bv) := by
        have := HO.out
        rw [hY.out] at this
        simpa [block, bv] using this
      obtain ⟨g, c, e, hg, ho⟩ := Own8.of h1 (by omega)
      exact ⟨g, c, by rw [← e]; rfl, hg, ho, hb⟩

theorem own_hasF {F : Nat → Prop} {w : World} {g c n : Nat} {l : List UInt8} (h : Own8 w g c n l) (hg : ¬ F g) : HasF F w (some ⟨g, 0, none⟩) n (l.map bv) :=
  ⟨h.has.1, fun h0 => by
    obtain ⟨b, off, e, hb, hc⟩ := h.has.2 h0
    injection e with e
    injection e with e1 e2
    exact ⟨b, off, by rw [e1, e2], hb, by rw [← e1]; exact hg, hc⟩⟩

/-- The power is on and no faults are armed. -/
def Calm (S : Dsk) : Prop := S.fs = [] ∧ S.off = false
theorem Calm.err {S : Dsk} (h : Calm S) : S.err true = 0 := by simp [Dsk.err, Dsk.kind, h.1, h.2, fk]
theorem Calm.pow {S : Dsk} (h : Calm S) : S.pow true = false := by simp [Dsk.pow, Dsk.kind, h.1, fk]
theorem Calm.begun {S : Dsk} (h : Calm S) : S.begun true = S.tick := by simp [Dsk.begun, h.2]
theorem Calm.done {S : Dsk} (h : Calm S) : S.done true = S.tick := by simp [Dsk.done, h.err, h.pow, h.begun]
theorem calm_fresh (st : Nat → List UInt8) : Calm (Dsk.fresh st) := ⟨rfl, rfl⟩
theorem Calm.put {S : Dsk} (h : Calm S) (i : Nat) (xs : List UInt8) : Calm (S.tick.put i xs) := h
theorem Calm.flush {S : Dsk} (h : Calm S) : Calm S.tick.flush := h
theorem Calm.tick {S : Dsk} (h : Calm S) : Calm S.tick := h

section
variable {w : World} {F : Nat → Prop} {a n : Nat} {S : Dsk}
theorem write_calm (h : PD w F a n S) (hc : Calm S) (i : Nat) (hi : i < n) (A : Option Addr) (cap : Nat) (xs : List UInt8) (hA : HasF F w A 64 (xs.map bv)) :
    Calls Try.prog 14 #[.pointer (some ⟨a, 0, none⟩), .int .i64 i, .slice A 64 cap] w fun e w' => e = .returned (.int .i64 0) ∧ PD w' (fun k => F k ∨ newF w w' k) a n (S.tick.put i xs) ∧ Frm F w w' := by
  refine (write_fine h i hi A cap xs hA hc.err false hc.pow).mono ?_
  rintro e w' ⟨rfl, h1, h2⟩
  rw [hc.done] at h1
  exact ⟨rfl, h1, h2⟩
theorem sync_calm (h : PD w F a n S) (hc : Calm S) : Calls Try.prog 17 #[.pointer (some ⟨a, 0, none⟩)] w fun e w' => e = .returned (.int .i64 0) ∧ PD w' F a n S.tick.flush ∧ Frm F w w' := by
  refine (sync_yes h hc.err hc.pow).mono ?_
  rintro e w' ⟨rfl, h1, h2⟩
  rw [hc.begun] at h1
  exact ⟨rfl, h1, h2⟩
theorem read_calm (h : PD w F a n S) (hc : Calm S) (i : Nat) (hi : i < n) :
    Calls Try.prog 11 #[.pointer (some ⟨a, 0, none⟩), .int .i64 i] w fun e w' => PD w' F a n S.tick ∧ Frm F w w' ∧
      ∃ g, e = .returned (.tuple #[.slice (some ⟨g, 0, none⟩) 64 64, .int .i64 0]) ∧ w.heap.size ≤ g ∧ w'.heap[g]? = some (.cells ((S.sec i).map bv).toArray 5 (0, 0)) := by
  have := read_yes h i hi hc.err hc.pow
  rwa [hc.begun] at this
end

end Go.Proofs.Ytbknpfngboioeaa
