/-
  The fixed examples of the statements of layer 18 (awake).
-/
import Derived.Test.YtbpgkdhdooaigaaDiC
import Derived.Test.YtbpgkdhdooaigaaDiG
namespace Go.Proofs.Ytbpgkdhdooaigaa
open Go.RowKit

def exA : Dv := ⟨[97], [120, 32, 121], true⟩
def exB : Dv := ⟨[98], [], false⟩
def exC : Dv := ⟨[109, 97, 120, 45, 97, 103, 101], [54, 48], true⟩
def exD : Dv := ⟨[105, 110, 99, 108, 117, 100, 101, 115, 117, 98, 100, 111, 109, 97, 105, 110, 115], [], false⟩
theorem ex_p1 : dirL (ls ⟨#[32, 109, 97, 120, 45, 97, 103, 101, 32, 61, 32, 34, 54, 48, 34, 32, 59, 59, 32, 105, 110, 99, 108, 117, 100, 101, 83, 117, 98, 68, 111, 109, 97, 105, 110, 115]⟩) = ([exC, exD], 0) := by decide +kernel
theorem ex_p2 : dirL (ls ⟨#[97, 32, 98]⟩) = ([], 4) := by decide +kernel
theorem ex_f : fmtR [exA, exB] = ([97, 61, 34, 120, 32, 121, 34, 59, 32, 98], 0) := by decide +kernel
theorem has_ex (w : World) : HasDv (w.alloc (.cells #[.string ⟨#[97]⟩, .string ⟨#[120, 32, 121]⟩, .bool true, .string ⟨#[98]⟩, .string ⟨#[]⟩, .bool false] 40)) (w.heap.size + 1) (some ⟨w.heap.size, 0, none⟩) 2 [exA, exB] :=
  ⟨rfl, fun _ => ⟨w.heap.size, 0, rfl, by omega, fun k hk => by
    match k, hk with
    | 0, _ => exact ⟨by rw [World.cell?_alloc_at _ _ _ _ rfl]; rfl, by rw [World.cell?_alloc_at _ _ _ _ rfl]; rfl, by rw [World.cell?_alloc_at _ _ _ _ rfl]; rfl⟩
    | 1, _ => exact ⟨by rw [World.cell?_alloc_at _ _ _ _ rfl]; rfl, by rw [World.cell?_alloc_at _ _ _ _ rfl]; rfl, by rw [World.cell?_alloc_at _ _ _ _ rfl]; rfl⟩⟩⟩
theorem sm_ex : SmDv [exA, exB] := by
  intro d hd
  simp at hd
  rcases hd with rfl | rfl <;> decide
/-- Parse at a string of which the answer is known. -/
theorem dirs_at {f : FuncId} {s : ByteArray} {l : List Dv} {r : Int} (hh : ∀ w, Calls Try.prog f #[.string s] w (DvsPost (dirL (ls s)).1 (dirL (ls s)).2 w)) (h : dirL (ls s) = (l, r)) (w : World) : Calls Try.prog f #[.string s] w (DvsPost l r w) := by
  have := hh w
  rwa [h] at this
theorem fmt_at {f : FuncId} {A : Option Addr} {n c : Nat} {l : List Dv} {t : List UInt8} {r : Int} {w : World} (hh : Calls Try.prog f #[.slice A n c] w (FmtPost l w)) (h : fmtR l = (t, r)) : Calls Try.prog f #[.slice A n c] w fun e w' => e = .returned (.tuple #[.string (bs t), .int .i64 r]) ∧ Below w.heap.size w w' := by
  unfold FmtPost at hh
  rwa [h] at hh

set_option maxRecDepth 20000 in
set_option maxHeartbeats 4000000 in
theorem awake18_any (w : World) : Calls Try.prog 8 #[] w (Yes w) := by
  have c1 := dirs_at (fun W => dirParse_any ⟨#[32, 109, 97, 120, 45, 97, 103, 101, 32, 61, 32, 34, 54, 48, 34, 32, 59, 59, 32, 105, 110, 99, 108, 117, 100, 101, 83, 117, 98, 68, 111, 109, 97, 105, 110, 115]⟩ (by decide) W) ex_p1
  have c2 := dirs_at (fun W => dirParse_any ⟨#[97, 32, 98]⟩ (by decide) W) ex_p2
  have c3 : ∀ W, Calls Try.prog 13 #[.slice (some ⟨W.heap.size, 0, none⟩) 2 2] (W.alloc (.cells #[.string ⟨#[97]⟩, .string ⟨#[120, 32, 121]⟩, .bool true, .string ⟨#[98]⟩, .string ⟨#[]⟩, .bool false] 40)) fun e w' => e = .returned (.tuple #[.string ⟨#[97, 61, 34, 120, 32, 121, 34, 59, 32, 98]⟩, .int .i64 0]) ∧ Below W.heap.size W w' := by
    intro W
    refine (fmt_at (dirFormat_any _ 2 2 _ [exA, exB] _ (has_ex W) sm_ex (by decide) (by decide) (by simp)) ex_f).mono ?_
    rintro e w' ⟨rfl, hb⟩
    refine ⟨rfl, ?_⟩
    have h0 : Below W.heap.size W (W.alloc (.cells #[.string ⟨#[97]⟩, .string ⟨#[120, 32, 121]⟩, .bool true, .string ⟨#[98]⟩, .string ⟨#[]⟩, .bool false] 40)) := (Below.refl _ _).alloc (Nat.le_refl _) _
    exact h0.trans (hb.mono h0.size)
  go_enter Try.func8, Try.ntmps8
  go_wp2_with fail
  refine (c1 _).mono ?_
  rintro e w1 ⟨A, c, rfl, hc, _, hh, hb⟩
  replace hc : 2 ≤ c := hc
  go_wp2_with fail
  refine (c2 _).mono ?_
  rintro e w2 ⟨A2, cc, rfl, _, _, _, hb2⟩
  have hh2 := (hh.below hb2).more hb2.size
  have hb3 := hb.trans (hb2.mono hb.size)
  clear hh hb hb2
  go_wp2_with fail
  refine (c3 _).mono ?_
  rintro e w3 ⟨rfl, hb4⟩
  have hh3 := hh2.below' hb4 (Nat.le_refl _)
  have hb5 := hb3.trans (hb4.mono hb3.size)
  clear hh2 hb3 hb4
  obtain ⟨b, off, rfl, hbb, k0⟩ := hh3.2 (by decide)
  have g0 : w3.cell? ⟨b, off + 1, none⟩ = some (.string ⟨#[54, 48]⟩) := (k0 0 (by decide)).2.1
  have g1 : w3.cell? ⟨b, off + 3, none⟩ = some (.string ⟨#[105, 110, 99, 108, 117, 100, 101, 115, 117, 98, 100, 111, 109, 97, 105, 110, 115]⟩) := (k0 1 (by decide)).1
  clear k0 hh3 c1 c2 c3
  go_wp2
  go_ret
  exact ⟨rfl, hb5⟩

end Go.Proofs.Ytbpgkdhdooaigaa
