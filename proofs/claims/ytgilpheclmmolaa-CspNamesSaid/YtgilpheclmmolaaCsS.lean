/-
  A map from strings to bools that tells which strings have been met; what Merge answers; marks of loops. Program's types alone.
-/
import Derived.Test.YtgilpheclmmolaaCspP
import Derived.Test.YtgilpheclmmolaaTyT
import Derived.Test.YtgilpheclmmolaaTyB
import Derived.Test.YtgilpheclmmolaaFrm
import Derived.Test.YtgilpheclmmolaaRnC
import Derived.Test.YtgilpheclmmolaaStC
import Derived.Maps.OwnSet
import Derived.Maps.OwnIn
import Derived.RangeFuncBox
import Derived.RangeFuncLeaves
namespace Go.Proofs.Ytgilpheclmmolaa
open Go.RowKit

theorem tyMapB : Try.prog.underlying 38 = some (.map 9 4) := by kernel_rfl
theorem zeroBl (w : World) : (zeroValue 4).run Try.prog w = .ok (.bool false) w := (zero_of_info (P := Try.prog) (t := 4) (v := .bool false) (n := 1) (by kernel_rfl)).1 w
theorem kdStr : Maps.Keyed Try.prog 9 := Maps.string_keyed tyStr
theorem keyStr {s : ByteArray} (hs : s.size ≤ maxLen) : keyOf Try.prog 9 (.string s) = some (.string (ls s)) := by
  rw [WideMaps.keyOf_string_mk tyStr hs]
  rfl
/-- The map tells true of the strings of l. -/
structure MapB (w : World) (mb k : Nat) (D : DataW Value) (l : List (List UInt8)) : Prop where
  own : w.ownsMap Try.prog 9 heldR mb k D
  has : ∀ n : List UInt8, Maps.has D (.string n) = decide (n ∈ l)
  at_ : ∀ n : List UInt8, n ∈ l → ∀ z, D.atKey (.string n) z = .held (.bool true)
theorem MapB.made (w : World) : MapB (w.alloc (.map #[] 0)) w.heap.size 0 (.map []) [] :=
  ⟨World.ownsMap_made w _ _ _, fun _ => rfl, fun _ h => by cases h⟩
theorem MapB.kept {w w' : World} {mb k : Nat} {D : DataW Value} {l : List (List UInt8)} {row : Option Nat} (h : MapB w mb k D l) (hg : w.grownBy w' row) (hne : some mb ≠ row) : MapB w' mb k D l := ⟨h.own.kept hg hne, h.has, h.at_⟩
theorem MapB.below {w w' : World} {mb k : Nat} {D : DataW Value} {l : List (List UInt8)} (h : MapB w mb k D l) (hb : Below w.heap.size w w') : MapB w' mb k D l := by
  have hlt := h.own.lt
  obtain ⟨es, clock, hh, r⟩ := h.own
  exact ⟨⟨es, clock, (hb.block mb hlt).trans hh, r⟩, h.has, h.at_⟩
theorem MapB.look {w : World} {mb k : Nat} {D : DataW Value} {l : List (List UInt8)} (h : MapB w mb k D l) {s : ByteArray} (hs : s.size ≤ 1000000000) :
    (Instr.lookup 38 (.map (some mb)) (.string s) false).run Try.prog w = .ok (.bool (decide (ls s ∈ l))) w := by
  obtain ⟨v, ps, hrun, hv⟩ := h.own.lookup kdStr tyMapB (zeroBl w) (zd := .held (.bool false)) (zp := []) rfl (keyStr (s := s) (by unfold maxLen; omega))
  rw [hrun]
  by_cases hm : ls s ∈ l
  · rw [h.at_ _ hm] at hv
    simp only [heldR, Option.some.injEq, Prod.mk.injEq, DataW.held.injEq] at hv
    rw [hv.1, decide_eq_true hm]
  · have hf : Maps.has D (.string (ls s)) = false := by rw [h.has]; exact decide_eq_false hm
    rw [Maps.atKey_of_not_has hf] at hv
    simp only [heldR, Option.some.injEq, Prod.mk.injEq, DataW.held.injEq] at hv
    rw [hv.1, decide_eq_false hm]
theorem MapB.put {w : World} {mb k : Nat} {D : DataW Value} {l : List (List UInt8)} (h : MapB w mb k D l) (hk : k ≤ 1000000000) {s : ByteArray} (hs : s.size ≤ 1000000000) :
    ∃ w' D', (Instr.mapUpdate 38 (.map (some mb)) (.string s) (.bool true)).run Try.prog w = .ok () w' ∧ MapB w' mb (k + 1) D' (l ++ [ls s]) ∧ w.grownBy w' (some mb) := by
  obtain ⟨w', hrun, hown, hg⟩ := h.own.update kdStr tyMapB (by unfold maxLen; omega) (keyStr (s := s) (by unfold maxLen; omega)) (val := .bool true) (d := .held (.bool true)) (ps := []) rfl
  have hI := h.own.isMap
  refine ⟨w', _, hrun, ⟨hown, fun n => ?_, fun n hn z => ?_⟩, hg⟩
  · by_cases hx : ls s = n
    · subst hx
      rw [Maps.has_put_same hI (show WideAt.IsKeyLit (.string (ls s)) from trivial)]
      simp
    · rw [Maps.has_put_other (fun x => hx (by injection x with x; exact x.symm)), h.has]
      have : ¬ n = ls s := fun x => hx x.symm
      simp [this]
  · by_cases hx : ls s = n
    · subst hx
      rw [Maps.atKey_put_same hI (show WideAt.IsKeyLit (.string (ls s)) from trivial)]
    · rw [Maps.atKey_put_other (fun x => hx (by injection x with x; exact x.symm))]
      refine h.at_ n ?_ z
      rcases List.mem_append.1 hn with hn | hn
      · exact hn
      · exact absurd (by simpa using hn) (fun e : n = ls s => hx e.symm)

/-- What Merge answers. -/
def CspPost (r : Cv × Int) (w : World) (e : Ending) (w' : World) : Prop :=
  ∃ A k, e = .returned (.tuple #[.agg #[.bool r.1.up, .bool r.1.bl, .slice A r.1.names.length k], .int .i64 r.2]) ∧ (r.1.names.length ≤ k ∧ (A = none → k = 0)) ∧ Has w' w'.heap.size A r.1.names.length (wv r.1.names) ∧ Below w.heap.size w w'

/-- The marks that loops over iterators leave in a loop: each block is taken over at the end. -/
def markD (D : Nat) : Deferred := { target := .collected D, args := #[] }
theorem leaves_marks {F : Fence} {n : Nat} {P : Program} {fn : Func} {tmps : Array Value} {R : Ending → World → Prop} (S : World → Prop) (base : Nat)
    (hS : ∀ W D, base ≤ D → W.heap[D]? = some (.deferred (some [])) → S W → S (W.putObj D (.deferred none))) (hR : ∀ W, S W → LeavesIn F n P fn tmps R [] .returning W) :
    ∀ (Ds : List Nat) (W : World), Ds.Nodup → (∀ D ∈ Ds, base ≤ D ∧ W.heap[D]? = some (.deferred (some []))) → S W → LeavesInM F n P fn tmps R (Ds.map markD) .returning W
  | [], W, _, _, hs => hR W hs
  | D :: Ds, W, hn, hd, hs => by
    rw [List.nodup_cons] at hn
    obtain ⟨h1, h2⟩ := hd D (by simp)
    refine ⟨by simp, .inl ⟨D, _, rfl, run_takeDeferred h2, ?_⟩⟩
    refine leaves_marks S base hS hR Ds _ hn.2 (fun E hE => ?_) (hS W D h1 h2 hs)
    obtain ⟨h3, h4⟩ := hd E (by simp [hE])
    refine ⟨h3, (World.putObj_heap_other ?_).trans h4⟩
    rintro rfl
    exact hn.1 hE

end Go.Proofs.Ytgilpheclmmolaa
