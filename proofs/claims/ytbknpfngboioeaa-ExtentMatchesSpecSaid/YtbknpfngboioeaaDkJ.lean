/-
  Contracts of small and SmallFaults; what a Restart leaves of a sector.
-/
import Derived.Test.YtbknpfngboioeaaDkO
namespace Go.Proofs.Ytbknpfngboioeaa
open Go.RowKit

set_option maxHeartbeats 400000 in
theorem smallFaults_any (A : Option Addr) (n c : Nat) (w : World) : Calls Try.prog 45 #[.slice A n c] w fun e w' => e = .returned (.bool (decide ((n : Int) ≤ 66))) ∧ w = w' := by
  go_enter Try.func45, Try.ntmps45
  go_wp2
  go_ret
  exact ⟨rfl, rfl⟩
def OpSmall (o : OpV) : Prop := o.n8 ≤ 100 ∧ o.nf ≤ 66 ∧ o.nk ≤ 80
def SmallQ (m : Nat) (os : List OpV) (w : World) (e : Ending) (w' : World) : Prop := ∃ b, e = .returned (.bool b) ∧ (b = true → m ≤ 80 ∧ ∀ j (h : j < os.length), OpSmall os[j]) ∧ w = w'
set_option maxRecDepth 20000 in
set_option maxHeartbeats 1600000 in
theorem small_any (A : Option Addr) (m c : Nat) (os : List OpV) (w : World) (h : OpsIn w A m os) :
    Calls Try.prog 7 #[.slice A m c] w (SmallQ m os w) := by
  have HO := Lib.hid h
  clear h
  by_cases h80 : (80 : Int) < m
  · go_enter Try.func7, Try.ntmps7
    go_wp2
    go_ret
    exact ⟨false, rfl, fun h => (by cases h), rfl⟩
  · have hm80 : Hid (m ≤ 80) := by show _ ≤ _; omega
    go_enter Try.func7, Try.ntmps7
    go_wp2
    go_loop [3] (fun i => ∃ k : Nat, k ≤ m ∧ i = .int .i64 k ∧ Hid (∀ j (h : j < os.length), j < k → OpSmall os[j])) (fun i => m - (RowKit.intOf i).toNat)
    case atStart => exact ⟨0, Nat.zero_le _, rfl, fun j h hj => absurd hj (by omega)⟩
    case round =>
      obtain ⟨k, hk, rfl, HR⟩ := hrel
      have hkb : (k : Int) ≤ 80 := by have := hm80.out; omega
      by_cases hlt : k < m
      · obtain ⟨b, off, rfl, hbw, hc⟩ := HO.out.2 (by omega)
        have hkf : k < os.length := by rw [HO.out.1]; exact hlt
        obtain ⟨e2, e3, e4⟩ := (hc k hkf).2.2.2
        have hstep : Hid (∀ j (h : j < os.length), j < k + 1 → OpSmall os[k] → OpSmall os[j]) := fun j h hj hs => by
          by_cases hjk : j = k
          · subst hjk; exact hs
          · exact HR.out j h (by omega)
        have hdef : Hid (OpSmall os[k] ↔ os[k].n8 ≤ 100 ∧ os[k].nf ≤ 66 ∧ os[k].nk ≤ 80) := Iff.rfl
        generalize os[k] = o at e2 e3 e4 hstep hdef
        obtain ⟨_, _, A8, n8, c8, _, Af, nf, cf, _, Ak, nk, ck, _⟩ := o
        simp only [] at e2 e3 e4 hdef
        clear hc hkf
        by_cases h8 : (100 : Int) < n8
        · have h8' : decide ((100 : Int) < n8) = true := by simpa using h8
          go_wp2_with (go_at_call 45; refine (smallFaults_any _ _ _ _).mono ?_; rintro e w' ⟨rfl, rfl⟩)
          go_ret
          exact ⟨false, rfl, fun h => (by cases h), rfl⟩
        · have h8' : decide ((100 : Int) < n8) = false := by simpa using h8
          by_cases hf : (nf : Int) ≤ 66
          · have hf' : decide ((nf : Int) ≤ 66) = true := by simpa using hf
            by_cases hkk : (80 : Int) < nk
            · go_wp2_with (go_at_call 45; refine (smallFaults_any _ _ _ _).mono ?_; rintro e w' ⟨rfl, rfl⟩; rw [hf'])
              go_ret
              exact ⟨false, rfl, fun h => (by cases h), rfl⟩
            · have hs : Hid (n8 ≤ 100 ∧ nf ≤ 66 ∧ nk ≤ 80) := by show _ ∧ _; omega
              go_wp2_with (go_at_call 45; refine (smallFaults_any _ _ _ _).mono ?_; rintro e w' ⟨rfl, rfl⟩; rw [hf'])
              go_round
              case rel => exact ⟨k + 1, by omega, by go_num, fun j h hj => hstep.out j h hj (hdef.out.2 hs.out)⟩
              case measure => simp [RowKit.intOf]; omega
          · have hf' : decide ((nf : Int) ≤ 66) = false := by simpa using hf
            go_wp2_with (go_at_call 45; refine (smallFaults_any _ _ _ _).mono ?_; rintro e w' ⟨rfl, rfl⟩; rw [hf'])
            go_ret
            exact ⟨false, rfl, fun h => (by cases h), rfl⟩
      · go_wp2
        go_ret
        exact ⟨true, rfl, fun _ => ⟨hm80.out, fun j h => HR.out j h (by have := HO.out.1; omega)⟩, rfl⟩

/-- The first K bytes are new. -/
def Torn (xs old aft : List UInt8) : Prop := ∃ K, K ≤ 64 ∧ aft = onto (xs.take K) old
theorem torn_start {xs old : List UInt8} : Torn xs old old := ⟨0, by omega, by simp [onto]⟩
theorem onto_onto {xs old : List UInt8} (hx : xs.length = 64) (ho : old.length = 64) {K L : Nat} (hK : K ≤ 64) (hL : L ≤ 64) : onto (xs.take L) (onto (xs.take K) old) = onto (xs.take (max K L)) old := by
  apply List.ext_getElem?
  intro p
  simp only [onto]
  by_cases hp : p < 64
  · simp only [List.getElem?_append, List.length_take, hx, List.getElem?_take, List.getElem?_drop]
    by_cases h1 : p < L
    · rw [if_pos (by omega), if_pos h1, if_pos (by omega), if_pos (by omega)]
    · rw [if_neg (by omega)]
      by_cases h2 : p < K
      · rw [if_pos (by omega), if_pos (by omega), if_pos (by omega), if_pos (by omega)]
        congr 1
        omega
      · rw [if_neg (by omega), if_neg (by omega)]
        congr 1
        omega
  · rw [List.getElem?_eq_none (by simp; omega), List.getElem?_eq_none (by simp; omega)]
theorem torn_keep {n : Nat} {ca : Nat → Option (List UInt8)} {st0' st : Nat → List UInt8} (hc : ∀ i xs, ca i = some xs → i < n ∧ xs.length = 64) (hs : ∀ i, i < n → (st0' i).length = 64)
    (h : ∀ i, i < n → Torn ((ca i).getD (st0' i)) (st0' i) (st i)) (k : Int × Int) : ∀ i, i < n → Torn ((ca i).getD (st0' i)) (st0' i) (keep1 ca st k i) := by
  intro i hi
  unfold keep1
  by_cases hk : k.1 < 0
  · rw [if_pos hk]; exact h i hi
  · rw [if_neg hk]
    cases hx : ca k.1.toNat with
    | none => exact h i hi
    | some xs =>
      by_cases hik : i = k.1.toNat
      · subst hik
        obtain ⟨K, hK, e⟩ := h _ hi
        have hkb := kb_le k.2
        simp only [upd_same]
        rw [hx] at e ⊢
        simp only [Option.getD_some] at e ⊢
        exact ⟨max K (kb k.2), by omega, by rw [e, onto_onto (hc _ _ hx).2 (hs _ hi) hK hkb]⟩
      · simp only [upd_other _ _ hik]
        exact h i hi
theorem torn_all {n : Nat} {ca : Nat → Option (List UInt8)} {st : Nat → List UInt8} (hc : ∀ i xs, ca i = some xs → i < n ∧ xs.length = 64) (hs : ∀ i, i < n → (st i).length = 64) (ks : List (Int × Int)) :
    ∀ i, i < n → Torn ((ca i).getD (st i)) (st i) (ks.foldl (keep1 ca) st i) := by
  suffices h : ∀ (ks : List (Int × Int)) (st1 : Nat → List UInt8), (∀ i, i < n → Torn ((ca i).getD (st i)) (st i) (st1 i)) → ∀ i, i < n → Torn ((ca i).getD (st i)) (st i) (ks.foldl (keep1 ca) st1 i) from h ks st fun _ _ => torn_start
  intro ks
  induction ks with
  | nil => intro st1 h; exact h
  | cons k ks ih => intro st1 h; exact ih _ (torn_keep hc hs h k)
/-- Byte by byte. -/
theorem torn_bytes {xs old aft : List UInt8} (hx : xs.length = 64) (ho : old.length = 64) (h : Torn xs old aft) : ∃ K, K ≤ 64 ∧ ∀ j, j < 64 → (j < K → aft[j]? = xs[j]?) ∧ (K ≤ j → aft[j]? = old[j]?) := by
  obtain ⟨K, hK, rfl⟩ := h
  refine ⟨K, hK, fun j hj => ⟨fun hjK => ?_, fun hjK => ?_⟩⟩
  · unfold onto
    rw [List.getElem?_append_left (by simp; omega), List.getElem?_take_of_lt hjK]
  · unfold onto
    rw [List.getElem?_append_right (by simp; omega), List.getElem?_drop]
    congr 1
    simp
    omega
/-- What is left of all sectors, byte by byte. -/
theorem torn_flat {n : Nat} {S : Dsk} (hok : S.Ok n) (ks : List (Int × Int)) {i : Nat} (hi : i < n) :
    ∃ K, K ≤ 64 ∧ ∀ j, j < 64 → (j < K → (flat n (S.restarted ks).st)[64 * i + j]? = (flat n fun i => S.sec i)[64 * i + j]?) ∧ (K ≤ j → (flat n (S.restarted ks).st)[64 * i + j]? = (flat n S.st)[64 * i + j]?) := by
  obtain ⟨K, hK, h⟩ := torn_bytes (hok.sec hi) (hok.st i hi) (torn_all hok.ca hok.st ks i hi)
  refine ⟨K, hK, fun j hj => ?_⟩
  rw [flat_get (hok.restarted ks).st hi hj, flat_get (fun i hi => hok.sec hi) hi hj, flat_get hok.st hi hj]
  exact h j hj

end Go.Proofs.Ytbknpfngboioeaa
