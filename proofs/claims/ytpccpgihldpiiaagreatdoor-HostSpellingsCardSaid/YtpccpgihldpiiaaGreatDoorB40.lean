/-
Contracts of the helpers of the statements (package hstsstorekeep): Texts (Short: KeepS).
The walk of HostNamesMatchSpec: it returns true.
All that a statement on hosts needs (SuC).
Contract of the helper Mod of the statements (package hstsstorekeep); it needs nothing else.
The walk of HostSupersCover: it returns true.
All that a statement on hosts needs (SuD).
Spellings of a domain name in plain words. No program.
-/
import Derived.Test.YtpccpgihldpiiaaGreatDoorB39
import Derived.BigQuiet
import Derived.Deep.QuietTactic
import Derived.WalkSmall
import Derived.Test.YtpccpgihldpiiaaGreatDoorB21
import Derived.Test.YtpccpgihldpiiaaGreatDoorB38
import Derived.Test.YtpccpgihldpiiaaGreatDoorRows
import Derived.Test.YtpccpgihldpiiaaGreatDoorB00
import Derived.Test.YtpccpgihldpiiaaGreatDoorB18
import Derived.Deep.RegionHeld3
import Derived.Test.YtpccpgihldpiiaaGreatDoorB10
namespace Go.Proofs.YtpccpgihldpiiaaGreatDoor
section
open Go.RowKit

def textsB (xs ys : List ByteArray) : Bool := decide (xs = ys)
theorem textsB_len (xs ys : List ByteArray) (h : xs.length ≠ ys.length) : textsB xs ys = false := by
  unfold textsB; rw [decide_eq_false_iff_not]; intro e; exact h (by rw [e])
theorem textsB_at (xs ys : List ByteArray) (k : Nat) (h : k < xs.length) (h' : k < ys.length) (hn : xs[k] ≠ ys[k]) : textsB xs ys = false := by
  unfold textsB; rw [decide_eq_false_iff_not]; intro e; subst e; exact hn rfl
theorem take_succ_eq {xs ys : List ByteArray} {k : Nat} (h : k < xs.length) (h' : k < ys.length) (ht : xs.take k = ys.take k) (he : xs[k] = ys[k]) : xs.take (k + 1) = ys.take (k + 1) := by
  rw [List.take_succ_eq_append_getElem h, List.take_succ_eq_append_getElem h', ht, he]
theorem beq_str_true {a b : ByteArray} (h : a = b) : (a.toList == b.toList) = true := by rw [h]; simp
theorem beq_str_false {a b : ByteArray} (h : a ≠ b) : (a.toList == b.toList) = false := by
  rw [beq_eq_false_iff_ne, toList_ls, toList_ls]
  exact fun e => h (ls_inj e)

set_option maxHeartbeats 1000000 in
theorem texts_any (A1 A2 : Option Addr) (n1 n2 c1 c2 : Nat) (xs ys : List ByteArray) (B : Nat) (w : World) (hA1 : Has w B A1 n1 (xs.map Value.string)) (hA2 : Has w B A2 n2 (ys.map Value.string))
    (hl1 : n1 ≤ 1000000000) (_hl2 : n2 ≤ 1000000000) :
    Calls Tryz.prog 20 #[.slice A1 n1 c1, .slice A2 n2 c2] w fun e w' => e = .returned (.bool (textsB xs ys)) ∧ Below w.heap.size w w' := by
  have HL1 : Hid (xs.length = n1) := by show _ = _; simpa using hA1.1
  have HL2 : Hid (ys.length = n2) := by show _ = _; simpa using hA2.1
  have HA1 := Lib.hid hA1
  have HA2 := Lib.hid hA2
  clear hA1 hA2
  by_cases hsz : n1 = n2
  · have hsz' : ((n1 : Int) != (n2 : Int)) = false := by simp [hsz]
    have HZ := Lib.hid hsz
    clear hsz
    go_enter Tryz.func20, Tryz.ntmps20
    go_wp2
    go_loopw [5] (fun i wr => ∃ k : Nat, k ≤ n1 ∧ i = .int .i64 k ∧ (∃ n, wr = w.drewN n) ∧ xs.take k = ys.take k) (fun i _ => n1 - (intOf i).toNat)
    case atStart => exact ⟨0, Nat.zero_le _, rfl, ⟨0, rfl⟩, rfl⟩
    case round =>
      obtain ⟨k, hk, rfl, hdr, htk⟩ := hrel
      have HD := Lib.hid hdr
      have HT := Lib.hid htk
      clear hdr htk
      by_cases hlt : k < n1
      · have hk1 : k < xs.length := by rw [HL1.out]; exact hlt
        have hk2 : k < ys.length := by rw [HL2.out, ← HZ.out]; exact hlt
        have hlt2 : k < n2 := by rw [← HZ.out]; exact hlt
        obtain ⟨b1, o1, rfl, hb1, hc1⟩ := HA1.out.at_ hlt
        obtain ⟨b2, o2, rfl, hb2, hc2⟩ := HA2.out.at_ hlt2
        rw [List.getElem_map] at hc1 hc2
        have hc1' : wr.cell? ⟨b1, o1 + k, none⟩ = some (.string xs[k]) := by obtain ⟨n, rfl⟩ := HD.out; exact hc1
        have hc2' : wr.cell? ⟨b2, o2 + k, none⟩ = some (.string ys[k]) := by obtain ⟨n, rfl⟩ := HD.out; exact hc2
        clear hc1 hc2
        by_cases he : xs[k] = ys[k]
        · have HN := Lib.hid (take_succ_eq hk1 hk2 HT.out he)
          have hbe : (xs[k].toList == ys[k].toList) = true := beq_str_true he
          clear he
          go_wp2
          go_quiet (fail)
          go_wp2
          go_roundw
          case rel => exact ⟨k + 1, by omega, by go_num, by obtain ⟨n, rfl⟩ := HD.out; exact ⟨n + nq, by rw [World.drewN_drewN]⟩, HN.out⟩
          case measure => simp [intOf]; omega
        · have HF := Lib.hid (textsB_at xs ys k hk1 hk2 he)
          have hbe : (xs[k].toList == ys[k].toList) = false := beq_str_false he
          clear he
          go_wp2
          go_quiet (fail)
          go_wp2
          go_ret
          exact ⟨ret_bool HF.out.symm, by obtain ⟨n, rfl⟩ := HD.out; exact below_drewN (below_drewN (Below.refl _ _) _) _⟩
      · have HF : Hid (textsB xs ys = true) := by
          have h := HT.out
          rw [List.take_of_length_le (by rw [HL1.out]; omega), List.take_of_length_le (by rw [HL2.out, ← HZ.out]; omega)] at h
          show _ = _
          unfold textsB
          exact decide_eq_true h
        go_wp2
        go_ret
        exact ⟨ret_bool HF.out.symm, by obtain ⟨n, rfl⟩ := HD.out; exact below_drewN (Below.refl _ _) _⟩
  · have hsz' : ((n1 : Int) != (n2 : Int)) = true := by simp; omega
    have HF := Lib.hid (textsB_len xs ys (by rw [HL1.out, HL2.out]; exact hsz))
    clear hsz
    go_enter Tryz.func20, Tryz.ntmps20
    go_wp2
    go_ret
    exact ⟨ret_bool HF.out.symm, Below.refl _ _⟩
end

section
open Go.RowKit Go.Shelf

theorem wv_map (l : List (List UInt8)) : wv l = (l.map bs).map Value.string := by unfold wv; rw [List.map_map]; rfl

set_option maxRecDepth 20000 in
set_option maxHeartbeats 4000000 in
theorem walkHoNames (hP : HoPar 13) (hL : HoLab 18) (hV : HoVn 16) (hC : HoCov 23) (a b : ByteArray) (w : World) (_ : a.size ≤ maxLen) (_ : b.size ≤ maxLen) (hw : Hw w) :
    Calls Tryz.prog 4 #[.string a, .string b] w (Yes w) := by
  have c9 := fun W hW => awake14_any hP hL hC W hW
  have HW := Lib.hid hw
  have hhas := Has.two w (.string a) (.string b) 9
  have hb0 := (Below.refl w.heap.size w).alloc (Nat.le_refl _) (.cells #[.string a, .string b] 9)
  have cs := short_any 400 (some ⟨w.heap.size, 0, none⟩) 2 2 [a, b] (w.heap.size + 1) (w.alloc (.cells #[.string a, .string b] 9)) hhas (by omega)
  by_cases hs : a.size ≤ 400 ∧ b.size ≤ 400
  · have e : shortB 400 [a, b] = true := by simp [shortB]; omega
    rw [e] at cs
    have c1 := fun W => hV a W (by omega)
    have c2 := fun W => refVn_any a W (by omega)
    have c3 := fun W => hL a W (by omega)
    have c4 := fun W => refLabels_any a W (by omega)
    have c5 := fun W => lawSupers_any hV a W (by omega)
    have c6 := fun W => refSupers_any a W (by omega)
    have c7 := fun W => hC a b W (by omega) (by omega)
    have c8 := fun W => refCovers_any a b W (by omega) (by omega)
    have hle := supers_le (ls a)
    have e0 : ∀ q : Bool, (q == q) = true := fun q => by simp
    have e1 : ∀ n : Nat, ((n : Int) == (n : Int)) = true := fun n => by simp
    generalize vnL (ls a) = va at *
    generalize labelsL (ls a) = la at *
    generalize supersL (ls a) = L at *
    generalize coversL (ls a) (ls b) = ab at *
    have ea := e0 va
    have eb := e0 ab
    have ec := e1 la
    have hT : textsB (L.map bs) (L.map bs) = true := by unfold textsB; simp
    clear e e0 e1 hs hw hhas hP hL hV hC
    go_enter Tryz.func4, Tryz.ntmps4
    go_wp2_with fail
    refine cs.mono ?_
    rintro r w1 ⟨rfl, h1⟩
    rw [h1] at hb0
    clear h1 cs
    go_wp2_with fail
    refine (c1 _).mono ?_
    rintro r w2 ⟨rfl, hb2⟩
    replace hb2 := hb0.trans (hb2.mono hb0.size)
    clear hb0
    go_wp2_with fail
    refine (c2 _).mono ?_
    rintro r w3 ⟨rfl, hb3⟩
    replace hb3 := hb2.trans (hb3.mono hb2.size)
    clear hb2
    go_wp2_with fail
    refine (c3 _).mono ?_
    rintro r w4 ⟨rfl, hb4⟩
    replace hb4 := hb3.trans (hb4.mono hb3.size)
    clear hb3
    go_wp2_with fail
    refine (c4 _).mono ?_
    rintro r w5 ⟨rfl, hb5⟩
    replace hb5 := hb4.trans (hb5.mono hb4.size)
    clear hb4
    go_wp2_with fail
    refine (c5 _).mono ?_
    rintro r w6 ⟨v1, n1, rfl, hown1, hb6⟩
    replace hb6 := hb5.trans (hb6.mono hb5.size)
    clear hb5
    obtain ⟨A1, k1, rfl, hh1, hk1⟩ := Has.of_own hown1
    clear hown1
    go_wp2_with fail
    refine (c6 _).mono ?_
    rintro r w7 ⟨v2, n2, rfl, hown2, hb7⟩
    obtain ⟨A2, k2, rfl, hh2, hk2⟩ := Has.of_own hown2
    clear hown2
    have hn1 : n1 ≤ 1000000000 := by have := hh1.1; rw [wv_length] at this; omega
    have hn2 : n2 ≤ 1000000000 := by have := hh2.1; rw [wv_length] at this; omega
    replace hh1 := (hh1.below hb7).more hb7.size
    replace hb7 := hb6.trans (hb7.mono hb6.size)
    clear hb6
    rw [wv_map] at hh1 hh2
    have ct := texts_any A1 A2 n1 n2 k1 k2 _ _ _ w7 hh1 hh2 hn1 hn2
    rw [hT] at ct
    clear hh1 hh2 hn1 hn2
    go_wp2_with fail
    refine ct.mono ?_
    rintro r w8 ⟨rfl, hb8⟩
    replace hb8 := hb7.trans (hb8.mono hb7.size)
    clear hb7
    go_wp2_with fail
    refine (c7 _).mono ?_
    rintro r w9 ⟨rfl, hb9⟩
    replace hb9 := hb8.trans (hb9.mono hb8.size)
    clear hb8
    go_wp2_with fail
    refine (c8 _).mono ?_
    rintro r w10 ⟨rfl, hb10⟩
    replace hb10 := hb9.trans (hb10.mono hb9.size)
    clear hb9
    go_wp2_with fail
    refine (c9 _ (hw_below HW.out hb10)).mono ?_
    rintro r w11 ⟨rfl, hb11⟩
    replace hb11 := hb10.trans (hb11.mono hb10.size)
    go_wp2
    go_ret
    exact ⟨rfl, hb11⟩
  · have e : shortB 400 [a, b] = false := by
      unfold shortB
      rw [List.all_eq_false]
      by_cases h1 : a.size ≤ 400
      · exact ⟨b, by simp, by simp; omega⟩
      · exact ⟨a, by simp, by simp; omega⟩
    rw [e] at cs
    have c9' := c9 _ (hw_below hw hb0)
    clear hs hw c9 hhas
    generalize hw1 : w.alloc (.cells #[.string a, .string b] 9) = w1 at *
    have HE := Lib.hid hw1
    go_enter Tryz.func4, Tryz.ntmps4
    go_wp2_with fail
    refine cs.mono ?_
    rintro r w' ⟨rfl, rfl⟩
    go_wp2_with fail
    refine c9'.mono ?_
    rintro r w' ⟨rfl, hb⟩
    go_wp2
    go_ret
    exact ⟨rfl, hb0.trans (hb.mono hb0.size)⟩
end

section

end

section
open Go.RowKit

set_option maxHeartbeats 400000 in
theorem mod_any (a n : Int) (hn : 0 < n) (hn2 : n ≤ 2000000000) (_ha0 : -9223372036854775808 ≤ a) (_ha1 : a ≤ 9223372036854775807) (w : World) :
    Calls Tryz.prog 25 #[.int .i64 a, .int .i64 n] w fun e w' => e = .returned (.int .i64 (a % n)) ∧ w = w' := by
  have hne : n ≠ 0 := by omega
  have h1 := Int.emod_nonneg a hne
  have h2 := Int.emod_lt_of_pos a hn
  have ht : Int.tmod a n = if 0 ≤ a ∨ n ∣ a then a % n else a % n - n := by
    rw [Int.tmod_eq_emod]
    split
    · simp
    · rw [Int.natAbs_of_nonneg (by omega)]
  by_cases hneg : Int.tmod a n < 0
  · have hv : Hid (Int.tmod a n + n = a % n) := by
      show _ = _
      rw [ht] at hneg ⊢
      split at hneg
      · omega
      · rename_i h; rw [if_neg h]; omega
    have hlo : -n < Int.tmod a n := by have := hv.out; omega
    have hw : wrap64 (Int.tmod a n + n) = Int.tmod a n + n := by unfold wrap64; omega
    clear ht
    go_enter Tryz.func25, Tryz.ntmps25
    go_wp2
    go_ret
    exact ⟨ret_int hv.out, rfl⟩
  · have hv : Hid (Int.tmod a n = a % n) := by
      show _ = _
      rw [ht] at hneg ⊢
      split at hneg
      · rename_i h; rw [if_pos h]
      · omega
    clear ht
    go_enter Tryz.func25, Tryz.ntmps25
    go_wp2
    go_ret
    exact ⟨ret_int hv.out, rfl⟩
end

section
open Go.RowKit Go.Shelf
attribute [local go_sem] Oper.semAt_some

/-- What stands before the superdomain number k. -/
def befS (n : List UInt8) (k : Nat) : List UInt8 := if k = 0 then n else (supersL n).getD (k - 1) []
theorem getD_at {α : Type} (l : List α) (k : Nat) (h : k < l.length) (d : α) : l.getD k d = l[k] := by
  rw [List.getD_eq_getElem?_getD, List.getElem?_eq_getElem h]
  rfl
theorem sup_facts (n : List UInt8) (k : Nat) (hk : k < (supersL n).length) : coversL ((supersL n).getD k []) n = true ∧ coversL ((supersL n).getD k []) (befS n k) = true ∧ ((supersL n).getD k []).length < (befS n k).length ∧ befS n (k + 1) = (supersL n).getD k [] := by
  obtain ⟨h1, h2, h3, h4⟩ := supers_at n k hk
  have e := getD_at (supersL n) k hk []
  have hb : vnL (befS n k) = true := by
    unfold befS
    split
    · exact h1
    · rename_i h0
      have hk1 : k - 1 < (supersL n).length := by omega
      rw [getD_at _ _ hk1]
      exact (supers_at n (k - 1) hk1).2.2.1
  rw [e]
  refine ⟨(covers_iff _ _).2 ⟨(vn_iff _).1 h3, (vn_iff _).1 h1, .inr h4⟩, (covers_iff _ _).2 ⟨(vn_iff _).1 h3, (vn_iff _).1 hb, .inr h2⟩, ?_, ?_⟩
  · have := h2.length_le
    rw [List.length_cons] at this
    show _ < (befS n k).length
    unfold befS
    omega
  · unfold befS
    rw [if_neg (by omega), show k + 1 - 1 = k from rfl, e]
theorem befS_len (n : List UInt8) (hn : n.length ≤ 400) : ∀ k, k ≤ (supersL n).length → (befS n k).length ≤ 400
  | 0, _ => hn
  | k + 1, h => by
    have ih := befS_len n hn k (by omega)
    obtain ⟨_, _, h3, h4⟩ := sup_facts n k (by omega)
    rw [h4]
    omega
/-- The next one is the one that is expected. -/
theorem pre_next {L : List (List UInt8)} {p : List (List UInt8)} {x : List UInt8} (h : p <+: L) (hl : p.length < L.length) (hx : L.getD p.length [] = x) : p ++ [x] <+: L := by
  obtain ⟨t, rfl⟩ := h
  cases t with
  | nil => simp at hl
  | cons y t =>
    have : (p ++ y :: t).getD p.length [] = y := by
      rw [List.getD_eq_getElem?_getD, List.getElem?_append_right (Nat.le_refl _), Nat.sub_self]
      rfl
    rw [this] at hx
    exact ⟨t, by rw [← hx]; simp⟩
theorem pre_not {L : List (List UInt8)} {p : List (List UInt8)} {x : List UInt8} (hx : L.getD p.length [] ≠ x) : ¬ p ++ [x] <+: L := by
  rintro ⟨t, rfl⟩
  apply hx
  rw [List.append_assoc, List.getD_eq_getElem?_getD, List.getElem?_append_right (Nat.le_refl _), Nat.sub_self]
  rfl

theorem OwnT.or {β : Type} {Al : Nat → Prop} {B : Nat} {I I' : β → World → Prop} (h : OwnT Al B I) (h' : OwnT Al B I') : OwnT Al B (fun s W => I s W ∨ I' s W) := fun s W W' row hs hg hr => hs.elim (fun a => .inl (h s W W' row a hg hr)) (fun a => .inr (h' s W W' row a hg hr))
theorem below_go {B : Nat} {w W W' : World} (hB : B = w.heap.size) (h : Below B w W) (h' : Below W.heap.size W W') : Below B w W' := h.trans (h'.mono (by rw [hB]; exact h.size))

set_option maxRecDepth 100000 in
set_option maxHeartbeats 8000000 in
theorem walkHoSup (hP : HoPar 13) (hL : HoLab 18) (hV : HoVn 16) (hC : HoCov 23) (s : ByteArray) (stop : Int) (w : World) (_ : s.size ≤ maxLen) (hst : (Lit.int .i64 stop).wf = true) (hw : Hw w) :
    Calls Tryz.prog 6 #[.string s, .int .i64 stop] w (Yes w) := by
  have c9 := fun W hW => awake14_any hP hL hC W hW
  have HW := Lib.hid hw
  have b0 := Boxed.new w 4 (.bool false)
  have hb0 := (Below.refl w.heap.size w).alloc (Nat.le_refl _) (.cells #[.bool false] 4)
  by_cases hs : s.size ≤ 400
  · have hd : decide ((400 : Int) < (s.size : Int)) = false := decide_eq_false (by omega)
    have hnil := fun gf lb W => func_nil gf lb W
    have cS := fun W => lawSupers_any hV s W (by omega)
    have cU := fun W => supers_any hV s W (by omega)
    have cL := fun W => hL s W (by omega)
    have hcount := supers_count (ls s)
    have hLn := supers_le (ls s)
    have hf := sup_facts (ls s)
    have hbl := befS_len (ls s) (by rw [ls_length]; exact hs)
    have hst2 : -9223372036854775808 ≤ stop ∧ stop ≤ 9223372036854775807 := by
      have h1 : IntKind.i64.min = -9223372036854775808 := rfl
      have h2 : IntKind.i64.max = 9223372036854775807 := rfl
      simp [Lit.wf] at hst
      have h3 : IntKind.i64.min ≤ stop ∧ stop ≤ IntKind.i64.max := hst
      rw [h1, h2] at h3
      exact h3
    have cM := fun W => mod_any stop 5 (by omega) (by omega) hst2.1 hst2.2 W
    obtain ⟨N5, hN5⟩ : ∃ N5 : Nat, stop % 5 = (N5 : Int) ∧ N5 < 5 := ⟨(stop % 5).toNat, by omega, by omega⟩
    rw [hN5.1] at cM
    have hN52 := hN5.2
    clear hst hst2 hN5 hw
    obtain ⟨la, hla⟩ : ∃ n, n = labelsL (ls s) := ⟨_, rfl⟩
    rw [← hla] at hcount cL
    have hmax : max (0 : Int) ((la : Int) - 1) = (((supersL (ls s)).length : Nat) : Int) := by omega
    have hla2 : la ≤ 1000 := by omega
    clear hla hcount
    refine (callsIn_wide (n := 3)).1 ?_
    refine callsIn_of_wp_marks Tryz.func6 rfl trivial ?_ rfl
    simp only [Tryz.ntmps6, List.size_toArray, List.length_cons, List.length_nil, Nat.reduceAdd, Nat.reduceSub, Array.replicate_succ, Array.replicate_zero, List.push_toArray, List.append_toArray, List.nil_append, List.cons_append]
    refine wpIn_wide.2 ?_
    go_wp2_with fail
    obtain ⟨B0, hB0⟩ : ∃ b, b = w.heap.size := ⟨_, rfl⟩
    rw [← hB0] at b0 hb0 ⊢
    have HB := Lib.hid hB0
    clear hB0
    generalize w.alloc (.cells #[.bool false] 4) = W1 at *
    refine (cS _).mono ?_
    rintro e w1 ⟨v, n, rfl, hown, hb1⟩
    obtain ⟨A, c, rfl, hh, hnc⟩ := Has.of_own hown
    obtain rfl : n = (supersL (ls s)).length := by have := hh.1; rw [wv_length] at this; exact this.symm
    replace b0 : Boxed w1 B0 4 (.bool false) := (hb1.block _ b0.lt).trans b0
    replace hb1 := below_go HB.out hb0 hb1
    clear hown hb0
    generalize hLL : supersL (ls s) = L at *
    have HL := Lib.hid hLL
    clear hLL
    have hB5 : B0 < w1.heap.size := b0.lt
    have b5 := Boxed.new w1 35 (.slice A L.length c)
    replace b0 : Boxed _ B0 4 (.bool false) := b0.alloc (.cells #[.slice A L.length c] 35)
    replace hh := hh.alloc (Nat.le_refl _) (.cells #[.slice A L.length c] 35)
    have hb2 := hb1.alloc (by rw [HB.out]; exact hb1.size) (.cells #[.slice A L.length c] 35)
    have hmx := fun (W : World) ts => max_two (P := Tryz.prog) W ts 3 0 ((la : Int) - 1) _ hmax
    have hwr : IntKind.i64.wrap ((la : Int) - 1) = (la : Int) - 1 := by rw [IntKind.wrap_i64]; omega
    clear hmax
    go_upto_region 4 with fail
    generalize hB5' : w1.heap.size = B5 at *
    generalize w1.alloc (.cells #[.slice A L.length c] 35) = W2 at *
    clear hB5' hb1
    replace b0 : Boxed W2.drew B0 4 (.bool false) := b0
    replace b5 : Boxed W2.drew B5 35 (.slice A L.length c) := b5
    replace hh : Has W2.drew B5 A L.length (wv L) := hh
    replace hb2 := hb2.drew
    have k5 := b5.cell
    go_region_held3 (fun W => W.cell? ⟨B5, 0, none⟩ = some (.slice A (L.length : Nat) c)) (first | exact k5 | go_keep) ((go_at_call 18; refine (cL _).mono ?_; rintro e wA ⟨rfl, hbA⟩; replace b0 : Boxed wA B0 4 (.bool false) := (hbA.block _ b0.lt).trans b0; replace hh := hh.below' hbA (Nat.le_of_lt b5.lt); replace b5 : Boxed wA B5 35 (.slice A L.length c) := (hbA.block _ b5.lt).trans b5; replace hb2 := below_go HB.out hb2 hbA; clear hbA; replace k5 := b5.cell))
    clear hmx hwr k5 cL
    go_wp2
    go_loopw [6, 7] (fun v i wr => ∃ k : Nat, k ≤ L.length ∧ v = .string (bs (befS (ls s) k)) ∧ i = .int .i64 k ∧ Boxed wr B0 4 (.bool false) ∧ Boxed wr B5 35 (.slice A L.length c) ∧ Has wr B5 A L.length (wv L) ∧ Below B0 w wr) (fun _ i _ => L.length - (intOf i).toNat)
    case atStart => exact ⟨0, Nat.zero_le _, by rw [show befS (ls s) 0 = ls s from rfl, bs_ls], rfl, b0, b5, hh, hb2⟩
    case round =>
      clear b0 b5 hh hb2
      obtain ⟨k, hk, rfl, rfl, b0, b5, hh, hb2⟩ := hrel
      by_cases hlt : k < L.length
      · obtain ⟨f1, f2, f3, f4⟩ := hf k hlt
        have f5 := hbl k hk
        obtain ⟨b, off, hA, hbB, hc⟩ := hh.at_ hlt
        rw [wv_get L k hlt, ← getD_at L k hlt []] at hc
        have cv1 := fun W => hC (bs (L.getD k [])) s W (by rw [bs_size]; omega) (by omega)
        have cv2 := fun W => hC (bs (L.getD k [])) (bs (befS (ls s) k)) W (by rw [bs_size]; omega) (by rw [bs_size]; omega)
        simp only [ls_bs, f1, f2] at cv1 cv2
        have f6 : (bs (L.getD k [])).size < (bs (befS (ls s) k)).size := by rw [bs_size, bs_size]; exact f3
        have HN := Lib.hid f4
        obtain ⟨X, hX⟩ : ∃ X, X = bs (L.getD k []) := ⟨_, rfl⟩
        obtain ⟨Y, hY⟩ : ∃ Y, Y = bs (befS (ls s) k) := ⟨_, rfl⟩
        rw [← hX] at hc f6
        rw [← hY] at f6 ⊢
        simp only [← hX, ← hY] at cv1 cv2
        have HX := Lib.hid hX
        have hd1 : decide ((Y.size : Int) ≤ (X.size : Int)) = false := decide_eq_false (by omega)
        clear f1 f2 f3 f4 f5 hX hY
        subst hA
        have k5 := b5.cell
        go_wp2_with fail
        refine (cv1 _).mono ?_
        rintro e wA ⟨rfl, hbA⟩
        replace hc := (hbA.cell (p := ⟨b, off + k, none⟩) (Nat.lt_trans hbB b5.lt)).trans hc
        replace b0 : Boxed wA B0 4 (.bool false) := (hbA.block _ b0.lt).trans b0
        replace hh := hh.below' hbA (Nat.le_of_lt b5.lt)
        replace b5 : Boxed wA B5 35 (.slice (some ⟨b, off, none⟩) L.length c) := (hbA.block _ b5.lt).trans b5
        replace hb2 := below_go HB.out hb2 hbA
        replace k5 := b5.cell
        clear hbA
        go_wp2_with fail
        refine (cv2 _).mono ?_
        rintro e wC ⟨rfl, hbA⟩
        replace hc := (hbA.cell (p := ⟨b, off + k, none⟩) (Nat.lt_trans hbB b5.lt)).trans hc
        replace b0 : Boxed wC B0 4 (.bool false) := (hbA.block _ b0.lt).trans b0
        replace hh := hh.below' hbA (Nat.le_of_lt b5.lt)
        replace b5 : Boxed wC B5 35 (.slice (some ⟨b, off, none⟩) L.length c) := (hbA.block _ b5.lt).trans b5
        replace hb2 := below_go HB.out hb2 hbA
        replace k5 := b5.cell
        clear hbA
        go_wp2
        go_roundw
        case rel => exact ⟨k + 1, hlt, by rw [HN.out, HX.out], by go_num, b0, b5, hh, hb2⟩
        case measure => simp [intOf]; omega
      · obtain rfl : k = L.length := by omega
        have k5 := b5.cell
        clear hlt hk hf hbl
        generalize bs (befS (ls s) L.length) = Y at *
        go_wp2_with fail
        refine (cM _).mono ?_
        rintro e wM ⟨rfl, rfl⟩
        have b8 := Boxed.new wr 3 (.int .i64 0)
        have b9 := Boxed.new (wr.alloc (.cells #[.int .i64 0] 3)) 3 (.int .i64 0)
        rw [World.size_alloc] at b9
        go_upto_region 14 with fail
        have hb3 : Below B0 w ((wr.alloc (.cells #[.int .i64 N5] 3)).alloc (.cells #[.int .i64 0] 3)) := (hb2.alloc (by rw [HB.out]; exact hb2.size) _).alloc (by rw [HB.out, World.size_alloc]; have := hb2.size; omega) _
        have h8 : Boxed ((wr.alloc (.cells #[.int .i64 N5] 3)).alloc (.cells #[.int .i64 0] 3)) wr.heap.size 3 (.int .i64 N5) := (Boxed.new wr 3 (.int .i64 N5)).alloc _
        have h9 : Boxed ((wr.alloc (.cells #[.int .i64 N5] 3)).alloc (.cells #[.int .i64 0] 3)) (wr.heap.size + 1) 3 (.int .i64 0) := by
          have := Boxed.new (wr.alloc (.cells #[.int .i64 N5] 3)) 3 (.int .i64 0)
          rwa [World.size_alloc] at this
        replace b0 : Boxed _ B0 4 (.bool false) := (b0.alloc (.cells #[.int .i64 N5] 3)).alloc (.cells #[.int .i64 0] 3)
        have hlt5 := b5.lt
        replace b5 : Boxed _ B5 35 (.slice A L.length c) := (b5.alloc (.cells #[.int .i64 N5] 3)).alloc (.cells #[.int .i64 0] 3)
        replace hh := (hh.alloc (Nat.le_of_lt hlt5) (.cells #[.int .i64 N5] 3)).alloc (by simp; omega) (.cells #[.int .i64 0] 3)
        clear k5 hb2
        generalize hB8 : wr.heap.size = B8 at *
        generalize (wr.alloc (.cells #[.int .i64 N5] 3)).alloc (.cells #[.int .i64 0] 3) = W4 at *
        clear hB8 cM
        go_wp2_with fail
        refine (cU _).mono ?_
        rintro e Wr ⟨gf, lb, Kr, rfl, hit, hKl, hb⟩
        replace hKl : ∀ r, Kr r → B8 + 1 < r := fun r hr => Nat.lt_of_lt_of_le h9.lt (hKl r hr)
        replace hh := hh.below' hb (Nat.le_of_lt b5.lt)
        replace b0 : Boxed Wr B0 4 (.bool false) := (hb.block _ b0.lt).trans b0
        replace b5 : Boxed Wr B5 35 (.slice A L.length c) := (hb.block _ b5.lt).trans b5
        replace h8 : Boxed Wr B8 3 (.int .i64 N5) := (hb.block _ h8.lt).trans h8
        replace h9 : Boxed Wr (B8 + 1) 3 (.int .i64 0) := (hb.block _ h9.lt).trans h9
        replace hb3 := below_go HB.out hb3 hb
        clear hb cU
        have H8 := Lib.hid hlt5
        have H9 := Lib.hid h9.lt
        have HN5 := Lib.hid hN52
        clear hlt5 hN52
        go_wp2_with fail
        refine (wpIn_wide (n := 3)).1 ?_
        refine wpIn_rangeFunc_T (F := Fence.wide) (n := 3) (α := St9) rfl (by decide) (gf := gf) (lb := lb) rfl trivial hit.1
          (enc := fun x : St9 => .string x.1) (Al := fun _ => False) (Kr := Kr) (S := fun xs => xs.map (fun x => ls x.1) = L) (Sp := fun pre => pre.map (fun x => ls x.1) <+: L) (N := L.length)
          (fun r h => False.elim h) hit.2.1 (fun W0 hg => hit.2.2 _ W0 (fun r hr => hg.block r (hit.2.1 r hr) (by simp))) rfl
          (fun pre W => Boxed W (B8 + 1) 3 (.int .i64 (pre.length : Nat)) ∧ (pre.length ≤ N5 ∧ pre.map (fun x => ls x.1) <+: L) ∧ Below (B8 + 1) Wr W)
          (fun c pre W => (c = .ret ∧ ¬ pre.map (fun x => ls x.1) <+: L) ∨ (c = .exit 2 ∧ pre.length = N5 + 1) ∧ Boxed W (B8 + 1) 3 (.int .i64 ((pre.length - 1 : Nat) : Int)) ∧ Below (B8 + 1) Wr W)
          ((ownT_box (B8 + 1) 3 (fun pre : List St9 => .int .i64 (pre.length : Nat)) (fun h => h)).and ((ownT_pure _).and (ownT_below (Nat.le_of_lt h9.lt) (Nat.le_of_lt h9.lt) (fun r h => False.elim h))))
          (fun c => (ownT_pure _).or ((ownT_pure _).and ((ownT_box (B8 + 1) 3 (fun pre : List St9 => .int .i64 ((pre.length - 1 : Nat) : Int)) (fun h => h)).and (ownT_below (Nat.le_of_lt h9.lt) (Nat.le_of_lt h9.lt) (fun r h => False.elim h)))))
          ⟨h9, ⟨Nat.zero_le _, List.nil_prefix⟩, Below.refl _ _⟩
          (fun x => { tmps := #[.string s, .int .i64 stop, undef, undef, .pointer (some ⟨B0, 0, none⟩), .pointer (some ⟨B5, 0, none⟩), .string Y, .int .i64 L.length, .pointer (some ⟨B8, 0, none⟩), .pointer (some ⟨B8 + 1, 0, none⟩), .func (.func gf) #[] lb, .string x.1, .string s, .int .i64 s.size, .bool false, undef, .string s, .slice A L.length c, .slice A L.length c, .int .i64 L.length, .string s, .int .i64 la, .int .i64 ((la : Int) - 1), .int .i64 L.length, .bool false, .string s, .int .i64 L.length, .slice A L.length c, .int .i64 L.length, .bool false, u30, u31, u32, u33, u34, u35, u36, u37, u38, u39, u40, u41, u42, u43, u44, u45, u46, u47, u48, u49, u50, u51, u52, u53, u54, u55, u56, u57, u58, u59, u60, u61, .int .i64 stop, .int .i64 N5, .string s, .func (.func gf) #[] lb, .func (.func gf) #[] lb, .bool false, .func (.func gf) #[] lb, .string x.1, undef, undef, undef, undef, undef, undef, undef, undef, undef, undef, undef, undef, undef, undef, undef, undef, undef, undef, undef, undef, undef, undef, undef, undef, undef, undef], defers := [] }) ?assign ?body ?done ?stop
        case assign =>
          intro l x W K hK
          gi_wp2
          exact hK
        case body =>
          rintro l pre x W hl1 hl2 ⟨b9, ⟨hle, hpre⟩, hB⟩ hN9
          have k9 := b9.cell
          have f9 := b9.frozen
          have k8 := (hB.cell (p := ⟨B8, 0, none⟩) (Nat.lt_succ_self _)).trans h8.cell
          have k5 := (hB.cell (p := ⟨B5, 0, none⟩) (by show B5 < B8 + 1; have := H8.out; omega)).trans b5.cell
          by_cases hq : pre.length = N5
          · have hq2 : ((pre.length : Int) == (N5 : Int)) = true := by rw [hq]; simp
            have HQ := Lib.hid hq
            clear hq
            gi_wp2
            refine ⟨⟨Nat.le_refl _, fun k o _ h _ => h⟩, .inr ⟨⟨rfl, by rw [List.length_append, HQ.out]; rfl⟩, ?_, hB⟩⟩
            rw [List.length_append, List.length_singleton, Nat.add_sub_cancel]
            exact b9
          · have hq2 : ((pre.length : Int) == (N5 : Int)) = false := by rw [beq_eq_false_iff_ne]; omega
            have hhW := hh.below' hB (by have := H8.out; omega : B5 ≤ B8 + 1)
            obtain ⟨b, off, hA, hbB, hc⟩ := hhW.at_ hN9
            rw [wv_get L _ hN9, ← getD_at L _ hN9 []] at hc
            have hd1 : decide ((L.length : Int) ≤ (pre.length : Int)) = false := decide_eq_false (by omega)
            have hle5 : pre.length + 1 ≤ N5 := by omega
            have h5 : pre.length ≤ 5 := by have := HN5.out; omega
            have HPL := Lib.hid hN9
            obtain ⟨X, hX⟩ : ∃ X, X = bs (L.getD pre.length []) := ⟨_, rfl⟩
            rw [← hX] at hc
            by_cases hx : L.getD pre.length [] = ls x.1
            · have hx1 : (X.toList == x.1.toList) = true := by rw [hX, hx, bs_ls]; simp
              have hx2 : (!(X.toList == x.1.toList)) = false := by rw [hx1]; rfl
              have HN : Hid ((pre ++ [x]).map (fun x => ls x.1) <+: L) := by
                refine Lib.hid ?_
                rw [List.map_append]
                exact pre_next hpre (by rw [List.length_map]; exact hN9) (by rw [List.length_map]; exact hx)
              have HLE := Lib.hid hle5
              clear hx hX hq hle5 hN9 hle hpre
              subst hA
              gi_wp2
              refine ⟨(KeepsOthers.setCell _ _ _).from _, fun r h => Below.heap_setCell _ _ _ r (by show r ≠ B8 + 1; have := hKl r h; omega), ?_, ⟨by rw [List.length_append]; exact HLE.out, HN.out⟩, hB.setCell (p := ⟨B8 + 1, 0, none⟩) (Nat.le_refl _) _⟩
              rw [show (((pre ++ [x]).length : Nat) : Int) = (pre.length : Int) + 1 by simp]
              exact b9.set _
            · have hx1 : (X.toList == x.1.toList) = false := by
                rw [beq_eq_false_iff_ne, toList_ls, toList_ls, hX, ls_bs]
                exact hx
              have hx2 : (!(X.toList == x.1.toList)) = true := by rw [hx1]; rfl
              have HN : Hid (¬ (pre ++ [x]).map (fun x => ls x.1) <+: L) := by
                refine Lib.hid ?_
                rw [List.map_append]
                exact pre_not (by rw [List.length_map]; exact hx)
              have bW : Boxed W B0 4 (.bool false) := (hB.block B0 (by have := H8.out; omega)).trans b0
              have k0 := bW.cell
              have f0 := bW.frozen
              clear hx hX hq hle5 hN9 hle hpre
              subst hA
              gi_wp2
              exact ⟨(KeepsOthers.setCell _ _ _).from _, .inl ⟨rfl, HN.out⟩⟩
        case done =>
          rintro D xs W hD hS ⟨b9, ⟨hle, hpre⟩, hB⟩ hK
          have hlx : xs.length = L.length := by have := congrArg List.length hS; rwa [List.length_map] at this
          rw [hlx] at b9 hle
          have hmn := fun (W : World) ts => min_two (P := Tryz.prog) W ts 3 (N5 : Int) (L.length : Int) (L.length : Int) (by omega)
          have hee : ((L.length : Int) == (L.length : Int)) = true := by simp
          clear hS hpre hlx hle
          have k8 := (hB.cell (p := ⟨B8, 0, none⟩) (Nat.lt_succ_self _)).trans h8.cell
          have k5 := (hB.cell (p := ⟨B5, 0, none⟩) (by show B5 < B8 + 1; have := H8.out; omega)).trans b5.cell
          have k9 := b9.cell
          have hBB : Below w.heap.size w W := by rw [← HB.out]; exact hb3.trans (hB.mono (by have := H8.out; omega))
          have bW : Boxed W B0 4 (.bool false) := (hB.block B0 (by have := H8.out; omega)).trans b0
          have hDD : w.heap.size ≤ D := Nat.le_trans hb3.size hD
          have c9' := c9 W (hw_below HW.out hBB)
          have H0 := Lib.hid HB.out
          clear c9 hh b5 h8 h9 b9 hit hKl hnil cS hLn
          go_wp2_with fail
          refine c9'.mono ?_
          rintro e w4 ⟨rfl, hb4⟩
          replace bW : Boxed w4 B0 4 (.bool false) := (hb4.block _ bW.lt).trans bW
          have hK4 : w4.heap[D]? = some (.deferred (some [])) := (hb4.block D (Array.getElem?_eq_some_iff.1 hK).1).trans hK
          have k0 := bW.cell
          have f0 := bW.frozen
          replace hBB := hBB.trans (hb4.mono hBB.size)
          clear hb4 hK
          go_wp2
          have hK2 := (KeepsOthers.setCell w4 ⟨B0, 0, none⟩ (.bool true)).same D _ hK4 rfl
          refine ⟨by simp, .inl ⟨_, _, rfl, run_takeDeferred hK2, ?_⟩⟩
          have hc5 := cell_kept (bW.set (.bool true)).cell (grownBy_putObj' _ D (.deferred none)) (fun r e => by cases e; exact ⟨_, hK2, rfl⟩)
          refine ⟨.bool true, ?_, rfl, (hBB.setCell (p := ⟨B0, 0, none⟩) (by show w.heap.size ≤ B0; rw [H0.out]; exact Nat.le_refl _) _).trans (belowK_b (w := w) (Nat.le_refl _) _ D _ _ hDD hK2 rfl rfl)⟩
          simp [results, Tryz.f6, go_sem, hc5]
        case stop =>
          rintro D c9x pre W hD hSp hix hK
          rcases hix with ⟨_, hno⟩ | ⟨⟨rfl, hle⟩, b9, hB⟩
          · exact absurd hSp hno
          have hl2 := hSp.length_le
          rw [List.length_map] at hl2
          rw [hle, Nat.add_sub_cancel] at b9
          have hmn := fun (W : World) ts => min_two (P := Tryz.prog) W ts 3 (N5 : Int) (L.length : Int) (N5 : Int) (by omega)
          have hee : ((N5 : Int) == (N5 : Int)) = true := by simp
          clear hSp hl2 hle
          refine wpIn_wide.2 ?_
          have k8 := (hB.cell (p := ⟨B8, 0, none⟩) (Nat.lt_succ_self _)).trans h8.cell
          have k5 := (hB.cell (p := ⟨B5, 0, none⟩) (by show B5 < B8 + 1; have := H8.out; omega)).trans b5.cell
          have k9 := b9.cell
          have hBB : Below w.heap.size w W := by rw [← HB.out]; exact hb3.trans (hB.mono (by have := H8.out; omega))
          have bW : Boxed W B0 4 (.bool false) := (hB.block B0 (by have := H8.out; omega)).trans b0
          have hDD : w.heap.size ≤ D := Nat.le_trans hb3.size hD
          have c9' := c9 W (hw_below HW.out hBB)
          have H0 := Lib.hid HB.out
          clear c9 hh b5 h8 h9 b9 hit hKl hnil cS hLn
          go_wp2_with fail
          refine c9'.mono ?_
          rintro e w4 ⟨rfl, hb4⟩
          replace bW : Boxed w4 B0 4 (.bool false) := (hb4.block _ bW.lt).trans bW
          have hK4 : w4.heap[D]? = some (.deferred (some [])) := (hb4.block D (Array.getElem?_eq_some_iff.1 hK).1).trans hK
          have k0 := bW.cell
          have f0 := bW.frozen
          replace hBB := hBB.trans (hb4.mono hBB.size)
          clear hb4 hK
          go_wp2
          have hK2 := (KeepsOthers.setCell w4 ⟨B0, 0, none⟩ (.bool true)).same D _ hK4 rfl
          refine ⟨by simp, .inl ⟨_, _, rfl, run_takeDeferred hK2, ?_⟩⟩
          have hc5 := cell_kept (bW.set (.bool true)).cell (grownBy_putObj' _ D (.deferred none)) (fun r e => by cases e; exact ⟨_, hK2, rfl⟩)
          refine ⟨.bool true, ?_, rfl, (hBB.setCell (p := ⟨B0, 0, none⟩) (by show w.heap.size ≤ B0; rw [H0.out]; exact Nat.le_refl _) _).trans (belowK_b (w := w) (Nat.le_refl _) _ D _ _ hDD hK2 rfl rfl)⟩
          simp [results, Tryz.f6, go_sem, hc5]
  · have hd : decide ((400 : Int) < (s.size : Int)) = true := decide_eq_true (by omega)
    have c9' := c9 _ (hw_below hw hb0)
    clear hw c9 hs
    go_enter Tryz.func6, Tryz.ntmps6
    go_wp2_with fail
    refine c9'.mono ?_
    rintro r w1 ⟨rfl, hb⟩
    replace b0 : Boxed w1 w.heap.size 4 (.bool false) := (hb.block _ b0.lt).trans b0
    have k0 := b0.cell
    have f0 := b0.frozen
    go_wp2
    have bx := (b0.set (.bool true)).cell
    refine bodyPost_ret (v := .bool true) ?_ rfl ⟨rfl, (hb0.trans (hb.mono hb0.size)).setCell (p := ⟨w.heap.size, 0, none⟩) (Nat.le_refl _) _⟩
    simp [results, Tryz.f6, go_sem, bx]
end

section

end

section
open Go.RowKit

def hexHi (n : Nat) : UInt8 := if n < 10 then UInt8.ofNat (48 + n) else UInt8.ofNat (55 + n)
def hexLo (n : Nat) : UInt8 := if n < 10 then UInt8.ofNat (48 + n) else UInt8.ofNat (87 + n)
theorem digV_hexHi (n : Nat) (h : n < 16) : digV (hexHi n) = n := by
  have key : ∀ m : Fin 16, digV (hexHi m.val) = m.val := by decide +kernel
  exact key ⟨n, h⟩
theorem digV_hexLo (n : Nat) (h : n < 16) : digV (hexLo n) = n := by
  have key : ∀ m : Fin 16, digV (hexLo m.val) = m.val := by decide +kernel
  exact key ⟨n, h⟩
/-- What one byte is written as, and what that is read as. -/
def spBS (b : UInt8) (k : Nat) : List UInt8 := if k = 1 ∧ 97 ≤ b.toNat ∧ b.toNat ≤ 122 then [UInt8.ofNat (b.toNat - 32)] else if k = 2 then [37, hexHi (b.toNat / 16), hexLo (b.toNat % 16)] else [b]
def spM (x : UInt8 × Nat) : UInt8 := if x.2 = 1 ∧ 97 ≤ x.1.toNat ∧ x.1.toNat ≤ 122 then UInt8.ofNat (x.1.toNat - 32) else x.1
def flatS (l : List (UInt8 × Nat)) : List UInt8 := l.flatMap fun x => spBS x.1 x.2
theorem flatS_snoc (l : List (UInt8 × Nat)) (b : UInt8) (k : Nat) : flatS (l ++ [(b, k)]) = flatS l ++ spBS b k := by unfold flatS; simp
theorem up_ne (b : UInt8) (h : 97 ≤ b.toNat ∧ b.toNat ≤ 122) : UInt8.ofNat (b.toNat - 32) ≠ 37 ∧ UInt8.ofNat (b.toNat - 32) ≠ 91 ∧ lowU (UInt8.ofNat (b.toNat - 32)) = b := by
  have key : ∀ n : Fin 256, 97 ≤ n.val ∧ n.val ≤ 122 → UInt8.ofNat (n.val - 32) ≠ 37 ∧ UInt8.ofNat (n.val - 32) ≠ 91 ∧ lowU (UInt8.ofNat (n.val - 32)) = UInt8.ofNat n.val := by decide +kernel
  have := key ⟨b.toNat, b.toNat_lt⟩ h
  simpa using this
theorem pct_piece (b : UInt8) (k : Nat) (r : List UInt8) (hb : b ≠ 37) : pctL (spBS b k ++ r) = (pctL r).map (spM (b, k) :: ·) := by
  unfold spBS spM
  by_cases h1 : k = 1 ∧ 97 ≤ b.toNat ∧ b.toNat ≤ 122
  · rw [if_pos h1, if_pos h1]
    exact pctL_cons _ r (up_ne b h1.2).1
  · rw [if_neg h1, if_neg h1]
    by_cases h2 : k = 2
    · rw [if_pos h2]
      have hlt := b.toNat_lt
      have d1 := digV_hexHi (b.toNat / 16) (by omega)
      have d2 := digV_hexLo (b.toNat % 16) (by omega)
      have := pctL_pct (hexHi (b.toNat / 16)) (hexLo (b.toNat % 16)) r (by omega) (by omega)
      rw [d1, d2, show 16 * (b.toNat / 16) + b.toNat % 16 = b.toNat by omega, UInt8.ofNat_toNat] at this
      exact this
    · rw [if_neg h2]
      exact pctL_cons b r hb
theorem pct_flat : ∀ (l : List (UInt8 × Nat)) (r : List UInt8), (∀ x ∈ l, x.1 ≠ 37) → pctL (flatS l ++ r) = (pctL r).map (l.map spM ++ ·)
  | [], r, _ => by
    show pctL r = _
    simp
  | x :: l, r, h => by
    have e : flatS (x :: l) ++ r = spBS x.1 x.2 ++ (flatS l ++ r) := by unfold flatS; simp
    rw [e, pct_piece _ _ _ (h x (by simp)), pct_flat l r (fun y hy => h y (by simp [hy])), Option.map_map]
    congr 1
theorem low_flat (l : List (UInt8 × Nat)) (h : ∀ x ∈ l, lowU x.1 = x.1) : lowL (l.map spM) = l.map (·.1) := by
  unfold lowL
  rw [List.map_map]
  refine List.map_congr_left fun x hx => ?_
  show lowU (spM x) = x.1
  unfold spM
  split
  · rename_i h1
    exact (up_ne x.1 h1.2).2.2
  · exact h x hx
theorem spB_len (b : UInt8) (k : Nat) : (spBS b k).length ≤ 3 := by
  unfold spBS
  split
  · simp
  · split <;> simp
theorem flatS_len : ∀ (l : List (UInt8 × Nat)), (flatS l).length ≤ 3 * l.length
  | [] => by simp [flatS]
  | x :: l => by
    have e : flatS (x :: l) = spBS x.1 x.2 ++ flatS l := by unfold flatS; simp
    have := flatS_len l
    have := spB_len x.1 x.2
    rw [e, List.length_append, List.length_cons]
    omega
theorem spB_head (b : UInt8) (k : Nat) (r : List UInt8) (hb : b ≠ 91) : (spBS b k ++ r).head? ≠ some 91 := by
  unfold spBS
  split
  · rename_i h
    intro e
    injection e with e
    exact (up_ne b h.2).2.1 e
  · split
    · intro e
      injection e with e
      exact absurd e (by decide)
    · intro e
      injection e with e
      exact hb e
/-- However a name is spelled, it is read back; with a dot at the end, too. -/
theorem spell_parse {n : List UInt8} (h : Vn n) (hl : n.length ≤ 200) (l : List (UInt8 × Nat)) (e : l.map (·.1) = n) : parseH (flatS l) = (0, hvD n) ∧ parseH (flatS l ++ [46]) = (0, hvD n) := by
  have hm : ∀ x ∈ l, x.1 ∈ n := fun x hx => by rw [← e]; exact List.mem_map_of_mem hx
  have hlen : l.length = n.length := by rw [← e]; simp
  have h3 := flatS_len l
  have hlow : lowL (l.map spM) = n := by rw [low_flat l fun x hx => (h.low x.1 (hm x hx)).1, e]
  have hne : ∀ x ∈ l, x.1 ≠ 37 := fun x hx => (h.byte_not x.1 (hm x hx)).1
  have hhead : ∀ r, (flatS l ++ r).head? ≠ some 91 := by
    intro r
    cases l with
    | nil =>
      simp only [List.map_nil] at e
      exact absurd e.symm h.ne
    | cons x l =>
      rw [show flatS (x :: l) ++ r = spBS x.1 x.2 ++ (flatS l ++ r) by unfold flatS; simp]
      exact spB_head _ _ _ (h.byte_not x.1 (hm x (by simp))).2.1
  constructor
  · refine parse_spell h (by omega) ?_ hlow (.inl ?_)
    · have := hhead []
      rwa [List.append_nil] at this
    · have := pct_flat l [] hne
      rw [List.append_nil, pctL_nil] at this
      rw [this]
      simp
  · refine parse_spell h (by rw [List.length_append]; simp; omega) (hhead _) hlow (.inr ?_)
    rw [pct_flat l [46] hne, show pctL [46] = some [46] by rw [pctL_cons 46 [] (by decide), pctL_nil]; rfl]
    rfl
end

end Go.Proofs.YtpccpgihldpiiaaGreatDoor
