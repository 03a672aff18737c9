/-
Slices of numbers that came in.
The walk of HostSpellings: it returns true.
All that a statement on hosts needs (SuE).
What the statements' listed variables give: the library's tables and the error of a text that is no number.
-/
import Derived.Test.YtpccpgihldpiiaaGreatDoorB10
import Derived.Test.YtpccpgihldpiiaaGreatDoorB02
import Derived.Deep.SlicePairs
import Derived.Deep.Slices
import Derived.Deep.Fields
import Derived.ChangeSame
import Derived.Test.YtpccpgihldpiiaaGreatDoorB21
import Derived.Test.YtpccpgihldpiiaaGreatDoorB29
import Derived.Test.YtpccpgihldpiiaaGreatDoorB40
import Derived.Test.YtpccpgihldpiiaaGreatDoorB11
import Derived.Deep.RegionHeld3
import Derived.Test.YtpccpgihldpiiaaGreatDoorB38
import Derived.Test.YtpccpgihldpiiaaGreatDoorShelf
import Derived.PinnedBridge
import Derived.Lib.LaidU8
import Derived.Lib.LaidTab
import Derived.Lib.TrailingZeros
import Derived.MakeChecks
import Derived.Lay
import Derived.LaidOnce
import Derived.Stop.LaidErr
namespace Go.Proofs.YtpccpgihldpiiaaGreatDoor
section
open Go.RowKit Go.ChangeShapes Go.WideShapes Go.Deep

theorem tyInt : Tryz.prog.underlying 3 = some (.int .i64) := by kernel_rfl
theorem wf_i64z {z : Int} (h : (Lit.int .i64 z).wf = true) : -9223372036854775808 ≤ z ∧ z ≤ 9223372036854775807 := by
  have h1 : IntKind.i64.min = -9223372036854775808 := rfl
  have h2 : IntKind.i64.max = 9223372036854775807 := rfl
  simp [Lit.wf] at h
  have h3 : IntKind.i64.min ≤ z ∧ z ≤ IntKind.i64.max := h
  rw [h1, h2] at h3
  exact h3
theorem inZ_of {w : World} {a : Option Addr} {len cap : Nat} {zs : List Int}
    (h : (a = none ∧ len = 0 ∧ cap = 0 ∧ zs = []) ∨
      ∃ x, a = some x ∧ len ≤ cap ∧ cap ≤ maxLen ∧ zs.length = cap ∧ (∀ i, i < zs.length → w.cell? (x.add i) = some (.int .i64 (zs.getD i 0))) ∧ ∀ n ∈ zs, (Lit.int .i64 n).wf = true) :
    ∃ Z, InZ w w.heap.size a len cap Z := by
  rcases h with ⟨rfl, rfl, rfl, rfl⟩ | ⟨x, rfl, hl, hm, hz, hc, hw⟩
  · exact ⟨[], Has.nil _ _ _, Nat.le_refl _, Nat.zero_le _, fun _ => rfl, fun z h => by simp at h⟩
  · refine ⟨zs.take len, ⟨by simp; omega, fun h0 => ?_⟩, hl, hm, fun e => (by cases e), fun z h => wf_i64z (hw z (List.mem_of_mem_take h))⟩
    have h00 := hc 0 (by omega)
    have hx0 : x.add 0 = x := by unfold Addr.add; simp
    rw [hx0] at h00
    have hspot : x.spot = none := by
      unfold World.cell? at h00
      split at h00
      · by_cases hs : x.spot.isSome = true
        · rw [if_pos hs] at h00; cases h00
        · simpa using hs
      · cases h00
    have hlt : x.block < w.heap.size := by
      unfold World.cell? at h00
      split at h00
      · rename_i hh
        exact (Array.getElem?_eq_some_iff.1 hh).1
      · cases h00
    refine ⟨x.block, x.off, by rw [← hspot], hlt, fun j hj => ?_⟩
    have hj' : j < len := by simp at hj; omega
    have hadd : x.add j = ⟨x.block, x.off + j, none⟩ := by
      unfold Addr.add
      split
      · subst j; rw [Nat.add_zero, ← hspot]
      · rfl
    rw [← hadd, hc j (by omega)]
    simp only [List.getElem_map, List.getElem_take]
    rw [List.getD_eq_getElem?_getD, List.getElem?_eq_getElem (by omega), Option.getD_some]

section
variable {H : Type} {enc : TypeId × Value → H} {w : World} {held : Bool}
theorem opn_z {fuel : Nat} {A : Option Addr} {n c : Nat} {x : DataW H × List MemPlace} (h : DataW.trod enc Tryz.prog w 0 (fun _ => true) held fuel 38 [.slice A n c] = some x) : ∃ Z, InZ w w.heap.size A n c Z := by
  rcases open_ints tyInts tyInt (by kernel_rfl) h with ⟨hcs, _⟩ | ⟨y, l, c', zs, hcs, _, hl, hm, hz, _, hcell, hwz⟩
  · simp at hcs
    obtain ⟨rfl, rfl, rfl⟩ := hcs
    exact inZ_of (zs := []) (.inl ⟨rfl, rfl, rfl, rfl⟩)
  · simp at hcs
    obtain ⟨rfl, rfl, rfl⟩ := hcs
    exact inZ_of (zs := zs) (.inr ⟨_, rfl, hl, hm, by simpa using hz, hcell, hwz⟩)
end
end

section
open Go.RowKit Go.Shelf

def hexS1 : ByteArray := ⟨#[48, 49, 50, 51, 52, 53, 54, 55, 56, 57, 65, 66, 67, 68, 69, 70]⟩
def hexS2 : ByteArray := ⟨#[48, 49, 50, 51, 52, 53, 54, 55, 56, 57, 97, 98, 99, 100, 101, 102]⟩
theorem hexS1_at (q : Nat) (hq : q < 16) (h : q < hexS1.size) : (hexS1[q]'h).toNat = (hexHi q).toNat := by
  have key : ∀ m : Fin 16, (hexS1[m.val]'(m.isLt)).toNat = (hexHi m.val).toNat := by decide +kernel
  exact key ⟨q, hq⟩
theorem hexS2_at (q : Nat) (hq : q < 16) (h : q < hexS2.size) : (hexS2[q]'h).toNat = (hexLo q).toNat := by
  have key : ∀ m : Fin 16, (hexS2[m.val]'(m.isLt)).toNat = (hexLo m.val).toNat := by decide +kernel
  exact key ⟨q, hq⟩
theorem wpAny_tail9 {P : Program} {md : Region.Mode} {ops : Array Oper} {Q' : Exit → Act → World → Prop} {listed : Array Bool} {a : Act} {w : World} {n : Nat} (k : Nat) (hn : k + n = ops.size) (hB : Region.seqB md ops n k listed = true)
    (h : wpList P ops Q' (ops.toList.drop k) a w) : wpAny P md ops Q' n listed a w := by
  have hl : (ops.toList.drop k).length = n := by simp; omega
  have := wpAny_of_seq (ops.toList.drop k) k listed a w (fun j => by simp) (by rw [hl]; exact hB) h
  rwa [hl] at this
theorem index_lit (S : ByteArray) (q : Nat) (v : Nat) (hq : q < S.size) (hv : (S[q]'hq).toNat = v) (W : World) : (Instr.index 9 (.string S) (.int .u8 (q : Int))).run Tryz.prog W = .ok (.int .u8 (v : Int)) W := by
  rw [run_index_string _ _ _ _ _ tyStr]
  have h : (0 : Int) ≤ (q : Int) ∧ (q : Int) < (S.size : Int) := by omega
  simp [h, hv]
/-- string(b) of two bytes. -/
theorem str_two (W : World) (c d : UInt8) :
    (convert 40 9 (.slice (some ⟨W.heap.size, 0, none⟩) 2 2)).run Tryz.prog (W.alloc (.cells #[.int .u8 (c.toNat : Int), .int .u8 (d.toNat : Int)] 5)).drew = .ok (.string (bs [c, d])) (W.alloc (.cells #[.int .u8 (c.toNat : Int), .int .u8 (d.toNat : Int)] 5)).drew :=
  str_has _ _ 2 2 (W.heap.size + 1) [c, d] (show Has (W.alloc (.cells #[.int .u8 (c.toNat : Int), .int .u8 (d.toNat : Int)] 5)).drew (W.heap.size + 1) (some ⟨W.heap.size, 0, none⟩) 2 ([c, d].map bv) from Has.two W (.int .u8 (c.toNat : Int)) (.int .u8 (d.toNat : Int)) 5)
theorem spB_up {b : UInt8} {k : Nat} (hk : k = 1) (h1 : 97 ≤ b.toNat) (h2 : b.toNat ≤ 122) : spBS b k = [UInt8.ofNat (b.toNat - 32)] := by unfold spBS; rw [if_pos ⟨hk, h1, h2⟩]
theorem spB_hex {b : UInt8} {k : Nat} (hk : k = 2) : spBS b k = [37, hexHi (b.toNat / 16), hexLo (b.toNat % 16)] := by unfold spBS; rw [if_neg (by omega), if_pos hk]
theorem spB_self {b : UInt8} {k : Nat} (hk : k ≠ 2) (h : ¬ (k = 1 ∧ 97 ≤ b.toNat ∧ b.toNat ≤ 122)) : spBS b k = [b] := by unfold spBS; rw [if_neg h, if_neg hk]

set_option maxRecDepth 100000 in
set_option maxHeartbeats 1000000 in
theorem walkHoSpell (hP : HoPar 13) (hL : HoLab 18) (hC : HoCov 23) (s : ByteArray) (A : Option Addr) (n c : Nat) (w : World) (_ : s.size ≤ maxLen) (hA : ∃ Z, InZ w w.heap.size A n c Z) (hw : Hw w) :
    Calls Tryz.prog 5 #[.string s, .slice A n c] w (Yes w) := by
  obtain ⟨Z, hA⟩ := hA
  have c9 := fun W hW => awake14_any hP hL hC W hW
  have HW := Lib.hid hw
  by_cases hs : s.size ≤ 200
  · have hd : decide ((200 : Int) < (s.size : Int)) = false := decide_eq_false (by omega)
    have cV := refVn_any s w (by omega)
    cases hv : vnL (ls s) with
    | true =>
      rw [hv] at cV
      have HV := Lib.hid ((vn_iff _).1 hv)
      clear hv
      go_enter Tryz.func5, Tryz.ntmps5
      go_wp2_with fail
      refine cV.mono ?_
      rintro e w1 ⟨rfl, hb1⟩
      clear cV
      go_wp2
      go_loopw [5, 6] (fun v i wr => ∃ (k : Nat) (l : List (UInt8 × Nat)), k ≤ s.size ∧ i = .int .i64 k ∧ v = .string (bs (flatS l)) ∧ Hid (l.map (·.1) = (ls s).take k) ∧ Below w.heap.size w wr) (fun _ i _ => s.size - (intOf i).toNat)
      case atStart => exact ⟨0, [], Nat.zero_le _, rfl, rfl, Lib.hid rfl, hb1⟩
      case round =>
        clear hb1
        obtain ⟨k, l, hk, rfl, rfl, HL, hb⟩ := hrel
        by_cases hlt : k < s.size
        · have hkn : ∃ kk : Nat, kk < 3 ∧ ((decide ((0 : Int) < (n : Int)) = false ∧ decide (0 < n) = false ∧ ¬ 0 < n ∧ kk = 0) ∨ (decide ((0 : Int) < (n : Int)) = true ∧ decide (0 < n) = true ∧ 0 < n ∧ ∃ (b off j : Nat) (z : Int), A = some ⟨b, off, none⟩ ∧ j < n ∧ (k : Int) % (n : Int) = (j : Int) ∧ wr.cell? ⟨b, off + j, none⟩ = some (.int .i64 z) ∧ z % 3 = (kk : Int) ∧ -9223372036854775808 ≤ z ∧ z ≤ 9223372036854775807)) := by
            rcases Nat.eq_zero_or_pos n with h0 | h0
            · exact ⟨0, by omega, .inl ⟨decide_eq_false (by omega), decide_eq_false (by omega), by omega, rfl⟩⟩
            · have hj : k % n < n := Nat.mod_lt _ h0
              obtain ⟨b, off, hAe, hbB, hc⟩ := (hA.below hb (Nat.le_refl _)).has.at_ hj
              rw [List.getElem_map] at hc
              have hlz : k % n < Z.length := by rw [← hA.len]; exact hj
              have hzw := hA.wf (Z[k % n]'hlz) (List.getElem_mem hlz)
              exact ⟨(Z[k % n]'hlz % 3).toNat, by omega, .inr ⟨decide_eq_true (by omega), decide_eq_true h0, h0, b, off, k % n, Z[k % n]'hlz, hAe, hj, by omega, hc, by omega, hzw⟩⟩
          obtain ⟨kk, hk3, hkc⟩ := hkn
          have HKC := Lib.hid hkc
          have HCM := hA.le
          have hcm := hA.room
          unfold maxLen at hcm
          have hk9 : k ≤ 200 := by omega
          have hll : l.length = k := by have := congrArg List.length HL.out; rw [List.length_map, List.length_take, ls_length] at this; omega
          have hfl := flatS_len l
          obtain ⟨X, hX⟩ : ∃ X, X = bs (flatS l) := ⟨_, rfl⟩
          have hXz : X.size ≤ 600 := by rw [hX, bs_size]; omega
          have HNX : ∀ P : ByteArray, P = bs (spBS s[k] kk) → Hid (bs (flatS (l ++ [(s[k], kk)])) = X ++ P) := fun P hP => by
            refine Lib.hid ?_
            apply ls_inj
            rw [flatS_snoc, ls_append, hX, hP, ls_bs, ls_bs, ls_bs]
          have HL2 : Hid ((l ++ [(s[k], kk)]).map (·.1) = (ls s).take (k + 1)) := Lib.hid (by rw [List.map_append, HL.out, take_ls_succ s k hlt]; rfl)
          rw [← hX]
          clear hkc hX hll hfl
          go_upto_if 31 with fail
          go_cut [7] from 31 to 39 (fun v wx => wr = wx ∧ v = .int .i64 (kk : Nat))
          case first =>
            rcases HKC.out with ⟨h1, h2, h3, rfl⟩ | ⟨h1, h2, h3, b, off, j, z, rfl, hj, hjm, hc, hz3, hz1, hz2⟩
            · clear h1 h2
              go_wp2_with fail
              go_meet
              exact ⟨rfl, rfl⟩
            · clear h1 h2
              have cM := mod_any z 3 (by omega) (by omega) hz1 hz2
              rw [hz3] at cM
              have hz0 : (n : Int) ≠ 0 := by omega
              clear hz3
              go_wp2_with fail
              refine (cM _).mono ?_
              rintro e wM ⟨rfl, rfl⟩
              go_wp2_with fail
              go_meet
              exact ⟨rfl, rfl⟩
          obtain ⟨hwx, hvx⟩ := hcut
          subst hwx
          subst hvx
          clear HKC
          have hbl := byte_lt s[k]
          have hy0 : (0 : Int) ≤ (s[k].toNat : Int) := by omega
          by_cases hc2 : kk = 2
          · have t1 : ((kk : Int) == 1) = false := by rw [beq_eq_false_iff_ne]; omega
            have t2 : ((kk : Int) == 2) = true := by rw [hc2]; rfl
            obtain ⟨q, hq⟩ : ∃ q : Nat, q = s[k].toNat / 16 := ⟨_, rfl⟩
            obtain ⟨r, hr⟩ : ∃ r : Nat, r = s[k].toNat % 16 := ⟨_, rfl⟩
            have hq16 : q < 16 := by omega
            have hr16 : r < 16 := by omega
            have e1 : IntKind.u8.wrap ((s[k].toNat : Int).tdiv 16) = (q : Int) := by rw [Int.tdiv_eq_ediv_of_nonneg hy0, IntKind.wrap_u8]; omega
            have e2 : (s[k].toNat : Int).tmod 16 = (r : Int) := by rw [Int.tmod_eq_emod_of_nonneg hy0]; omega
            have i1 : ∀ h, ((⟨#[48, 49, 50, 51, 52, 53, 54, 55, 56, 57, 65, 66, 67, 68, 69, 70]⟩ : ByteArray)[q]'h).toNat = (hexHi q).toNat := hexS1_at q hq16
            have i2 : ∀ h, ((⟨#[48, 49, 50, 51, 52, 53, 54, 55, 56, 57, 97, 98, 99, 100, 101, 102]⟩ : ByteArray)[r]'h).toNat = (hexLo r).toNat := hexS2_at r hr16
            have HN := HNX (⟨#[37]⟩ ++ bs [hexHi q, hexLo r]) (by rw [spB_hex hc2, ← hq, ← hr]; rfl)
            have hs1 : ¬ (9223372036854775807 < (⟨#[37]⟩ : ByteArray).size + (bs [hexHi q, hexLo r]).size) := by
              rw [show (⟨#[37]⟩ : ByteArray).size = 1 from rfl, bs_size]; simp
            have hs2 : ¬ (9223372036854775807 < X.size + ((⟨#[37]⟩ : ByteArray) ++ bs [hexHi q, hexLo r]).size) := by
              rw [ByteArray.size_append, show (⟨#[37]⟩ : ByteArray).size = 1 from rfl, bs_size]; simp; omega
            clear hq hr hc2 HNX
            go_wp2
            have hcv := str_two wr (hexHi q) (hexLo r)
            have e3 : IntKind.u8.wrap ((s[k].toNat : Int) / 16) = (q : Int) := by rw [← Int.tdiv_eq_ediv_of_nonneg hy0]; exact e1
            have e4 : (s[k].toNat : Int) % 16 = (r : Int) := by rw [← Int.tmod_eq_emod_of_nonneg hy0]; exact e2
            refine wp_region_any (by kernel_rfl) ?_
            change wpAny _ _ _ _ _ _ _ (World.drew _)
            refine wpAny_take (i := 0) (v := .string X) rfl (by kernel_rfl) (by kernel_rfl) (by kernel_rfl) (fun _ _ _ h => h) (Or.inl ⟨by rfl, by intro w; go_simp; try with_reducible rfl⟩) ?_
            refine wpAny_take (i := 1) (v := .int .u8 (s[k].toNat : Int)) rfl (by kernel_rfl) (by kernel_rfl) (by kernel_rfl) (fun _ _ _ h => h) (Or.inl ⟨by rfl, by intro w; go_simp; try with_reducible rfl⟩) ?_
            refine wpAny_take (i := 2) (v := .int .u8 (q : Int)) rfl (by kernel_rfl) (by kernel_rfl) (by kernel_rfl) (fun _ _ _ h => h) (Or.inl ⟨by rfl, by intro w; go_simp; try with_reducible rfl⟩) ?_
            refine wpAny_take (i := 3) (v := .int .u8 ((hexHi q).toNat : Int)) rfl (by kernel_rfl) (by kernel_rfl) (by kernel_rfl) (fun _ _ _ h => h) (Or.inl ⟨by rfl, by intro w; go_simp; intro h9; exfalso; omega⟩) ?_
            refine wpAny_take (i := 4) (v := .int .u8 (s[k].toNat : Int)) rfl (by kernel_rfl) (by kernel_rfl) (by kernel_rfl) (fun _ _ _ h => h) (Or.inl ⟨by rfl, by intro w; go_simp; try with_reducible rfl⟩) ?_
            refine wpAny_take (i := 5) (v := .int .u8 (r : Int)) rfl (by kernel_rfl) (by kernel_rfl) (by kernel_rfl) (fun _ _ _ h => h) (Or.inl ⟨by rfl, by intro w; go_simp; try with_reducible rfl⟩) ?_
            refine wpAny_take (i := 6) (v := .int .u8 ((hexLo r).toNat : Int)) rfl (by kernel_rfl) (by kernel_rfl) (by kernel_rfl) (fun _ _ _ h => h) (Or.inl ⟨by rfl, by intro w; go_simp; intro h9; exfalso; omega⟩) ?_
            clear i1 i2 e1 e2 e3 e4
            refine wpAny_tail9 7 rfl (by kernel_rfl) ?_
            simp only [List.drop_succ_cons, List.drop_zero]
            go_wp2
            go_roundw
            case rel => exact ⟨k + 1, _, hlt, by go_num, by rw [HN.out], HL2, (hb.alloc hb.size _).drew⟩
            case measure => simp [intOf]; omega
          · have t2 : ((kk : Int) == 2) = false := by rw [beq_eq_false_iff_ne]; omega
            by_cases hc1 : kk = 1 ∧ 97 ≤ s[k].toNat ∧ s[k].toNat ≤ 122
            · obtain ⟨g1, g2, g3⟩ := hc1
              have t1 : ((kk : Int) == 1) = true := by rw [g1]; rfl
              have d1 : decide ((97 : Int) ≤ (s[k].toNat : Int)) = true := decide_eq_true (by omega)
              have d2 : decide ((s[k].toNat : Int) ≤ 122) = true := decide_eq_true (by omega)
              obtain ⟨u, hu⟩ : ∃ u : UInt8, u = UInt8.ofNat (s[k].toNat - 32) := ⟨_, rfl⟩
              have hu2 : (s[k].toNat : Int) - 32 = (u.toNat : Int) := by rw [hu, UInt8.toNat_ofNat']; omega
              have hcv := str_new wr ((s[k].toNat : Int) - 32) u hu2
              have HN := HNX (bs [u]) (by rw [spB_up g1 g2 g3, ← hu])
              have hs1 : ¬ (9223372036854775807 < X.size + (bs [u]).size) := by
                rw [bs_size]; simp; omega
              clear hu hu2 HNX g1
              go_wp2
              go_roundw
              case rel => exact ⟨k + 1, _, hlt, by go_num, by rw [HN.out], HL2, hb.alloc hb.size _⟩
              case measure => simp [intOf]; omega
            · have HN := HNX (s.extract k (k + 1)) (by
                rw [spB_self hc2 hc1]
                apply ls_inj
                rw [ls_extract, ls_bs, drop_ls_cons s k hlt]
                simp)
              have hs1 : ¬ (9223372036854775807 < X.size + (s.extract k (k + 1)).size) := by
                rw [← ls_length (s.extract k (k + 1)), ls_extract, List.length_take, List.length_drop]; omega
              have hkk : (kk = 0 ∧ ((kk : Int) == 1) = false) ∨ (((kk : Int) == 1) = true ∧ (s[k].toNat < 97 ∨ 97 ≤ s[k].toNat ∧ 122 < s[k].toNat)) := by
                by_cases h0 : kk = 0
                · exact .inl ⟨h0, by rw [beq_eq_false_iff_ne]; omega⟩
                · right
                  refine ⟨by rw [show kk = 1 by omega]; rfl, ?_⟩
                  by_cases h97 : s[k].toNat < 97
                  · exact .inl h97
                  · exact .inr ⟨by omega, by have : ¬ s[k].toNat ≤ 122 := fun h => hc1 ⟨by omega, by omega, h⟩; omega⟩
              clear hc1 HNX
              rcases hkk with ⟨_, t1⟩ | ⟨t1, h97 | ⟨h97, h122⟩⟩
              · go_wp2
                go_roundw
                case rel => exact ⟨k + 1, _, hlt, by go_num, by rw [HN.out], HL2, hb⟩
                case measure => simp [intOf]; omega
              · have d1 : decide ((97 : Int) ≤ (s[k].toNat : Int)) = false := decide_eq_false (by omega)
                go_wp2
                go_roundw
                case rel => exact ⟨k + 1, _, hlt, by go_num, by rw [HN.out], HL2, hb⟩
                case measure => simp [intOf]; omega
              · have d1 : decide ((97 : Int) ≤ (s[k].toNat : Int)) = true := decide_eq_true (by omega)
                have d2 : decide ((s[k].toNat : Int) ≤ 122) = false := decide_eq_false (by omega)
                go_wp2
                go_roundw
                case rel => exact ⟨k + 1, _, hlt, by go_num, by rw [HN.out], HL2, hb⟩
                case measure => simp [intOf]; omega
        · obtain rfl : k = s.size := by omega
          have hLs : l.map (·.1) = ls s := by have := HL.out; rwa [take_ls_all] at this
          obtain ⟨p1, p2⟩ := spell_parse HV.out (by rw [ls_length]; exact hs) l hLs
          have hfl := flatS_len l
          have hll : l.length = s.size := by have := congrArg List.length hLs; rwa [List.length_map, ls_length] at this
          obtain ⟨X, hX⟩ : ∃ X, X = bs (flatS l) := ⟨_, rfl⟩
          have hXz : X.size ≤ 600 := by rw [hX, bs_size]; omega
          have hs1 : ¬ (9223372036854775807 < X.size + (⟨#[46]⟩ : ByteArray).size) := by rw [show (⟨#[46]⟩ : ByteArray).size = 1 from rfl]; omega
          have c1 := fun W hW => hP X W (by omega) hW
          have c2 := fun W hW => hP (X ++ ⟨#[46]⟩) W (by rw [ByteArray.size_append, show (⟨#[46]⟩ : ByteArray).size = 1 from rfl]; omega) hW
          have e1 : parseH (ls X) = (0, hvD (ls s)) := by rw [hX, ls_bs]; exact p1
          have e2 : parseH (ls (X ++ ⟨#[46]⟩)) = (0, hvD (ls s)) := by rw [ls_append, hX, ls_bs]; exact p2
          rw [e1] at c1
          rw [e2] at c2
          rw [← hX]
          unfold HostPost at c1 c2
          have heq := same_host (h := hvD (ls s)) ⟨by show (0 : Nat) < _; decide, z8_wf.1, z8_wf.2⟩
          obtain ⟨C, hC1⟩ : ∃ C, C = (hvD (ls s)).cells := ⟨_, rfl⟩
          have hC2 : C = hc 1 s 0 z8 := by rw [hC1]; show hc 1 (bs (ls s)) 0 z8 = _; rw [bs_ls]
          have HC : C.size = 11 ∧ C.all (·.oneCell') = true := by rw [hC1]; exact ⟨rfl, hc_one _ _ _ _⟩
          rw [← hC1] at heq
          simp only [← hC1, show ((0 : Nat) : Int) = 0 from rfl] at c1 c2
          have HC2 := Lib.hid hC2
          have c1' := c1 _ (hw_below HW.out hb)
          clear hC1 hC2 e1 e2 p1 p2 hX hfl hll hLs hlt hk HL c1
          go_wp2_with fail
          refine c1'.mono ?_
          rintro e w1 ⟨rfl, hb1⟩
          replace hb1 := hb.trans (hb1.mono hb.size)
          clear hb c1'
          go_wp2_with (refine wpList_store_host rfl rfl _ _ rfl w1.heap.size (by exact rfl) C (by exact rfl) hz (row_new w1 hz _) rfl HC.1 HC.2 ?_; intro w2 hr1 hg2; have hb2 := below_row (hb1.alloc hb1.size (.cells hz 27)) hg2 (Nat.le_refl _) hb1.size; clear hg2 hb1)
          refine (c2 _ (hw_below HW.out hb2)).mono ?_
          rintro e w3 ⟨rfl, hb3⟩
          replace hr1 : RowH w3 w1.heap.size C := Row.below hr1 hb3 hr1.lt
          replace hb3 := hb2.trans (hb3.mono hb2.size)
          clear hb2 c2
          go_upto_region 18 with (refine wpList_store_host rfl rfl _ _ rfl w3.heap.size (by exact rfl) C (by exact rfl) hz (row_new w3 hz _) rfl HC.1 HC.2 ?_; intro w5 hr2 hg5; replace hr1 : RowH w5 w1.heap.size C := Row.grown (Row.grown0 hr1 (World.grownBy_alloc w3 (.cells hz 27) none)) hg5 (Nat.ne_of_lt hr1.lt); have hb5 := below_row (hb3.alloc hb3.size (.cells hz 27)) hg5 (Nat.le_refl _) hb3.size; clear hg5 hb3)
          go_upto_region 19 with (refine wpList_store_host rfl rfl _ _ rfl w5.heap.size (by exact rfl) C (by rw [HC2.out]; exact rfl) hz (row_new w5 hz _) rfl HC.1 HC.2 ?_; intro w6 hr3 hg6; replace hr1 : RowH w6 w1.heap.size C := Row.grown (Row.grown0 hr1 (World.grownBy_alloc w5 (.cells hz 27) none)) hg6 (Nat.ne_of_lt hr1.lt); replace hr2 : RowH w6 w3.heap.size C := Row.grown (Row.grown0 hr2 (World.grownBy_alloc w5 (.cells hz 27) none)) hg6 (Nat.ne_of_lt hr2.lt); have hb6 := below_row (hb5.alloc hb5.size (.cells hz 27)) hg6 (Nat.le_refl _) hb5.size; clear hg6 hb5)
          go_wp2_with (first | (refine wpList_load_hostw (by rfl) _ rfl w1.heap.size (by exact rfl) C hr1 HC.1 ?_) | (refine wpList_load_hostw (by rfl) _ rfl w3.heap.size (by exact rfl) C hr2 HC.1 ?_) | (refine wpList_load_hostw (by rfl) _ rfl w5.heap.size (by exact rfl) C hr3 HC.1 ?_))
          refine (c9 _ (hw_below HW.out hb6)).mono ?_
          rintro e w7 ⟨rfl, hb7⟩
          go_wp2
          go_ret
          exact ⟨rfl, hb6.trans (hb7.mono hb6.size)⟩
    | false =>
      rw [hv] at cV
      clear hv
      go_enter Tryz.func5, Tryz.ntmps5
      go_wp2_with fail
      refine cV.mono ?_
      rintro e w1 ⟨rfl, hb1⟩
      go_wp2_with fail
      refine (c9 _ (hw_below HW.out hb1)).mono ?_
      rintro e w6 ⟨rfl, hb6⟩
      go_wp2
      go_ret
      exact ⟨rfl, hb1.trans (hb6.mono hb1.size)⟩
  · have hd : decide ((200 : Int) < (s.size : Int)) = true := decide_eq_true (by omega)
    have c9' := c9 _ hw
    clear hw c9 hs
    go_enter Tryz.func5, Tryz.ntmps5
    go_wp2_with fail
    refine c9'.mono ?_
    rintro e w6 ⟨rfl, hb6⟩
    go_wp2
    go_ret
    exact ⟨rfl, hb6⟩
end

section

end

section
open Go.RowKit

/-- The list of the rows: the same for all of them. -/
abbrev laid4 : List (String × DataW Unit) := Rows.hostParseMatchesSpecRow.laid
theorem acc_data : (Rows.laid_unicode_utf8_acceptRanges : DataW Unit) = Lib.acceptData := by kernel_rfl
theorem fst_data : (Rows.laid_unicode_utf8_first : DataW Unit) = Lib.firstData := Pinned.utf8First_eq
theorem pow_data : (Rows.laid_internal_strconv_uint64pow10 : DataW Unit) = Lib.tabData .u64 Lib.pow10Tab := by kernel_rfl
theorem deb_data : ∃ zs : List Int, (Rows.laid_math_bits_deBruijn64tab : DataW Unit) = Lib.tabData .u8 zs ∧ zs.length = 64 ∧ zs.getD 15 0 = 4 :=
  ⟨Lib.deBruijn64tab.map fun (x : Nat) => (x : Int), by kernel_rfl, rfl, rfl⟩
/-- The variable's name. -/
def tabD : String := (Rows.hostParseMatchesSpecRow.named.tail.tail).head (List.cons_ne_nil _ _)
theorem u8_extra : U8Extra Tryz.prog Tryz.lays197_ren := ⟨by kernel_rfl, by kernel_rfl, by kernel_rfl, by kernel_rfl, by kernel_rfl, by kernel_rfl, by kernel_rfl⟩
/-- The variable's name. -/
def tabE : String := (Rows.hostParseMatchesSpecRow.named.tail.tail.tail).head (List.cons_ne_nil _ _)
theorem err_data : ∃ l : List UInt8, (Rows.laid_strconv_ErrSyntax : DataW Unit) = .iface "*errors.errorString" (.ptr (.agg [.lit (.string l)])) := ⟨_, rfl⟩
theorem err_star : "*" ++ "errors.errorString" = "*errors.errorString" := by decide
theorem err_row (u : TypeId) (h : Tryz.prog.typeName? 3 u = some "*errors.errorString") : u = 191 :=
  typeName_ptr_named (nm := "errors.errorString") (by rw [err_star]; kernel_rfl) (by kernel_rfl) (by decide) u (by rw [err_star]; exact h)
set_option maxRecDepth 20000 in
theorem hw_of_laid {W : World} (h : laidMetH Tryz.prog laid4 W) : Hw W := by
  rw [MakeChecks.laidMetH_plain _ _ _ (by kernel_rfl)] at h
  refine ⟨⟨?_, ?_⟩, ?_, ?_⟩
  · obtain ⟨rest, h3⟩ : ∃ rest, laidMet Tryz.prog ((tabN, Lib.tabData .u64 Lib.pow10Tab) :: rest) W := by
      rw [← pow_data]
      exact ⟨_, h.tail.tail⟩
    exact Lib.tabIs_of_head (g := 5) (t := 188) (e := 76) (n := 20) (by kernel_rfl) (by kernel_rfl) (by kernel_rfl) (by kernel_rfl) (by kernel_rfl) (by kernel_rfl) h3
  · obtain ⟨zs, he, hl, hz⟩ := deb_data
    obtain ⟨rest, h3⟩ : ∃ rest, laidMet Tryz.prog ((tabD, Lib.tabData .u8 zs) :: rest) W := by
      rw [← he]
      exact ⟨_, h.tail⟩
    have := (Lib.tabIs_of_head (g := 7) (t := 197) (e := 5) (n := 64) (by kernel_rfl) (by kernel_rfl) (by kernel_rfl) (by kernel_rfl) (by kernel_rfl) (by kernel_rfl) h3).cell (g := 7) (by kernel_rfl) 15 (by omega)
    rwa [hz] at this
  · exact utf8Tabs_of_reads { Tryz.lays197 with } u8_extra (fst_data ▸ Lib.laidMet.reads h (.tail _ (.tail _ (.tail _ (.tail _ (.tail _ (.tail _ (.head _)))))))) (acc_data ▸ Lib.laidMet.reads h (.tail _ (.tail _ (.tail _ (.head _)))))
  · obtain ⟨l, hl⟩ := err_data
    obtain ⟨rest, h3⟩ : ∃ rest, laidMet Tryz.prog ((tabE, .iface "*errors.errorString" (.ptr (.agg [.lit (.string l)]))) :: rest) W := by
      rw [← hl]
      exact ⟨_, h.tail.tail.tail.tail.tail⟩
    obtain ⟨a, s, hv, _⟩ := laid_sentinel (g := 3) (ti := 101) (tp := 191) (te := 193) (ts := 9) h3 (by kernel_rfl) (by kernel_rfl) Tryz.underlying101 (fun u hu => err_row u hu) Tryz.underlying191 Tryz.underlying193 rfl rfl tyStr (by kernel_rfl) (by kernel_rfl)
    exact ⟨_, _, by simpa using World.var?_cell (g := 3) (by kernel_rfl) hv 0⟩
end

end Go.Proofs.YtpccpgihldpiiaaGreatDoor
