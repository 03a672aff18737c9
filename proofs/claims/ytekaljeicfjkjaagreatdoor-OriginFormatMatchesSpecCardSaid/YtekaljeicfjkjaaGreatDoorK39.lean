/-
The law of the texts of origins (written by tools/gen-OrX.py).
Contract of allDigits of package ipv4.
Contract of Numeric of package ipv4.
make([]byte, 0, n). No function of the program.
Contracts of Format and Parse of package ipv4; strconv.AppendUint.
A reader of IPv6 addresses from left to right: no program.
-/
import Derived.Test.YtekaljeicfjkjaaGreatDoorK38
import Derived.Test.YtekaljeicfjkjaaGreatDoorK22
import Derived.Test.YtekaljeicfjkjaaGreatDoorK07
import Derived.Laws.MakeOwn
import Derived.Test.YtekaljeicfjkjaaGreatDoorK09
import Derived.Test.YtekaljeicfjkjaaGreatDoorK03
namespace Go.Proofs.YtekaljeicfjkjaaGreatDoor
section
open Go.RowKit Go.Shelf
set_option maxHeartbeats 16000000
set_option maxRecDepth 20000 in
theorem walkOrFm (hPar : zfj 84) (hF : zf9 51) (hVal : zft 43) (hCov : zd4 44) (o : Ov) (w : World) (ho : o.OOk) (hw : Uw w) :
 Calls Tryz.prog 5 #[.agg o.cells] w (Yes w) := by
 obtain ⟨hwf, hp0, hp1⟩ := ho
 have cw := fun W hW => zvv hPar hF hVal hCov W hW
 unfold Yes at cw
 have HW := jL hw
 have hO := zww o
 cases hs : zsu 400 [bs o.scheme, bs o.host.name] with
 | false =>
   generalize o.cells = O at *
   generalize o.host.cells = H at *
   generalize bs o.scheme = S at *
   generalize bs o.host.name = N at *
   go_enter Tryz.func5, Tryz.ntmps5
   go_wp2_with (first
    | (refine zax _ rfl 1 rfl _ _ rfl _ O (by exact rfl) (by exact rfl) ?_
       intro W1 g1 hg1 hl1 hr1 hG1
       have hbw := zav (Below.refl w.heap.size w) hG1 jH
       obtain ⟨f0, f2, f12⟩ := hO.cell hr1
       have cs := zsx 400 (some ⟨W1.heap.size, 0, none⟩) 2 2 [S, N] (W1.heap.size + 1) (W1.alloc (.cells #[.string S, .string N] 9)) (Has.two W1 _ _ _) (by omega)
       replace hr1 : zwq (W1.alloc (.cells #[.string S, .string N] 9)) g1 O := Row.grown0 hr1 (World.grownBy_alloc W1 _ _)
       replace hbw := hbw.alloc hbw.size (.cells #[.string S, .string N] 9))
    | fail)
   rw [hs] at cs
   refine cs.mono ?_
   rintro e wd0 ⟨rfl, rfl⟩
   go_wp2_with (go_at_call 22; refine (cw _ (z52 HW.out hbw)).mono ?_; rintro e wA ⟨rfl, hb5⟩
                replace hbw := hbw.trans (hb5.mono hbw.size))
   go_ret
   exact ⟨rfl, hbw⟩
 | true =>
   have hz : (bs o.scheme).size <= 400 /\ (bs o.host.name).size <= 400 := by
    simp [zsu] at hs
    omega
   rw [zb5, zb5] at hz
   have hsm : OSm o := ⟨hwf, by omega, by omega, hp0, hp1⟩
   have c1 := fun W hW => zvi hPar hF o hsm W hW
   have c2 := fun W hW => zwj o hsm W hW
   clear hz hsm
   generalize bs (zvz o) = X at *
   have ex : (X.toList == X.toList) = true := by simp
   generalize o.cells = O at *
   generalize o.host.cells = H at *
   generalize bs o.scheme = S at *
   generalize bs o.host.name = N at *
   go_enter Tryz.func5, Tryz.ntmps5
   go_wp2_with (first
    | (refine zax _ rfl 1 rfl _ _ rfl _ O (by exact rfl) (by exact rfl) ?_
       intro W1 g1 hg1 hl1 hr1 hG1
       have hbw := zav (Below.refl w.heap.size w) hG1 jH
       obtain ⟨f0, f2, f12⟩ := hO.cell hr1
       have cs := zsx 400 (some ⟨W1.heap.size, 0, none⟩) 2 2 [S, N] (W1.heap.size + 1) (W1.alloc (.cells #[.string S, .string N] 9)) (Has.two W1 _ _ _) (by omega)
       replace hr1 : zwq (W1.alloc (.cells #[.string S, .string N] 9)) g1 O := Row.grown0 hr1 (World.grownBy_alloc W1 _ _)
       replace hbw := hbw.alloc hbw.size (.cells #[.string S, .string N] 9))
    | fail)
   rw [hs] at cs
   refine cs.mono ?_
   rintro e wd0 ⟨rfl, hbs⟩
   rw [hbs] at hr1 hbw
   clear hbs cs
   go_upto_region 3 with fail
   clear f0 f2 f12
   replace hr1 : zwq wd0.drew g1 O := hr1
   replace hbw := hbw.drew
   refine wp_region_held_drew (S := fun W => zwq W g1 O) (by kernel_rfl) hr1 (fun _ => ?_)
   generalize wd0.drew = wd at *
   refine wpAnyH_take (i := 0) (v := .agg O) rfl (by kernel_rfl) (by kernel_rfl) (by kernel_rfl) (fun _ _ _ h => h) (zwz _ rfl (by rfl) g1 (by exact rfl) O (fun W hW => hW) hO.sz) hr1 ?_
   try simp only [Act.put, List.getElem_toArray, List.getElem_cons_zero, jqd, jqe, jqf]
   refine wpAnyH_take (i := 2) (v := .agg O) rfl (by kernel_rfl) (by kernel_rfl) (by kernel_rfl) (fun _ _ _ h => h) (zwz _ rfl (by rfl) g1 (by exact rfl) O (fun W hW => hW) hO.sz) hr1 ?_
   try simp only [Act.put, List.getElem_toArray, List.getElem_cons_zero, List.getElem_cons_succ, jqd, jqe, jqf]
   refine wpAnyH_ready (rs := [1]) (by kernel_rfl) (by simp) (AllReadyH.cons rfl (fun K hK => ?_) AllReadyH.nil)
   go_simp
   go_wp2_with fail
   refine (c1 _ (z52 HW.out hbw)).mono ?_
   rintro e wA ⟨rfl, hbA⟩
   replace hr1 : zwq wA g1 O := Row.below hr1 hbA (Row.lt hr1)
   replace hbw := hbw.trans (hbA.mono hbw.size)
   clear hbA
   refine hK.out _ _ hr1 (fun _ => ?_)
   clear hK K
   try simp only [Act.put, List.getElem_toArray, List.getElem_cons_zero, List.getElem_cons_succ, jqd, jqe, jqf]
   refine wpAnyH_ready (rs := [3]) (by kernel_rfl) (by simp) (AllReadyH.cons rfl (fun K hK => ?_) AllReadyH.nil)
   go_simp
   go_wp2_with fail
   refine (c2 _ (z52 HW.out hbw)).mono ?_
   rintro e wA ⟨rfl, hbA⟩
   replace hr1 : zwq wA g1 O := Row.below hr1 hbA (Row.lt hr1)
   replace hbw := hbw.trans (hbA.mono hbw.size)
   clear hbA
   refine hK.out _ _ hr1 (fun _ => ?_)
   clear hK K
   try simp only [Act.put, List.getElem_toArray, List.getElem_cons_zero, List.getElem_cons_succ, jqd, jqe, jqf]
   refine wpAnyH_take (i := 4) (v := .bool true) rfl (by kernel_rfl) (by kernel_rfl) (by kernel_rfl) (fun _ _ _ h => h) (Or.inl ⟨by rfl, fun W hW => by go_simp; try (with_reducible rfl)⟩) hr1 ?_
   try simp only [Act.put, List.getElem_toArray, List.getElem_cons_zero, List.getElem_cons_succ, jqd, jqe, jqf]
   refine wpAnyH_take (i := 5) (v := .bool true) rfl (by kernel_rfl) (by kernel_rfl) (by kernel_rfl) (fun _ _ _ h => h) (Or.inl ⟨by rfl, fun W hW => by go_simp; try (with_reducible rfl)⟩) hr1 ?_
   try simp only [Act.put, List.getElem_toArray, List.getElem_cons_zero, List.getElem_cons_succ, jqd, jqe, jqf]
   refine wpAnyH_ready (rs := [6]) (by kernel_rfl) (by simp) (AllReadyH.cons rfl (fun K hK => ?_) AllReadyH.nil)
   go_simp
   go_wp2_with fail
   refine (cw _ (z52 HW.out hbw)).mono ?_
   rintro e wA ⟨rfl, hbA⟩
   replace hr1 : zwq wA g1 O := Row.below hr1 hbA (Row.lt hr1)
   replace hbw := hbw.trans (hbA.mono hbw.size)
   clear hbA
   refine hK.out _ _ hr1 (fun _ => ?_)
   clear hK K
   try simp only [Act.put, List.getElem_toArray, List.getElem_cons_zero, List.getElem_cons_succ, jqd, jqe, jqf]
   refine wpAnyH_take (i := 7) (v := .bool true) rfl (by kernel_rfl) (by kernel_rfl) (by kernel_rfl) (fun _ _ _ h => h) (Or.inl ⟨by rfl, fun W hW => by go_simp; try (with_reducible rfl)⟩) hr1 ?_
   try simp only [Act.put, List.getElem_toArray, List.getElem_cons_zero, List.getElem_cons_succ, jqd, jqe, jqf]
   refine wpAnyH_ready (rs := [8]) (by kernel_rfl) (by simp) (AllReadyH.cons rfl (fun K hK => ?_) AllReadyH.nil)
   go_simp
   refine hK.out _ _ hr1 (fun _ => ?_)
   clear hK K
   try simp only [Act.put, List.getElem_toArray, List.getElem_cons_zero, List.getElem_cons_succ, jqd, jqe, jqf]
   refine wpAnyH_done (by kernel_rfl) ?_ _
   go_wp2
   go_ret
   exact ⟨rfl, hbw⟩
end

section
open Go.RowKit
set_option maxHeartbeats 16000000
theorem zrv (s : ByteArray) (hs : s.size <= 1000000000) (b : Nat) (hb : b <= 16) (w : World) :
 Calls Tryz.prog 148 #[.string s, .int .u64 b] w fun e w' => e = .returned (.bool ((ls s).all (fun c => decide (zqe c < b)))) /\ w = w' := by
 go_enter Tryz.func148, Tryz.ntmps148
 go_wp2
 go_loop [8] (fun i => ∃ k : Nat, k <= s.size /\ i = .int .i64 k /\ Hid ((ls s).all (fun c => decide (zqe c < b)) = ((ls s).drop k).all (fun c => decide (zqe c < b)))) (fun i => s.size - (intOf i).toNat)
 case atStart => exact ⟨0, Nat.zero_le _, rfl, jL rfl⟩
 case round =>
  obtain ⟨k, hk, rfl, HA⟩ := hrel
  by_cases hlt : k < s.size
  ·have hd := zre s[k]
   have HD : Hid (((ls s).drop k).all (fun c => decide (zqe c < b)) = (decide (zqe s[k] < b) && ((ls s).drop (k + 1)).all (fun c => decide (zqe c < b)))) := by
    show _ = _
    rw [zcc s k hlt, List.all_cons]
   by_cases hg : zqe s[k] < b
   ·have hge : decide ((b : Int) <= ((pd s[k] : Nat) : Int)) = false := jF (by have := (zr3 s[k] b hb).2 hg; omega)
    have HN : Hid ((ls s).all (fun c => decide (zqe c < b)) = ((ls s).drop (k + 1)).all (fun c => decide (zqe c < b))) := by
     show _ = _
     rw [HA.out, HD.out, jT hg, Bool.true_and]
    clear hg
    generalize ((pd s[k] : Nat) : Int) = d at *
    go_wp2_with (go_at_call 177; refine (hd _).mono ?_; rintro e w' ⟨rfl, rfl⟩)
    go_round
    case rel => exact ⟨k + 1, by omega, by go_num, HN⟩
    case measure => simp [intOf]; omega
   ·have hge : decide ((b : Int) <= ((pd s[k] : Nat) : Int)) = true := jT (by have := mt (zr3 s[k] b hb).1 hg; omega)
    have HN : Hid ((ls s).all (fun c => decide (zqe c < b)) = false) := by
     show _ = _
     rw [HA.out, HD.out, jF hg, Bool.false_and]
    clear hg
    generalize ((pd s[k] : Nat) : Int) = d at *
    go_wp2_with (go_at_call 177; refine (hd _).mono ?_; rintro e w' ⟨rfl, rfl⟩)
    go_ret
    exact ⟨zbx HN.out.symm, rfl⟩
  ·obtain rfl : k = s.size := by omega
   have HN : Hid ((ls s).all (fun c => decide (zqe c < b)) = true) := by
    show _ = _
    rw [HA.out, zcd]
    rfl
   go_wp2
   go_ret
   exact ⟨zbx HN.out.symm, rfl⟩
end

section
open Go.RowKit
set_option maxHeartbeats 16000000
theorem zrw (s : ByteArray) (hs : s.size <= 1000000000) (w : World) :
 Calls Tryz.prog 111 #[.string s] w fun e w' => e = .returned (.bool (zqk (ls s))) /\ w = w' := by
 have c1 := zrg s hs w
 obtain ⟨T, hT⟩ : ∃ T, T = bs (zrx (ls s)) := ⟨_, rfl⟩
 rw [<- hT] at c1
 have hTs : T.size <= 1000000000 := by rw [hT, zb5]; have := zrl (ls s); rw [zb4] at this; omega
 obtain ⟨i, hi, hib, hlast⟩ := zsl T
 have c2 := fun W => Any.strings_LastIndexByte Tryz.lays149 T 46 (by omega) W
 obtain ⟨x, hx⟩ : ∃ x, x = Lib.lastIndexByte T 46 := ⟨_, rfl⟩
 rw [<- hx] at c2 hi
 obtain ⟨X, hX⟩ : ∃ X, X = T.extract i T.size := ⟨_, rfl⟩
 have hL : ls X = (ls T).drop i := by
  rw [hX, zb9]
  exact List.take_of_length_le (by rw [List.length_drop, zb4]; omega)
 have hXs : X.size <= 1000000000 := by rw [hX, ByteArray.size_extract]; omega
 have hV : zqk (ls s) = if zr7 (ls X) = true then ((ls X).drop 2).all (fun c => decide (zqe c < 16)) else (!(ls X).isEmpty && (ls X).all (fun c => decide (zqe c < 10))) := by
  rw [zso, <- zsn, hL, <- hlast, hT, zb0]
 have c3 := zrf X
 have hx0 : -1 <= x := by omega
 have hx1 : x <= 1000000000 := by omega
 have hxi : x = (i : Int) - 1 := by omega
 subst hxi
 have hii : (i : Int) - 1 + 1 = (i : Int) := by omega
 have HX := jL hX
 clear hT hlast hL hx hi hX
 by_cases hh : zr7 (ls X) = true
 ·rw [if_pos hh] at hV
  rw [hh] at c3
  obtain ⟨b, r, e, _⟩ := (zr8 _).1 hh
  have h2 : 2 <= X.size := by rw [<- zb4, e]; simp
  have c4 := zrv (X.extract 2 X.size) (by rw [ByteArray.size_extract]; omega) 16 (by omega)
  have e2 : ls (X.extract 2 X.size) = (ls X).drop 2 := by
   rw [zb9]
   exact List.take_of_length_le (by rw [List.length_drop, zb4]; exact jH)
  rw [e2] at c4
  have HV := jL hV
  generalize ((ls X).drop 2).all (fun c => decide (zqe c < 16)) = q at *
  clear hV hh e e2
  go_enter Tryz.func111, Tryz.ntmps111
  go_wp2_with fail
  refine c1.mono ?_
  rintro e w' ⟨rfl, rfl⟩
  go_wp2_with fail
  refine (c2 _).mono ?_
  rintro e w' ⟨rfl, rfl⟩
  go_wp2_with fail
  rw [<- HX.out]
  refine (c3 _).mono ?_
  rintro e w' ⟨rfl, rfl⟩
  go_wp2_with fail
  refine (c4 _).mono ?_
  rintro e w' ⟨rfl, rfl⟩
  go_wp2
  go_ret
  exact ⟨zbx HV.out.symm, rfl⟩
 ·rw [if_neg hh] at hV
  rw [Bool.not_eq_true] at hh
  rw [hh] at c3
  have hemp : (ls X).isEmpty = decide (X.size = 0) := z2m X
  by_cases h0 : X.size = 0
  ·have hE : X.toList = ([] : List UInt8) := by rw [zb3]; exact List.eq_nil_of_length_eq_zero (by rw [zb4]; exact h0)
   have HV : Hid (zqk (ls s) = false) := by show _ = _; rw [hV, hemp, jT h0]; rfl
   clear hV hh hemp
   go_enter Tryz.func111, Tryz.ntmps111
   go_wp2_with fail
   refine c1.mono ?_
   rintro e w' ⟨rfl, rfl⟩
   go_wp2_with fail
   refine (c2 _).mono ?_
   rintro e w' ⟨rfl, rfl⟩
   go_wp2_with fail
   rw [<- HX.out]
   refine (c3 _).mono ?_
   rintro e w' ⟨rfl, rfl⟩
   go_wp2
   go_ret
   exact ⟨zbx HV.out.symm, rfl⟩
  ·have hE : ¬ X.toList = ([] : List UInt8) := by rw [zb3]; exact zrn X (Nat.pos_of_ne_zero h0)
   have hE2 : X.toList.isEmpty = false := by rw [zb3, hemp, jF h0]
   have c4 := zrv X hXs 10 (by omega)
   have HV : Hid (zqk (ls s) = (ls X).all (fun c => decide (zqe c < 10))) := by show _ = _; rw [hV, hemp, jF h0]; rfl
   generalize (ls X).all (fun c => decide (zqe c < 10)) = q at *
   clear hV hh hemp
   go_enter Tryz.func111, Tryz.ntmps111
   go_wp2_with fail
   refine c1.mono ?_
   rintro e w' ⟨rfl, rfl⟩
   go_wp2_with fail
   refine (c2 _).mono ?_
   rintro e w' ⟨rfl, rfl⟩
   go_wp2_with fail
   rw [<- HX.out]
   refine (c3 _).mono ?_
   rintro e w' ⟨rfl, rfl⟩
   go_wp2_with fail
   refine (c4 _).mono ?_
   rintro e w' ⟨rfl, rfl⟩
   go_wp2
   go_ret
   exact ⟨zbx HV.out.symm, rfl⟩
end

section
open Go.RowKit
set_option maxHeartbeats 16000000
theorem zu5 (w : World) {ops : Array Oper} {rest : List Oper} {o : Oper} {a : Act} {Q : Exit -> Act -> World -> Prop}
 (hg : o.guard = none) (l c : Operand) (hop : o.op = Op.makeSlice 72 l c) (n : Int) (hl : a.eval l = .int .i64 0) (hc : a.eval c = .int .i64 n) (h0 : 0 <= n) (hn : n <= 4000000000)
 (h : ∀ v' w', w'.ownsRow w.heap.size 5 1 v' 0 [] -> Below w.heap.size w w' -> wpList Tryz.prog ops Q rest (a.put o.dst v') w') : wpList Tryz.prog ops Q (o :: rest) a w := by
 refine wpList_plain hg fun K hK' => ?_
 obtain ⟨i, hi, hz0, hz1, hz2⟩ := info_parts z34
 have hrun := run_make (P := Tryz.prog) w 72 5 i (.int .u8 0) z31 hi hz0 .i64 .i64 0 n (by omega) (by omega) (by rw [hz2]; omega) (by omega)
 rw [hz1, Nat.mul_one] at hrun
 have hm : madeCells (Value.int .u8 0).cells n.toNat = zcg n.toNat := zch _
 rw [hm] at hrun
 have := h (.slice (some ⟨w.heap.size, 0, none⟩) 0 n.toNat) (w.alloc (.cells (zcg n.toNat) 5))
  ⟨rfl, .inr ⟨w.heap.size, n.toNat, zcg n.toNat, rfl, jH, by show (w.heap.push _)[w.heap.size]? = _; simp, Nat.zero_le _, by unfold maxLen; omega, by simp [zcg], by simp⟩⟩
  ((Below.refl _ _).alloc jH _)
 unfold Oper.wp
 simp [execOp, hop, hl, hc, hrun, Result.andThen]
 exact hK' _ _ this
end

section
open Go.RowKit
set_option maxHeartbeats 16000000
theorem zrs (B n u : Nat) (hu : u < 18446744073709551616) (sv : Value) (l : List UInt8) (w : World) (hp : Pow w) (hown : w.ownsRow B 5 1 sv n (l.map bv)) (hB : B <= w.heap.size) (hn : n <= 1000000000) :
 Calls Tryz.prog 98 #[sv, .int .u64 u, .int .i64 10] w fun e w' => ∃ v', e = .returned v' /\ w'.ownsRow B 5 1 v' (n + (Lib.decDigits u).length) ((l ++ Lib.decDigits u).map bv) /\ Below B w w' := by
 have c1 := Any.internal_strconv_AppendUint_10 Tryz.laysM288 B n u hu sv (l.map bv) w hown hB (by omega) hp
 have HM : Hid (∀ m : List UInt8, l.map bv ++ Lib.byteCells m = (l ++ m).map bv) := by
  show ∀ m : List UInt8, _ = _
  intro m
  rw [List.map_append]
  rfl
 clear hown hp
 go_enter Tryz.func98, Tryz.ntmps98
 go_wp2_with fail
 refine c1.mono ?_
 rintro e w' ⟨v', rfl, h1, h2, _⟩
 rw [HM.out] at h1
 go_wp2
 go_ret
 exact ⟨_, rfl, h1, h2⟩
set_option maxRecDepth 20000 in
theorem zrt (v : Int) (hv0 : 0 <= v) (hv1 : v < 4294967296) (w : World) (hp : Pow w) :
 Calls Tryz.prog 72 #[.int .u32 v] w fun e w' => e = .returned (.string (bs (zqp v.toNat))) /\ Below w.heap.size w w' := by
 obtain ⟨i5, hi5, hz0, hz1, hz2⟩ := info_parts z34
 have hF : zsq v.toNat 4 = zqp v.toNat := zsr _ (by omega)
 have HF := jL hF
 clear hF
 go_enter Tryz.func72, Tryz.ntmps72
 go_wp2_with (refine zu5 _ rfl _ _ rfl 15 rfl rfl (by decide) (by decide) ?_; intro v0 w0 hown0 hb0)
 go_loopg [3, 7] 4 (fun g t i wr => ∃ k : Nat, k <= 4 /\ g = 4 - k /\ i = .int .i64 k /\ wr.ownsRow w.heap.size 5 1 t (zsq v.toNat k).length ((zsq v.toNat k).map bv) /\ Below w.heap.size w wr)
 case atStart => exact ⟨0, by omega, rfl, rfl, hown0, hb0⟩
 case round =>
  obtain ⟨k, hk, hg, rfl, hown, hb⟩ := hrel
  have HG := jL hg
  clear hg
  have hlen := zst v.toNat k
  by_cases hk4 : k < 4
  ·obtain ⟨K, hK⟩ : ∃ K, K = 8 * (3 - k) := ⟨_, rfl⟩
   have hKK : (8 : Int) * (3 - (k : Int)) = (K : Int) := by omega
   have hK32 : K <= 32 := by omega
   obtain ⟨r, hr⟩ : ∃ r : Nat, r = v.toNat / 2 ^ K := ⟨_, rfl⟩
   have hrv : v / 2 ^ K = (r : Int) := by
    rw [hr, Int.natCast_ediv, Int.natCast_pow, show ((v.toNat : Nat) : Int) = v by omega]
    rfl
   have HR := jL hrv
   have hrb : r < 4294967296 := by
    rw [hr]
    exact Nat.lt_of_le_of_lt (Nat.div_le_self _ _) (by omega)
   obtain ⟨u, hu⟩ : ∃ u, u = r % 256 := ⟨_, rfl⟩
   have hand : bits .and .u64 (r : Int) 255 = (u : Int) := by
    have := u64_and_nat r 255 (by omega) (by omega)
    rw [show ((255 : Nat) : Int) = 255 from rfl] at this
    rw [this, hu, show 255 = 2 ^ 8 - 1 from rfl, Nat.and_two_pow_sub_one_eq_mod]
   have hwr : IntKind.u64.wrap (r : Int) = (r : Int) := by rw [IntKind.wrap_u64]; omega
   have hdec : Lib.decDigits (v.toNat / 256 ^ (3 - k) % 256) = Lib.decDigits u := by
    rw [hu, hr, hK, Nat.pow_mul]
   have hub : u < 256 := by omega
   have hdl := zss u hub
   by_cases h0 : k = 0
   ·have HN : Hid (zsq v.toNat (k + 1) = zsq v.toNat k ++ Lib.decDigits u) := by
     show _ = _
     rw [zsq, hdec, if_pos h0]
     rfl
    have hd : decide ((0 : Int) < (k : Int)) = false := jF (by omega)
    have hdN : decide (0 < k) = false := jF (by omega)
    have HU := jL (show u < 18446744073709551616 by omega)
    clear hK hr hrv hu hdec h0
    go_wp2_with (refine za2 _ rfl _ _ _ _ rfl (by kernel_rfl) _ K hK32 (by exact rfl) (by exact rfl) _ HR.out ?_)
    refine (zrs w.heap.size _ u HU.out _ _ _ (zw4 hp hb) hown hb.size (by omega)).mono ?_
    rintro e w1 ⟨v1, rfl, hown1, hb1⟩
    replace hb1 := hb.trans hb1
    have hl : (zsq v.toNat (k + 1)).length = (zsq v.toNat k).length + (Lib.decDigits u).length := by rw [HN.out, List.length_append]
    rw [<- HN.out, <- hl] at hown1
    go_wp2
    go_roundg (4 - (k + 1))
    case rel => exact ⟨k + 1, by omega, rfl, by go_num, hown1, hb1⟩
    case measure => rw [HG.out]; omega
   ·have HN : Hid (zsq v.toNat (k + 1) = (zsq v.toNat k ++ [46]) ++ Lib.decDigits u) := by
     show _ = _
     rw [zsq, hdec, if_neg h0, List.append_assoc]
    have hd : decide ((0 : Int) < (k : Int)) = true := jT (by omega)
    have hdN : decide (0 < k) = true := jT (by omega)
    have HU := jL (show u < 18446744073709551616 by omega)
    clear hK hr hrv hu hdec h0
    go_wp2_with (at_builtin; refine zcq wr rfl _ _ 72 rfl w.heap.size 5 i5 (.int .u8 0) 1 z31 hi5 hz0 hz1 hz2 rfl _ (by exact rfl) _ _ _ (by exact rfl) hown (by exact rfl) (by unfold maxLen; omega) (by omega) hb jH ?_; intro v2 w2 hown2 hb2 hgr)
    rw [show (zsq v.toNat k).map bv ++ [Value.int .u8 46] = (zsq v.toNat k ++ [46]).map bv by rw [List.map_append]; rfl] at hown2
    go_wp2_with fail
    rw [HR.out, hwr, hand]
    refine (zrs w.heap.size _ u HU.out _ _ _ (zw4 hp hb2) hown2 hb2.size (by omega)).mono ?_
    rintro e w1 ⟨v1, rfl, hown1, hb1⟩
    replace hb1 := hb2.trans hb1
    have hl : (zsq v.toNat (k + 1)).length = (zsq v.toNat k).length + 1 + (Lib.decDigits u).length := by rw [HN.out, List.length_append, List.length_append]; rfl
    rw [<- HN.out, <- hl] at hown1
    go_wp2
    go_roundg (4 - (k + 1))
    case rel => exact ⟨k + 1, by omega, rfl, by go_num, hown1, hb1⟩
    case measure => rw [HG.out]; omega
  ·obtain rfl : k = 4 := by omega
   have hconv := z36 wr _ _ _ _ hown
   rw [HF.out] at hconv
   go_wp2
   go_ret
   exact ⟨rfl, hb⟩
theorem zru (s : ByteArray) (w : World) (hs : s.size <= 1000000000) (hp : Pow w) :
 Calls Tryz.prog 175 #[.string s] w fun e w' => e = .returned (.tuple #[.int .u32 (aV (zqo (ls s))), .bool (aK (zqo (ls s)))]) /\ Below w.heap.size w w' := by
 have c1 := zrr s hs w
 cases hq : pnL (ls s) with
 | none =>
   have HE : Hid (zqo (ls s) = none) := by show _ = _; rw [zsp, hq]
   rw [hq, show aV (none : Option Nat) = 0 from rfl, show aK (none : Option Nat) = false from rfl] at c1
   clear hq
   go_enter Tryz.func175, Tryz.ntmps175
   go_wp2_with fail
   refine c1.mono ?_
   rintro e w' ⟨rfl, rfl⟩
   go_wp2
   go_ret2
   rw [HE.out]
   exact ⟨rfl, Below.refl _ _⟩
 | some v =>
   have hv := zsh hq
   have c2 := zrt (v : Int) (by omega) (by omega) w hp
   rw [show ((v : Int)).toNat = v from rfl] at c2
   rw [hq, show aV (some v) = (v : Int) from rfl, show aK (some v) = true from rfl] at c1
   by_cases hf : zqp v = ls s
   ·have HE : Hid (zqo (ls s) = some v) := by show _ = _; rw [zsp, hq]; exact if_pos hf
    rw [hf, zb1] at c2
    clear hq hf
    go_enter Tryz.func175, Tryz.ntmps175
    go_wp2_with fail
    refine c1.mono ?_
    rintro e w' ⟨rfl, hw⟩
    subst hw
    go_wp2_with fail
    refine c2.mono ?_
    rintro e w2 ⟨rfl, hb⟩
    go_wp2
    go_ret2
    rw [HE.out]
    exact ⟨rfl, hb⟩
   ·have HE : Hid (zqo (ls s) = none) := by show _ = _; rw [zsp, hq]; exact if_neg hf
    obtain ⟨X, hX⟩ : ∃ X, X = bs (zqp v) := ⟨_, rfl⟩
    have hne : ¬ X.toList = s.toList := by
     rw [zb3, zb3, hX, zb0]
     exact hf
    have hn2 : (X.toList == s.toList) = false := beq_eq_false_iff_ne.2 hne
    have hn3 : (!X.toList == s.toList) = true := by rw [hn2]; rfl
    rw [<- hX] at c2
    clear hq hf hX
    go_enter Tryz.func175, Tryz.ntmps175
    go_wp2_with fail
    refine c1.mono ?_
    rintro e w' ⟨rfl, hw⟩
    subst hw
    go_wp2_with fail
    refine c2.mono ?_
    rintro e w2 ⟨rfl, hb⟩
    go_wp2
    go_ret2
    rw [HE.out]
    exact ⟨rfl, hb⟩
end

section
open Go.RowKit
set_option maxHeartbeats 16000000
def zmr : Nat -> List UInt8 -> Nat
 | 0, _ => 0
 | _ + 1, [] => 0
 | n + 1, c :: r => if zqe c < 16 then zmr n r + 1 else 0
theorem zms : ∀ (n : Nat) (l : List UInt8), zmr n l <= n /\ zmr n l <= l.length
 | 0, _ => by simp [zmr]
 | _ + 1, [] => by simp [zmr]
 | n + 1, c :: r => by
   have ih := zms n r
   unfold zmr
   split
   ·simp only [List.length_cons]; omega
   ·simp
theorem zmt : ∀ (n : Nat) (l : List UInt8) (k : Nat), k < zmr n l -> zqe (l.getD k 0) < 16
 | 0, _, k, h => by simp [zmr] at h
 | _ + 1, [], k, h => by simp [zmr] at h
 | n + 1, c :: r, k, h => by
   unfold zmr at h
   split at h
   ·rename_i hc
    cases k with
    | zero => exact hc
    | succ k => rw [List.getD_cons_succ]; exact zmt n r k (by omega)
   ·omega
theorem zmu : ∀ (n : Nat) (l : List UInt8), zmr n l = n \/ zmr n l = l.length \/ ¬ zqe (l.getD (zmr n l) 0) < 16
 | 0, _ => .inl rfl
 | _ + 1, [] => .inr (.inl rfl)
 | n + 1, c :: r => by
   have ih := zmu n r
   unfold zmr
   split
   ·rcases ih with h | h | h
    ·left; omega
    ·right; left; simp only [List.length_cons]; omega
    ·right; right; rw [List.getD_cons_succ]; exact h
   ·rename_i hc
    right; right; exact hc
theorem zmv (n : Nat) (l : List UInt8) : (l.take (zmr n l)).all (fun c => decide (zqe c < 16)) = true := by
 rw [List.all_eq_true]
 intro c hc
 obtain ⟨k, hk, rfl⟩ := List.getElem_of_mem hc
 have h1 : k < zmr n l := by simp at hk; omega
 have h2 := zmt n l k h1
 have h3 : k < l.length := by simp at hk; omega
 rw [List.getD_eq_getElem?_getD, List.getElem?_eq_getElem h3, Option.getD_some] at h2
 rw [List.getElem_take]
 exact jT h2
theorem zmw : ¬ zqe 58 < 16 := by decide
theorem zmx : ¬ zqe 46 < 16 := by decide
theorem zmy (x : List UInt8) (h : x.all (fun c => decide (zqe c < 16)) = true) : noB 58 x := by
 intro c hc e
 subst e
 have := List.all_eq_true.1 h _ hc
 exact zmw (of_decide_eq_true this)
theorem zmz : ∀ (n : Nat) (x r : List UInt8), x.all (fun c => decide (zqe c < 16)) = true -> x.length <= n -> (r = [] \/ ∃ c t, r = c :: t /\ ¬ zqe c < 16) -> zmr n (x ++ r) = x.length
 | n, [], r, _, _, hr => by
   rcases hr with rfl | ⟨c, t, rfl, hc⟩
   ·cases n <;> rfl
   ·cases n with
    | zero => rfl
    | succ n => rw [List.nil_append, zmr, if_neg hc]; rfl
 | 0, c :: x, r, _, h, _ => by simp at h
 | n + 1, c :: x, r, ha, h, hr => by
   rw [List.all_cons, Bool.and_eq_true] at ha
   rw [List.cons_append, zmr, if_pos (of_decide_eq_true ha.1), zmz n x r ha.2 (by simp at h; omega) hr]
   rfl
theorem zm0 : ∀ l : List UInt8, ∃ P, noB 58 P /\ (l = P \/ ∃ R, l = P ++ 58 :: R)
 | [] => ⟨[], fun b hb => (by simp at hb), .inl rfl⟩
 | c :: l => by
   by_cases hc : c = 58
   ·exact ⟨[], fun b hb => (by simp at hb), .inr ⟨l, by rw [hc]; rfl⟩⟩
   ·obtain ⟨P, hP, h⟩ := zm0 l
    refine ⟨c :: P, fun b hb => ?_, ?_⟩
    ·rcases List.mem_cons.1 hb with rfl | hb
     ·exact hc
     ·exact hP b hb
    ·rcases h with rfl | ⟨R, rfl⟩
     ·exact .inl rfl
     ·exact .inr ⟨R, rfl⟩
theorem zm1 : ∀ (a m : List UInt8) (i : Nat), noB 58 a -> m.head? ≠ some 58 -> zns (a ++ 58 :: m) i = zns m (i + a.length + 1)
 | [], [], i, _, _ => rfl
 | [], c :: m, i, _, h => by
   have hc : c ≠ 58 := by simpa using h
   rw [List.nil_append, zns, if_neg (fun e => hc e.2)]
   rfl
 | [x], m, i, ha, h => by
   have hx : x ≠ 58 := ha x (by simp)
   rw [List.cons_append, List.nil_append, zns, if_neg (fun e => hx e.1)]
   have := zm1 [] m (i + 1) (by intro b hb; simp at hb) h
   simpa using this
 | x :: y :: a, m, i, ha, h => by
   have hx : x ≠ 58 := ha x (by simp)
   rw [List.cons_append, List.cons_append, zns, if_neg (fun e => hx e.1)]
   have := zm1 (y :: a) m (i + 1) (fun b hb => ha b (by simp at hb ⊢; exact .inr hb)) h
   rw [List.cons_append] at this
   rw [this]
   congr 1
   simp only [List.length_cons]; omega
theorem zm2 (P R : List UInt8) (h : noB 58 P) (j : Nat) (hj : zns (P ++ 58 :: R) 0 = some j) : P.length <= j := by
 by_cases hR : R.head? = some 58
 ·cases R with
  | nil => cases hR
  | cons c R =>
    have hc : c = 58 := by simpa using hR
    subst hc
    have := zn6 P R 0 (zn8 P 0 h) (fun e => h 58 (List.mem_of_getLast? e) rfl)
    rw [this] at hj
    injection hj with hj
    omega
 ·rw [zm1 P R 0 h hR, zn5] at hj
  cases hq : zns R 0 with
  | none => rw [hq] at hj; cases hj
  | some q => rw [hq] at hj; injection hj with hj; simp only at hj; omega
theorem zm3 : ∀ (p : List (List UInt8)) (last : Bool) (g : List Nat), p ≠ [] -> znq p last = some g -> 1 <= g.length
 | [], _, _, h, _ => absurd rfl h
 | [x], last, g, _, h => by
   unfold znq at h
   split at h
   ·injection h with h; subst h; simp
   ·split at h
    ·injection h with h; subst h; simp
    ·cases h
 | x :: y :: r, last, g, _, h => by
   unfold znq at h
   split at h
   ·cases h
   ·split at h
    ·cases h
    ·injection h with h; subst h; simp
theorem zm4 (P : List UInt8) (rest : List (List UInt8)) (last : Bool) (h : znp P = none) (hp : last = true -> rest = [] -> zqo P = none) : znq (P :: rest) last = none := by
 cases rest with
 | nil =>
   unfold znq
   cases last with
   | false => rw [h]; rfl
   | true => rw [hp rfl rfl, h]; rfl
 | cons y r => unfold znq; rw [h]
theorem zm5 (x : List UInt8) (rest : List (List UInt8)) (last : Bool) (v : Nat) (h : znp x = some v) (hr : rest ≠ []) : znq (x :: rest) last = (znq rest last).map (v :: ·) := by
 cases rest with
 | nil => exact absurd rfl hr
 | cons y r =>
   rw [znq, h]
   cases znq (y :: r) last <;> rfl
def zm6 (G : List Nat) : Option Nat -> Option (List Nat)
 | none => if G.length = 8 then some G else none
 | some m => if G.length <= 7 then some (G.take m ++ (znt (8 - G.length) ++ G.drop m)) else none
def spB (l : List UInt8) (G : List Nat) (m : Nat) : Option (List Nat) := match (if l = [] /\ G.length = m then some [] else znq (z3b 58 l) true) with
 | some h => zm6 (G ++ h) (some m)
 | none => none
def spA (l : List UInt8) (G : List Nat) : Option (List Nat) := match zns l 0 with
 | none => (match znq (z3b 58 l) true with
   | some g => zm6 (G ++ g) none
   | none => none)
 | some k => (match znq (z3b 58 (l.take k)) false with
   | some g => spB (l.drop (k + 2)) (G ++ g) (G ++ g).length
   | none => none)
def sp6 (l : List UInt8) (G : List Nat) : Option Nat -> Option (List Nat)
 | none => spA l G
 | some m => spB l G m
theorem zm7 (l : List UInt8) (G : List Nat) (m : Nat) : sp6 l G (some m) = spB l G m := rfl
theorem zm8 (l : List UInt8) (G : List Nat) : sp6 l G none = spA l G := rfl
theorem zm9 (G : List Nat) (m : Nat) : zm6 G (some m) = if G.length <= 7 then some (G.take m ++ (znt (8 - G.length) ++ G.drop m)) else none := rfl
theorem zna (G : List Nat) : zm6 G none = if G.length = 8 then some G else none := rfl
theorem znb (G : List Nat) (gap : Option Nat) (h : 9 <= G.length) : zm6 G gap = none := by
 cases gap with
 | none => rw [zna, if_neg (by omega)]
 | some m => rw [zm9, if_neg (by omega)]
theorem znc (l : List UInt8) : z3b 58 l ≠ [] := z3c 58 l []
theorem znd (l : List UInt8) : znu l = if l.take 2 = [58, 58] then sp6 (l.drop 2) [] (some 0) else sp6 l [] none := by
 split
 ·rename_i h
  obtain ⟨r, rfl⟩ : ∃ r, l = 58 :: 58 :: r := by
   match l, h with
   | a :: b :: r, h => simp at h; exact ⟨r, by rw [h.1, h.2]⟩
  have hd : zns (58 :: 58 :: r) 0 = some 0 := by rw [zns, if_pos ⟨rfl, rfl⟩]
  unfold znu sp6 spB
  rw [hd]
  simp only [List.take_zero, List.drop_succ_cons, List.drop_zero, List.nil_append, List.length_nil]
  rw [show znr [] false = some [] from rfl]
  simp only [znr]
  by_cases hr : r = []
  ·subst hr; simp [zm6]
  ·rw [if_neg hr, if_neg (fun e => hr e.1)]
   cases znq (z3b 58 r) true with
   | none => rfl
   | some g => simp [zm6]
 ·rename_i h
  unfold znu sp6 spA
  cases hd : zns l 0 with
  | none =>
    simp only [znr]
    by_cases hl : l = []
    ·subst hl
     rfl
    ·rw [if_neg hl]
     cases znq (z3b 58 l) true with
     | none => rfl
     | some g => simp [zm6]
  | some k =>
    have hk : l.take k ≠ [] := by
     intro e
     match l, hd, h with
     | a :: b :: r, hd, h =>
       rw [zns] at hd
       split at hd
       ·rename_i hab; rw [hab.1, hab.2] at h; exact h rfl
       ·rw [zn5] at hd
        cases hq : zns (b :: r) 0 with
        | none => rw [hq] at hd; cases hd
        | some q =>
          rw [hq] at hd
          injection hd with hd
          simp only at hd
          rw [<- hd] at e
          simp at e
    simp only [znr]
    rw [if_neg hk]
    cases hg : znq (z3b 58 (l.take k)) false with
    | none => rfl
    | some g =>
      simp only [List.nil_append]
      unfold spB
      by_cases hr : l.drop (k + 2) = []
      ·rw [if_pos hr, if_pos ⟨hr, rfl⟩]
       simp only [zm6, List.append_nil, List.length_nil, Nat.add_zero, Nat.sub_zero, List.take_length, List.drop_length]
      ·rw [if_neg hr, if_neg (fun e => hr e.1)]
       cases znq (z3b 58 (l.drop (k + 2))) true with
       | none => rfl
       | some h =>
         simp only [zm6, List.length_append, List.take_left', List.drop_left', Nat.sub_sub]
theorem zne (l : List UInt8) (G : List Nat) (gap : Option Nat) (hl : ¬ (l = [] /\ gap = some G.length)) (hp : zqo l = none) (hh : ∀ P, noB 58 P -> (l = P \/ ∃ R, l = P ++ 58 :: R) -> znp P = none) : sp6 l G gap = none := by
 obtain ⟨P, hP, hc⟩ := zm0 l
 have hx := hh P hP hc
 have hg : znq (z3b 58 l) true = none := by
  rcases hc with rfl | ⟨R, rfl⟩
  ·rw [z3j 58 _ hP]
   exact zm4 _ _ _ hx (fun _ _ => hp)
  ·rw [z3i 58 P R hP]
   exact zm4 _ _ _ hx (fun _ e => absurd e (znc R))
 cases gap with
 | some m =>
   rw [zm7]; unfold spB
   rw [if_neg (fun e => hl ⟨e.1, by rw [e.2]⟩), hg]
 | none =>
   rw [zm8]; unfold spA
   cases hd : zns l 0 with
   | none => simp only [hg]
   | some j =>
     have hg2 : znq (z3b 58 (l.take j)) false = none := by
      rcases hc with rfl | ⟨R, rfl⟩
      ·rw [zn8 _ 0 hP] at hd; cases hd
      ·have hj := zm2 P R hP j hd
       by_cases he : j = P.length
       ·rw [he, List.take_left', z3j 58 _ hP]
        ·exact zm4 _ _ _ hx (fun e => by cases e)
        ·rfl
       ·obtain ⟨q, rfl⟩ : ∃ q, j = P.length + (q + 1) := ⟨j - P.length - 1, by omega⟩
        rw [List.take_length_add_append, List.take_succ_cons, z3i 58 P _ hP]
        exact zm4 _ _ _ hx (fun e => by cases e)
     simp only [hg2]
theorem znf (l : List UInt8) (G : List Nat) (gap : Option Nat) (hl : ¬ (l = [] /\ gap = some G.length)) (h8 : 8 <= G.length) : sp6 l G gap = none := by
 have hb : ∀ (t : List UInt8) (H : List Nat) (m : Nat), 8 <= H.length -> ¬ (t = [] /\ H.length = m) -> spB t H m = none := by
  intro t H m hH ht
  unfold spB
  rw [if_neg ht]
  cases hg : znq (z3b 58 t) true with
  | none => rfl
  | some g =>
    have := zm3 _ _ _ (znc t) hg
    exact znb _ _ (by simp; omega)
 cases gap with
 | some m => exact hb l G m h8 (fun e => hl ⟨e.1, by rw [e.2]⟩)
 | none =>
   rw [zm8]; unfold spA
   cases hd : zns l 0 with
   | none =>
     cases hg : znq (z3b 58 l) true with
     | none => simp only []
     | some g =>
       have := zm3 _ _ _ (znc l) hg
       simp only []
       exact znb _ _ (by simp; omega)
   | some k =>
     cases hg : znq (z3b 58 (l.take k)) false with
     | none => simp only [hg]
     | some g =>
       have h1 := zm3 _ _ _ (znc (l.take k)) hg
       simp only [hg]
       unfold spB
       by_cases hr : l.drop (k + 2) = []
       ·rw [if_pos ⟨hr, rfl⟩]
        exact znb _ _ (by simp; omega)
       ·rw [if_neg (fun e => hr e.1)]
        cases znq (z3b 58 (l.drop (k + 2))) true with
        | none => rfl
        | some q => exact znb _ _ (by simp; omega)
section
variable {l : List UInt8} {G : List Nat} {gap : Option Nat} {k : Nat}
theorem zng (h : zmr 4 l = k) (h0 : 0 < k) : znp (l.take k) = some (zqf 16 0 (l.take k)) := by
 have h1 := zms 4 l
 have h2 := zmv 4 l
 rw [h] at h1 h2
 unfold znp
 rw [if_pos ⟨by rw [List.length_take]; omega, h2⟩]
theorem znh (h : zmr 4 l = k) : noB 58 (l.take k) := by
 have h2 := zmv 4 l
 rw [h] at h2
 exact zmy _ h2
theorem zni {u : Nat} (h : zqo l = some u) : 0 < zmr 4 l /\ ∃ r, l.drop (zmr 4 l) = 46 :: r := by
 obtain ⟨hu, rfl⟩ := zrd h
 have hd := zqy (u / 16777216)
 have hlen : (Lib.decDigits (u / 16777216)).length <= 3 := by
  have hlt : u / 16777216 < 256 := by omega
  generalize u / 16777216 = q at hlt
  revert q
  decide +kernel
 have hall : (Lib.decDigits (u / 16777216)).all (fun c => decide (zqe c < 16)) = true := by
  rw [List.all_eq_true] at hd ⊢
  intro c hc
  have := of_decide_eq_true (hd c hc)
  exact jT (by omega)
 have hpos : 0 < (Lib.decDigits (u / 16777216)).length := by
  have hlt : u / 16777216 < 256 := by omega
  generalize u / 16777216 = q at hlt
  revert q
  decide +kernel
 unfold zqp
 rw [z3l _ _ _ (by simp)]
 rw [zmz 4 _ _ hall (by omega) (.inr ⟨46, _, rfl, zmx⟩)]
 exact ⟨hpos, _, List.drop_left' rfl⟩
theorem znj (h : zmr 4 l = k) (hb : k = 0 \/ ∃ c r, l.drop k = c :: r /\ c ≠ 58) (P : List UInt8) (hP : noB 58 P) (hc : l = P \/ ∃ R, l = P ++ 58 :: R) : znp P = none := by
 by_cases hall : (1 <= P.length /\ P.length <= 4) /\ P.all (fun c => decide (zqe c < 16)) = true
 ·exfalso
  have hk : k = P.length := by
   rw [<- h]
   rcases hc with rfl | ⟨R, rfl⟩
   ·have := zmz 4 l [] hall.2 hall.1.2 (.inl rfl)
    rwa [List.append_nil] at this
   ·exact zmz 4 P _ hall.2 hall.1.2 (.inr ⟨58, R, rfl, zmw⟩)
  rcases hb with h0 | ⟨c, r, hd, hne⟩
  ·have := hall.1.1; omega
  ·rcases hc with rfl | ⟨R, rfl⟩
   ·rw [hk, List.drop_length] at hd; cases hd
   ·rw [hk, List.drop_left' rfl] at hd
    injection hd with hd
    exact hne hd.symm
 ·unfold znp
  rw [if_neg hall]
theorem znk (hl : ¬ (l = [] /\ gap = some G.length)) (h : zmr 4 l = k) (hb : k = 0 \/ ∃ c r, l.drop k = c :: r /\ c ≠ 58 /\ c ≠ 46) : sp6 l G gap = none := by
 refine zne l G gap hl ?_ (znj h ?_)
 ·cases hq : zqo l with
  | none => rfl
  | some u =>
    exfalso
    obtain ⟨h0, r, hr⟩ := zni hq
    rw [h] at h0 hr
    rcases hb with e | ⟨c, t, e, _, h2⟩
    ·omega
    ·rw [hr] at e; injection e with e; exact h2 e.symm
 ·rcases hb with e | ⟨c, t, e, h2, _⟩
  ·exact .inl e
  ·exact .inr ⟨c, t, e, h2⟩
theorem znl (h : zmr 4 l = k) (h0 : 0 < k) (hr : l.drop k = []) : sp6 l G gap = zm6 (G ++ [zqf 16 0 (l.take k)]) gap := by
 have hx := zng h h0
 have hn := znh h
 have hk : l.take k = l := by
  have := List.take_append_drop k l
  rw [hr, List.append_nil] at this
  exact this
 rw [hk] at hx hn ⊢
 have hl : l ≠ [] := by
  intro e; subst e; simp [zmr] at h; omega
 have hg : znq (z3b 58 l) true = some [zqf 16 0 l] := by
  rw [z3j 58 l hn, znq, if_pos rfl, zoj hx, hx]
 cases gap with
 | some m =>
   rw [zm7]; unfold spB
   rw [if_neg (fun e => hl e.1), hg]
 | none =>
   rw [zm8]; unfold spA
   rw [zn8 l 0 hn]
   simp only [hg]
theorem znm {r : List UInt8} (h : zmr 4 l = k) (hr : l.drop k = 46 :: r) : sp6 l G gap = match zqo l with
 | none => none
 | some u => zm6 (G ++ [u / 65536, u % 65536]) gap := by
 have hl : l ≠ [] := by intro e; subst e; simp at hr
 cases hq : zqo l with
 | none => exact zne l G gap (fun e => hl e.1) hq (znj h (.inr ⟨46, r, hr, by decide⟩))
 | some u =>
   have hn : noB 58 l := by
    obtain ⟨hu, rfl⟩ := zrd hq
    unfold zqp
    have hd : ∀ q, noB 58 (Lib.decDigits q) := fun q => zmy _ (by
     have := zqy q
     rw [List.all_eq_true] at this ⊢
     intro c hc
     have := of_decide_eq_true (this c hc)
     exact jT (by omega))
    intro b hb
    simp only [z3k, List.mem_append, List.mem_cons] at hb
    have h1 := hd (u / 16777216) b
    have h2 := hd (u / 65536 % 256) b
    have h3 := hd (u / 256 % 256) b
    have h4 := hd (u % 256) b
    rcases hb with hb | rfl | hb | rfl | hb | rfl | hb
    ·exact h1 hb
    ·decide
    ·exact h2 hb
    ·decide
    ·exact h3 hb
    ·decide
    ·exact h4 hb
   have hg : znq (z3b 58 l) true = some [u / 65536, u % 65536] := by
    rw [z3j 58 l hn, znq, if_pos rfl, hq]
   cases gap with
   | some m =>
     rw [zm7]; unfold spB
     rw [if_neg (fun e => hl e.1), hg]
   | none =>
     rw [zm8]; unfold spA
     rw [zn8 l 0 hn]
     simp only [hg]
theorem znn {r : List UInt8} (h : zmr 4 l = k) (h0 : 0 < k) (hr : l.drop k = 58 :: 58 :: r) : sp6 l G none = sp6 r (G ++ [zqf 16 0 (l.take k)]) (some (G.length + 1)) := by
 have hx := zng h h0
 have hn := znh h
 have hlen : (l.take k).length = k := by have := (zms 4 l).2; rw [h] at this; simp; omega
 have hd : zns l 0 = some k := by
  have := zn6 (l.take k) r 0 (zn8 _ 0 hn) (fun e => hn 58 (List.mem_of_getLast? e) rfl)
  rw [<- hr, List.take_append_drop, hlen, Nat.zero_add] at this
  exact this
 rw [zm8]; unfold spA
 rw [hd]
 simp only
 rw [z3j 58 _ hn, show znq [l.take k] false = some [zqf 16 0 (l.take k)] by rw [znq, if_neg (by decide), hx]]
 simp only
 rw [show l.drop (k + 2) = r by rw [<- List.drop_drop, hr]; rfl, zm7, List.length_append]
 rfl
theorem zno {r : List UInt8} (h : zmr 4 l = k) (h0 : 0 < k) (hr : l.drop k = 58 :: r) (hg : gap = none -> r.head? ≠ some 58) (hm : ∀ m, gap = some m -> m <= G.length) : sp6 l G gap = sp6 r (G ++ [zqf 16 0 (l.take k)]) gap := by
 have hx := zng h h0
 have hn := znh h
 have hlen : (l.take k).length = k := by have := (zms 4 l).2; rw [h] at this; simp; omega
 have hl : l ≠ [] := by intro e; subst e; simp at hr
 have hsp : l = l.take k ++ 58 :: r := by rw [<- hr, List.take_append_drop]
 have hs : z3b 58 l = l.take k :: z3b 58 r := by
  conv => lhs; rw [hsp]
  exact z3i 58 _ r hn
 have hgo : ∀ (t : List UInt8) (last : Bool), znq (l.take k :: z3b 58 t) last = (znq (z3b 58 t) last).map (zqf 16 0 (l.take k) :: ·) := fun t last => zm5 _ _ _ _ hx (znc t)
 generalize zqf 16 0 (l.take k) = v at hgo
 cases gap with
 | some m =>
   have hmG := hm m rfl
   rw [zm7, zm7]; unfold spB
   rw [if_neg (fun e => hl e.1), if_neg (fun e => by have := e.2; simp at this; omega), hs, hgo r true]
   cases znq (z3b 58 r) true with
   | none => rfl
   | some g => simp
 | none =>
   have hd : zns l 0 = (zns r 0).map (· + (k + 1)) := by
    conv => lhs; rw [hsp]
    rw [zm1 _ r 0 hn (hg rfl), hlen, Nat.zero_add, zn5]
   rw [zm8, zm8]; unfold spA
   rw [hd]
   cases hq : zns r 0 with
   | none =>
     simp only [Option.map_none]
     rw [hs, hgo r true]
     cases znq (z3b 58 r) true with
     | none => rfl
     | some g => simp
   | some j =>
     simp only [Option.map_some]
     have ht : l.take (j + (k + 1)) = l.take k ++ 58 :: r.take j := by
      conv => lhs; rw [hsp]
      rw [show j + (k + 1) = (l.take k).length + (j + 1) by omega, List.take_length_add_append, List.take_succ_cons]
     have hdr : l.drop (j + (k + 1) + 2) = r.drop (j + 2) := by
      conv => lhs; rw [hsp]
      rw [show j + (k + 1) + 2 = (l.take k).length + (j + 2 + 1) by omega, List.drop_length_add_append, List.drop_succ_cons]
     rw [ht, hdr, z3i 58 _ _ hn, hgo (r.take j) false]
     cases znq (z3b 58 (r.take j)) false with
     | none => rfl
     | some g => simp
end
end

end Go.Proofs.YtekaljeicfjkjaaGreatDoor
