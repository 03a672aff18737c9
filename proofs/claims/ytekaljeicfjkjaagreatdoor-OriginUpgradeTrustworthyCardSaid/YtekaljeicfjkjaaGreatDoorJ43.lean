/-
Contracts of package punycode's closure of thresholds, and of the functions that call it: thresholds, appendNumber, addNumber.
Contract of package punycode's addNumber.
Contracts of isASCII, cutBasic and smallestFrom of package punycode.
-/
import Derived.Test.YtekaljeicfjkjaaGreatDoorJ27
import Derived.Test.YtekaljeicfjkjaaGreatDoorJ42
import Derived.Test.YtekaljeicfjkjaaGreatDoorJ28
import Derived.OneCell
import Derived.Test.YtekaljeicfjkjaaGreatDoorShelf
import Derived.Lib.LastIndexByte
import Derived.BigQuiet
namespace Go.Proofs.YtekaljeicfjkjaaGreatDoor
section
open Go.RowKit
set_option maxHeartbeats 16000000
structure Clo (w : World) (B bk bb K bias : Nat) : Prop where
 lk : B <= bk
 ne : bk ≠ bb
 hk : w.heap[bk]? = some (.cells #[.int .i64 ((36 * K : Nat) : Int)] 3 (0, 0))
 hb : w.heap[bb]? = some (.cells #[.int .i64 (bias : Int)] 3 (0, 0))
theorem Clo.mono {w : World} {B B' bk bb K bias : Nat} (h : Clo w B bk bb K bias) (hB : B' <= B) : Clo w B' bk bb K bias := ⟨Nat.le_trans hB h.lk, h.ne, h.hk, h.hb⟩
theorem Clo.kept {w w' : World} {B bk bb K bias : Nat} {row : Option Nat} (h : Clo w B bk bb K bias) (hg : w.grownBy w' row) (h1 : some bk ≠ row) (h2 : some bb ≠ row) : Clo w' B bk bb K bias :=
 ⟨h.lk, h.ne, (hg.block bk (lt_of_block h.hk) h1).trans h.hk, (hg.block bb (lt_of_block h.hb) h2).trans h.hb⟩
theorem z0a {w : World} {base b n : Nat} {v u : Value} {xs : List Value} (h : w.ownsRow base 5 1 v n xs) (hb : w.heap[b]? = some (.cells #[u] 3 (0, 0))) : some b ≠ v.ownBlock := by
 rcases h.2 with ⟨rfl, _⟩ | ⟨g, cap, cur, rfl, _, hg, _⟩
 ·simp [Value.ownBlock]
 ·intro he
  simp [Value.ownBlock] at he
  subst he
  rw [hb] at hg
  simp at hg
theorem z0b (w : World) (b : Nat) (u : Value) : w.grownBy (w.setCell ⟨b, 0, none⟩ u) (some b) :=
 ⟨rfl, rfl, rfl, by simp [World.setCell], fun k _ hne => Below.heap_setCell _ _ _ _ (fun e => hne (by rw [e]))⟩
set_option maxRecDepth 20000 in
theorem z0c (bias : Nat) (_hb : bias <= 1000000) (w : World) :
 Calls Tryz.prog 205 #[.int .i64 (bias : Int)] w fun e w' => (∃ bk bb, e = .returned (.func (.func 219) #[] #[.pointer (some ⟨bk, 0, none⟩), .pointer (some ⟨bb, 0, none⟩)]) /\ Clo w' w.heap.size bk bb 0 bias) /\ Below w.heap.size w w' := by
 have hmf : ∀ (fn : Fn) (first cap : Array Value) (w : World), (Instr.makeFunc fn first cap).run Tryz.prog w = .ok (.func fn first cap) w := fun _ _ _ _ => rfl
 go_enter Tryz.func205, Tryz.ntmps205
 go_wp2
 go_ret
 refine ⟨⟨_, _, rfl, ⟨by omega, by omega, ?_, ?_⟩⟩, ((Below.refl _ _).alloc jH _).alloc (by simp) _⟩
 ·show ((w.heap.push _).push _)[w.heap.size + 1]? = _
  rw [Array.getElem?_push, if_pos (by simp)]
  rfl
 ·show ((w.heap.push _).push _)[w.heap.size]? = _
  rw [Array.getElem?_push, if_neg (by simp), Array.getElem?_push, if_pos rfl]
theorem z0d (K bias : Nat) (x : Int) (hx : max ((36 : Int) * K + 36 - bias) 1 = x) : min x 26 = ((thr K bias : Nat) : Int) := by rw [<- hx]; unfold thr; omega
set_option maxRecDepth 20000 in
theorem z0e (w : World) (B bk bb K bias : Nat) (hc : Clo w B bk bb K bias) (hK : K <= 100000000) (hbi : bias <= 1000000) :
 Calls Tryz.prog 219 #[.pointer (some ⟨bk, 0, none⟩), .pointer (some ⟨bb, 0, none⟩)] w fun e w' => e = .returned (.int .i64 (thr K bias : Nat)) /\ Clo w' B bk bb (K + 1) bias /\ w.grownBy w' (some bk) := by
 have c1 := cell_of_one hc.hk
 have c2 := cell_of_one hc.hb
 have f1 := free_of_one hc.hk
 obtain ⟨z, hz⟩ : ∃ z : Int, z = ((36 * K : Nat) : Int) := ⟨_, rfl⟩
 rw [<- hz] at c1
 have hne := hc.ne
 have c3 : (w.setCell ⟨bk, 0, none⟩ (.int .i64 (z + 36))).cell? ⟨bk, 0, none⟩ = some (.int .i64 (z + 36)) := cell_of_one (one_setCell hc.hk)
 have c4 : (w.setCell ⟨bk, 0, none⟩ (.int .i64 (z + 36))).cell? ⟨bb, 0, none⟩ = some (.int .i64 (bias : Int)) := by
  rw [World.cell?_of_block (w := w) (Below.heap_setCell _ _ _ _ (fun e => hne e.symm))]
  exact c2
 obtain ⟨x, hx⟩ : ∃ x, max (z + 36 - (bias : Int)) (1 : Int) = x := ⟨_, rfl⟩
 have hy : min x (26 : Int) = (thr K bias : Nat) := z0d K bias x (by rw [<- hx, hz]; omega)
 have hmax : ∀ (W : World) ts ty, (Builtin.max_ ts ty #[.int .i64 (z + 36 - (bias : Int)), .int .i64 1]).run Tryz.prog W = .ok (.int .i64 x) W := fun W ts ty => zt7 W ts ty _ _ _ hx
 have hmin : ∀ (W : World) ts ty, (Builtin.min_ ts ty #[.int .i64 x, .int .i64 26]).run Tryz.prog W = .ok (.int .i64 (thr K bias : Nat)) W := fun W ts ty => zt6 W ts ty _ _ _ hy
 have hz0 : 0 <= z := by omega
 have hz1 : z <= 3600000000 := by omega
 have HC : Hid (Clo (w.setCell ⟨bk, 0, none⟩ (.int .i64 (z + 36))) B bk bb (K + 1) bias) := by
  refine jL ⟨hc.lk, hne, ?_, (Below.heap_setCell _ _ _ _ (fun e => hne e.symm)).trans hc.hb⟩
  have := one_setCell (u := .int .i64 (z + 36)) hc.hk
  rw [show ((36 * (K + 1) : Nat) : Int) = z + 36 by omega]
  exact this
 clear hx hy hz hc
 go_enter Tryz.func219, Tryz.ntmps219
 go_wp2
 go_ret
 exact ⟨rfl, HC.out, z0b _ _ _⟩
set_option maxRecDepth 20000 in
theorem z0f (B : Nat) (w0 w : World) (v : Value) (X : List UInt8) (N : Nat) (hN : N = X.length) (e bias bk bb : Nat) (hown : w.ownsRow B 5 1 v N (X.map bv)) (hc : Clo w B bk bb 0 bias) (hb : Below B w0 w) (hB : B <= w0.heap.size) (he : e <= 17179869184) (hbi : bias <= 1000) (hX : N <= 4000) :
 Calls Tryz.prog 204 #[v, .int .i64 (e : Int), .func (.func 219) #[] #[.pointer (some ⟨bk, 0, none⟩), .pointer (some ⟨bb, 0, none⟩)]] w fun e' w' => (∃ v', e' = .returned v' /\ w'.ownsRow B 5 1 v' (N + (zy3 e 0 bias).length) ((X ++ (zy3 e 0 bias).map zza).map bv)) /\ Below B w0 w' := by
 obtain ⟨i5, hi5, hz0, hz1, hz2⟩ := info_parts z3f
 have hgl : (zy3 e 0 bias).length <= 12 := zy8 11 e 0 bias (Nat.lt_of_le_of_lt he (by decide))
 have HGL := jL hgl
 have HC0 := jL hc
 clear hgl hc
 go_enter Tryz.func204, Tryz.ntmps204
 go_wp2_with fail
 go_loopw [0, 1] (fun v q wr => ∃ (Q K : Nat) (L : List Nat), q = .int .i64 Q /\ Q <= 17179869184 /\ K <= 12 /\ Hid (K = L.length) /\ Hid (L ++ zy3 Q K bias = zy3 e 0 bias) /\
  wr.ownsRow B 5 1 v (N + K) ((X ++ L.map zza).map bv) /\ Hid (Clo wr B bk bb K bias) /\ Below B w0 wr) (fun _ q _ => (intOf q).toNat)
 case atStart => exact ⟨e, 0, [], rfl, he, by omega, jL rfl, jL rfl, by simpa using hown, HC0, hb⟩
 case round =>
  clear hown hb
  obtain ⟨Q, K, L, rfl, hQ, hK, HK, HLG, hown, HC, hb⟩ := hrel
  have ht := zy0 K bias
  have cT := fun h1 h2 => z0e wr B bk bb K bias HC.out h1 h2
  replace cT := cT (by omega) (by omega)
  have hlenG : L.length + (zy3 Q K bias).length <= 12 := by have := HGL.out; rw [<- HLG.out, List.length_append] at this; exact this
  have hno := z0a hown HC.out.hk
  have HNO := jL hno
  have HLK := jL HC.out.lk
  clear hno
  by_cases hqt : Q < thr K bias
  ·have hone := zy4 hqt
   have hge : decide ((Q : Int) < ((thr K bias : Nat) : Int)) = true := jT (by omega)
   have hgeN : decide (Q < thr K bias) = true := jT hqt
   have cD := zz5 Q (by omega)
   have HLE : Hid (X ++ (zy3 e 0 bias).map zza = (X ++ L.map zza) ++ [zza Q]) := by
    show _ = _
    rw [<- HLG.out, hone, List.map_append, List.append_assoc]
    rfl
   have HLL : Hid (N + (zy3 e 0 bias).length = N + K + 1) := by
    show _ = _
    rw [<- HLG.out, hone, List.length_append, HK.out]
    rfl
   generalize thr K bias = t at *
   clear hone hlenG
   go_wp2_with fail
   refine cT.mono ?_
   rintro e' w1 ⟨rfl, hc1, hg1⟩
   have hown1 := hown.kept hg1 (.inr (fun h => HNO.out h.symm))
   have hb1 := hb.grown hg1 (Nat.le_trans hB hb.size) (fun k hk => by injection hk with hk; rw [<- hk]; exact HLK.out)
   clear hg1 hown hb hc1
   go_wp2_with (first
    | (go_at_call 218; refine (cD _).mono ?_; rintro e w' ⟨rfl, rfl⟩)
    | (at_builtin; refine zcq w1 rfl _ _ 72 rfl B 5 i5 (.int .u8 0) 1 z3c hi5 hz0 hz1 hz2 rfl _ (by exact rfl) _ _ _ (by exact rfl) hown1 (by exact rfl) (by unfold maxLen; omega) (by omega) hb1 hB ?_; intro v' w' hown' hb' _))
   go_ret
   refine ⟨⟨_, rfl, ?_⟩, hb'⟩
   rw [HLE.out, HLL.out, List.map_append]
   exact hown'
  ·have hmore := zy5 hqt
   have hge : decide ((Q : Int) < ((thr K bias : Nat) : Int)) = false := jF (by omega)
   have hgeN : decide (Q < thr K bias) = false := jF hqt
   have hless := zy2 Q _ hqt ht.1
   obtain ⟨t, hte⟩ : ∃ t, t = thr K bias := ⟨_, rfl⟩
   rw [<- hte] at hmore hge hgeN hless ht hqt cT
   obtain ⟨rm, hrm⟩ : ∃ rm, rm = (Q - t) % (36 - t) := ⟨_, rfl⟩
   obtain ⟨Q2, hQ2⟩ : ∃ Q2, Q2 = (Q - t) / (36 - t) := ⟨_, rfl⟩
   have hrmb : rm < 36 - t := by rw [hrm]; exact Nat.mod_lt _ (by omega)
   have hmod : Int.tmod ((Q : Int) - (t : Int)) (36 - (t : Int)) = (rm : Int) := by
    rw [Int.tmod_eq_emod_of_nonneg (by omega), hrm, show ((Q : Int) - (t : Int)) = ((Q - t : Nat) : Int) by omega, show (36 - (t : Int)) = ((36 - t : Nat) : Int) by omega]
    exact (Int.natCast_emod _ _).symm
   have hdiv : Int.tdiv ((Q : Int) - (t : Int)) (36 - (t : Int)) = (Q2 : Int) := by
    rw [Int.tdiv_eq_ediv_of_nonneg (by omega), hQ2, show ((Q : Int) - (t : Int)) = ((Q - t : Nat) : Int) by omega, show (36 - (t : Int)) = ((36 - t : Nat) : Int) by omega]
    exact (Int.natCast_ediv _ _).symm
   have hne0 : ¬ (36 - (t : Int) = 0) := by omega
   rw [<- hrm, <- hQ2] at hmore
   rw [<- hQ2] at hless
   have cD := zz5 (t + rm) (by omega)
   rw [show ((t + rm : Nat) : Int) = (t : Int) + (rm : Int) by omega] at cD
   have HL2 : Hid ((L ++ [t + rm]) ++ zy3 Q2 (K + 1) bias = zy3 e 0 bias) := by
    show _ = _
    rw [<- HLG.out, hmore, List.append_assoc]
    rfl
   have hK12 : K + 1 <= 12 := by
    rw [hmore, List.length_cons] at hlenG
    have := HK.out
    omega
   have HXL : Hid ((X ++ (L ++ [t + rm]).map zza).map bv = (X ++ L.map zza).map bv ++ [bv (zza (t + rm))]) := by
    show _ = _
    simp
   clear hmore hrm hQ2 hlenG hte hqt
   go_wp2_with fail
   refine cT.mono ?_
   rintro e' w1 ⟨rfl, hc1, hg1⟩
   have hown1 := hown.kept hg1 (.inr (fun h => HNO.out h.symm))
   have hb1 := hb.grown hg1 (Nat.le_trans hB hb.size) (fun k hk => by injection hk with hk; rw [<- hk]; exact HLK.out)
   have HN1 := jL (z0a hown1 hc1.hk)
   have HN2 := jL (z0a hown1 hc1.hb)
   have HC1 := jL hc1
   clear hg1 hown hb hc1
   go_wp2_with (first
    | (go_at_call 218; refine (cD _).mono ?_; rintro e w' ⟨rfl, rfl⟩)
    | (at_builtin; refine zcq w1 rfl _ _ 72 rfl B 5 i5 (.int .u8 0) 1 z3c hi5 hz0 hz1 hz2 rfl _ (by exact rfl) _ _ _ (by exact rfl) hown1 (by exact rfl) (by unfold maxLen; omega) (by omega) hb1 hB ?_; intro v' w' hown' hb' hg'))
   go_roundw
   case rel =>
    refine ⟨Q2, K + 1, L ++ [t + rm], rfl, by omega, hK12, ?_, HL2, ?_, jL (HC1.out.kept hg' HN1.out HN2.out), hb'⟩
    ·show _ = _
     rw [List.length_append, <- HK.out]
     rfl
    ·rw [HXL.out]
     exact hown'
   case measure => simp [intOf]; omega
end

section
open Go.RowKit
set_option maxHeartbeats 16000000
def z0u : Except Nat (Nat × List UInt8) -> Nat
 | .error c => c
 | .ok _ => 0
def z0v : Except Nat (Nat × List UInt8) -> Nat
 | .error _ => 0
 | .ok (j, _) => j
def z0w (n : Nat) : Except Nat (Nat × List UInt8) -> Nat
 | .error _ => 0
 | .ok (_, r) => n - r.length
theorem z0x {x : Except Nat (Nat × List UInt8)} {c n : Nat} (h : x = .error c) : z0u x = c /\ z0v x = 0 /\ z0w n x = 0 := by subst h; exact ⟨rfl, rfl, rfl⟩
theorem z0y {x : Except Nat (Nat × List UInt8)} {j n : Nat} {r : List UInt8} (h : x = .ok (j, r)) : z0u x = 0 /\ z0v x = j /\ z0w n x = n - r.length := by subst h; exact ⟨rfl, rfl, rfl⟩
theorem z0z {a a' b b' c c' : Nat} (h1 : a = a') (h2 : b = b') (h3 : c = c') : Ending.returned (.tuple #[.int .i64 (a : Int), .int .i64 (b : Int), .int .i64 (c : Int)]) = .returned (.tuple #[.int .i64 (a' : Int), .int .i64 (b' : Int), .int .i64 (c' : Int)]) := by rw [h1, h2, h3]
set_option maxRecDepth 20000 in
theorem z00 (B : Nat) (w : World) (s : ByteArray) (I bias bk bb : Nat) (hc : Clo w B bk bb 0 bias) (hB : B <= w.heap.size) (hI : I <= 1000000) (hbi : bias <= 1000) (hs : s.size <= 1000000) :
 Calls Tryz.prog 224 #[.int .i64 (I : Int), .string s, .func (.func 219) #[] #[.pointer (some ⟨bk, 0, none⟩), .pointer (some ⟨bb, 0, none⟩)]] w fun e w' =>
  e = .returned (.tuple #[.int .i64 (z0v (zzn (ls s) bias 0 1 I) : Nat), .int .i64 (z0w s.size (zzn (ls s) bias 0 1 I) : Nat), .int .i64 (z0u (zzn (ls s) bias 0 1 I) : Nat)]) /\ Below B w w' := by
 obtain ⟨R, hR⟩ : ∃ R, R = zzn (ls s) bias 0 1 I := ⟨_, rfl⟩
 rw [<- hR]
 have HR := jL hR
 have HC0 := jL hc
 clear hR hc
 go_enter Tryz.func224, Tryz.ntmps224
 go_wp2_with fail
 go_loopw [0, 9, 15] (fun iv wv av wr => ∃ (a i' w' : Nat), iv = .int .i64 i' /\ wv = .int .i64 w' /\ av = .int .i64 a /\ a <= s.size /\ i' <= 1099511627776 /\ w' <= 1099511627776 /\ Hid (R = zzn ((ls s).drop a) bias a w' i') /\ Hid (Clo wr B bk bb a bias) /\ Below B w wr) (fun _ _ av _ => s.size - (intOf av).toNat)
 case atStart => exact ⟨0, I, 1, rfl, rfl, rfl, Nat.zero_le _, by omega, by omega, HR, HC0, Below.refl _ _⟩
 case round =>
  obtain ⟨a', i', w', rfl, rfl, rfl, ha', hi', hw', HRD, HC, hb⟩ := hrel
  by_cases hlt5 : a' < s.size
  ·have hged : decide ((a' : Int) < (s.size : Int)) = true := jT (by omega)
   have hgeN : decide (a' < s.size) = true := jT hlt5
   have hdr := zcc s a' hlt5
   have cV := zz8 s[a']
   cases hpv : zzb s[a'] with
   | none =>
     rw [zz7 hpv] at cV
     obtain ⟨e1, e2, e3⟩ := z0x (n := s.size) (show R = .error 4 by rw [HRD.out, hdr, zzn, hpv])
     have HE := jL e1
     have HE2 := jL e2
     have HE3 := jL e3
     clear hdr hpv e1 e2 e3
     go_wp2_with (go_at_call 230; refine (cV _).mono ?_; rintro e w' ⟨rfl, rfl⟩)
     go_ret3
     exact ⟨z0z HE2.out.symm HE3.out.symm HE.out.symm, hb⟩
   | some d =>
     rw [zz6 hpv] at cV
     have hd36 := zze hpv
     have hdn : ((d : Int) == 36) = false := by rw [beq_eq_false_iff_ne]; omega
     have hdnN : (d == 36) = false := by rw [beq_eq_false_iff_ne]; omega
     have hrd : R = if 1099511627776 < i' + d * w' then .error 19 else if d < thr a' bias then .ok (i' + d * w', (ls s).drop (a' + 1)) else if 1099511627776 < w' * (36 - thr a' bias) then .error 19 else zzn ((ls s).drop (a' + 1)) bias (a' + 1) (w' * (36 - thr a' bias)) (i' + d * w') := by rw [HRD.out, hdr, zzn, hpv]
     have hdw : (d : Int) * (w' : Int) = ((d * w' : Nat) : Int) := by simp
     have hdwb : d * w' <= 35 * 1099511627776 := Nat.mul_le_mul (by omega) hw'
     obtain ⟨i2, hi2⟩ : ∃ i2, i2 = i' + d * w' := ⟨_, rfl⟩
     rw [<- hi2] at hrd
     have hdw0 : 0 <= (d : Int) * (w' : Int) := by omega
     have hdw1 : (d : Int) * (w' : Int) <= 38482906972160 := by omega
     have hi2i : (i' : Int) + (d : Int) * (w' : Int) = (i2 : Int) := by omega
     have hi2b : i2 <= 39582418599936 := by omega
     have ht := zy0 a' bias
     have cT := z0e wr B bk bb a' bias HC.out (by omega) (by omega)
     have HRD2 := jL hrd
     have HLK := jL HC.out.lk
     clear hdr hpv hdw hdwb hi2 hrd
     by_cases hov : 1099511627776 < i2
     ·have hovd : decide ((1099511627776 : Int) < (i2 : Int)) = true := jT (by omega)
      have hovN : decide (1099511627776 < i2) = true := jT hov
      obtain ⟨e1, e2, e3⟩ := z0x (n := s.size) (show R = .error 19 by rw [HRD2.out, if_pos hov])
      have HE := jL e1
      have HE2 := jL e2
      have HE3 := jL e3
      clear e1 e2 e3
      go_wp2_with (go_at_call 230; refine (cV _).mono ?_; rintro e w' ⟨rfl, rfl⟩)
      go_ret3
      exact ⟨z0z HE2.out.symm HE3.out.symm HE.out.symm, hb⟩
     ·have hovd : decide ((1099511627776 : Int) < (i2 : Int)) = false := jF (by omega)
      have hovN : decide (1099511627776 < i2) = false := jF hov
      obtain ⟨t, hte⟩ : ∃ t, t = thr a' bias := ⟨_, rfl⟩
      rw [<- hte] at HRD2 ht cT
      clear hte
      by_cases hdt : d < t
      ·have hdtd : decide ((d : Int) < (t : Int)) = true := jT (by omega)
       have hdtN : decide (d < t) = true := jT hdt
       obtain ⟨e1, e2, e3⟩ := z0y (n := s.size) (show R = .ok (i2, (ls s).drop (a' + 1)) by rw [HRD2.out, if_neg hov, if_pos hdt])
       rw [List.length_drop, zb4, show s.size - (s.size - (a' + 1)) = a' + 1 by omega] at e3
       have HE := jL e1
       have HE2 := jL e2
       have HE3 := jL e3
       clear e1 e2 e3
       go_wp2_with (go_at_call 230; refine (cV _).mono ?_; rintro e w' ⟨rfl, rfl⟩)
       refine cT.mono ?_
       rintro e w1 ⟨rfl, hc1, hg1⟩
       have hb1 := hb.grown hg1 (Nat.le_trans hB hb.size) (fun k hk => by injection hk with hk; rw [<- hk]; exact HLK.out)
       clear hc1 hg1 hb
       go_wp2
       go_ret3
       exact ⟨z0z HE2.out.symm HE3.out.symm HE.out.symm, hb1⟩
      ·have hdtd : decide ((d : Int) < (t : Int)) = false := jF (by omega)
       have hdtN : decide (d < t) = false := jF hdt
       have hwt : (w' : Int) * (36 - (t : Int)) = ((w' * (36 - t) : Nat) : Int) := by rw [Int.natCast_mul, Int.natCast_sub (by omega)]; rfl
       have hwtb : w' * (36 - t) <= 1099511627776 * 35 := Nat.mul_le_mul hw' (by omega)
       obtain ⟨w2, hw2⟩ : ∃ w2, w2 = w' * (36 - t) := ⟨_, rfl⟩
       rw [<- hw2] at hwt hwtb
       have hwt0 : 0 <= (w' : Int) * (36 - (t : Int)) := by omega
       have hwt1 : (w' : Int) * (36 - (t : Int)) <= 38482906972160 := by omega
       have HRD3 : Hid (R = if 1099511627776 < w2 then .error 19 else zzn ((ls s).drop (a' + 1)) bias (a' + 1) w2 i2) := by
        show _ = _
        rw [HRD2.out, if_neg hov, if_neg hdt, <- hw2]
       clear hw2 HRD2
       by_cases hwo : 1099511627776 < w2
       ·have hwod : decide ((1099511627776 : Int) < (w2 : Int)) = true := jT (by omega)
        have hwoN : decide (1099511627776 < w2) = true := jT hwo
        obtain ⟨e1, e2, e3⟩ := z0x (n := s.size) (show R = .error 19 by rw [HRD3.out, if_pos hwo])
        have HE := jL e1
        have HE2 := jL e2
        have HE3 := jL e3
        clear e1 e2 e3
        go_wp2_with (go_at_call 230; refine (cV _).mono ?_; rintro e w' ⟨rfl, rfl⟩)
        refine cT.mono ?_
        rintro e w1 ⟨rfl, hc1, hg1⟩
        have hb1 := hb.grown hg1 (Nat.le_trans hB hb.size) (fun k hk => by injection hk with hk; rw [<- hk]; exact HLK.out)
        clear hc1 hg1 hb
        go_wp2
        go_ret3
        exact ⟨z0z HE2.out.symm HE3.out.symm HE.out.symm, hb1⟩
       ·have hwod : decide ((1099511627776 : Int) < (w2 : Int)) = false := jF (by omega)
        have hwoN : decide (1099511627776 < w2) = false := jF hwo
        have HRD4 : Hid (R = zzn ((ls s).drop (a' + 1)) bias (a' + 1) w2 i2) := by
         show _ = _
         rw [HRD3.out, if_neg hwo]
        go_wp2_with (go_at_call 230; refine (cV _).mono ?_; rintro e w' ⟨rfl, rfl⟩)
        refine cT.mono ?_
        rintro e w1 ⟨rfl, hc1, hg1⟩
        have hb1 := hb.grown hg1 (Nat.le_trans hB hb.size) (fun k hk => by injection hk with hk; rw [<- hk]; exact HLK.out)
        have HC1 := jL hc1
        clear hc1 hg1 hb
        go_wp2
        go_roundw
        case rel => exact ⟨a' + 1, i2, w2, by go_num, by go_num, by go_num, by omega, by omega, by omega, HRD4, HC1, hb1⟩
        case measure => simp [intOf]; omega
  ·obtain rfl : a' = s.size := by omega
   have hged : decide ((s.size : Int) < (s.size : Int)) = false := by simp
   obtain ⟨e1, e2, e3⟩ := z0x (n := s.size) (show R = .error 4 by rw [HRD.out, zcd, zzn])
   have HE := jL e1
   have HE2 := jL e2
   have HE3 := jL e3
   clear e1 e2 e3
   go_wp2
   go_ret3
   exact ⟨z0z HE2.out.symm HE3.out.symm HE.out.symm, hb⟩
end

section
open Go.RowKit
set_option maxHeartbeats 16000000
theorem z0g (s : ByteArray) (hs : s.size <= 1000000000) (w : World) :
 Calls Tryz.prog 222 #[.string s] w fun e w' => e = .returned (.bool (!(ls s).any (fun b => decide (128 <= b.toNat)))) /\ w = w' := by
 obtain ⟨R, hR⟩ : ∃ R, R = (ls s).any (fun b => decide (128 <= b.toNat)) := ⟨_, rfl⟩
 rw [<- hR]
 have HR := jL hR
 clear hR
 go_enter Tryz.func222, Tryz.ntmps222
 go_wp2
 go_loop [6] (fun i => ∃ k : Nat, k <= s.size /\ i = .int .i64 k /\ Hid (R = ((ls s).drop k).any (fun b => decide (128 <= b.toNat)))) (fun i => s.size - (intOf i).toNat)
 case atStart => exact ⟨0, Nat.zero_le _, rfl, HR⟩
 case round =>
  obtain ⟨k, hk, rfl, HK⟩ := hrel
  by_cases hlt : k < s.size
  ·have hdr := zcc s k hlt
   have hlt2 : decide ((k : Int) < (s.size : Int)) = true := jT (by omega)
   by_cases h128 : 128 <= s[k].toNat
   ·have hd : decide ((128 : Int) <= (s[k].toNat : Int)) = true := jT (by omega)
    have hdN : decide (128 <= s[k].toNat) = true := jT h128
    have HE : Hid ((!R) = false) := by
     show _ = _
     rw [HK.out, hdr, List.any_cons, hdN, Bool.true_or]
     rfl
    clear hdr
    go_wp2
    go_ret
    exact ⟨zbx HE.out.symm, rfl⟩
   ·have hd : decide ((128 : Int) <= (s[k].toNat : Int)) = false := jF (by omega)
    have hdN : decide (128 <= s[k].toNat) = false := jF h128
    have HK2 : Hid (R = ((ls s).drop (k + 1)).any (fun b => decide (128 <= b.toNat))) := by
     show _ = _
     rw [HK.out, hdr, List.any_cons, hdN, Bool.false_or]
    clear hdr
    go_wp2
    go_round
    case rel => exact ⟨k + 1, by omega, by go_num, HK2⟩
    case measure => simp [intOf]; omega
  ·obtain rfl : k = s.size := by omega
   have hlt2 : decide ((s.size : Int) < (s.size : Int)) = false := by simp
   have HE : Hid ((!R) = true) := by
    show _ = _
    rw [HK.out, zcd]
    rfl
   go_wp2
   go_ret
   exact ⟨zbx HE.out.symm, rfl⟩
theorem z0h (t : List UInt8) (i : Nat) (hi : i < t.length) (h : t[i] = 45) (hn : ∀ b ∈ t.drop (i + 1), b ≠ 45) : zxi t = i := by
 have e : t = t.take i ++ 45 :: t.drop (i + 1) := by
  rw [<- h, List.getElem_cons_drop, List.take_append_drop]
 unfold zxi
 rw [e, zxj, zxh, if_pos rfl, zxk _ _ _ hn, List.length_take, Nat.zero_add]
 omega
theorem z0i (s : ByteArray) : (Lib.lastIndexByte s 45 = -1 /\ zxi (ls s) = 0) \/ (Lib.lastIndexByte s 45 = (zxi (ls s) : Int) /\ zxi (ls s) < s.size) := by
 have hg : ∀ j (hj : j < s.size), ((s.data[j]!).toNat : Int) = 45 ↔ (ls s)[j]'(by rw [zb4]; exact hj) = 45 := by
  intro j hj
  have hj' : j < s.data.size := hj
  have e : s.data[j]! = (ls s)[j]'(by rw [zb4]; exact hj) := by
   rw [getElem!_pos s.data j hj']
   rfl
  rw [e]
  constructor
  ·intro h
   exact UInt8.toNat_inj.1 (by rw [show (45 : UInt8).toNat = 45 from rfl]; omega)
  ·intro h
   rw [h]
   rfl
 rcases Lib.lastIndexByte_spec s 45 with ⟨e, hn⟩ | ⟨i, hi, e, hc, hn⟩
 ·refine .inl ⟨e, ?_⟩
  unfold zxi
  refine zxk _ _ _ ?_
  intro c hc h46
  obtain ⟨j, hj, rfl⟩ := List.getElem_of_mem hc
  rw [zb4] at hj
  exact hn j hj ((hg j hj).2 h46)
 ·have hcut : zxi (ls s) = i := by
   refine z0h _ i (by rw [zb4]; exact hi) ((hg i hi).1 hc) ?_
   intro c hc h46
   obtain ⟨j, hj, rfl⟩ := List.getElem_of_mem hc
   rw [List.length_drop, zb4] at hj
   rw [List.getElem_drop] at h46
   exact hn (i + 1 + j) (by omega) (by omega) ((hg _ (by omega)).2 h46)
  exact .inr ⟨by rw [hcut]; exact e, by rw [hcut]; exact hi⟩
theorem z0j (s : ByteArray) (hs : s.size <= 1000000000) (w : World) :
 Calls Tryz.prog 223 #[.string s] w fun e w' => (∃ k : Nat, e = .returned (.tuple #[.string (bs ((ls s).take (zxi (ls s)))), .string (bs (zxn (ls s)))]) /\ w' = w.drewN k) := by
 have c1 := fun W => Any.strings_LastIndexByte Tryz.lays149 s 45 (by omega) W
 obtain ⟨x, hx⟩ : ∃ x, x = Lib.lastIndexByte s 45 := ⟨_, rfl⟩
 have hcut := z0i s
 rw [<- hx] at c1 hcut
 by_cases h0 : 0 < x
 ·rcases hcut with ⟨h1, _⟩ | ⟨h1, h2⟩
  ·omega
  ·obtain ⟨C, hC⟩ : ∃ C, C = zxi (ls s) := ⟨_, rfl⟩
   rw [<- hC] at h1 h2 ⊢
   subst h1
   have hr : zxn (ls s) = (ls s).drop (C + 1) := by unfold zxn; rw [<- hC, if_pos (by omega)]
   rw [hr]
   have e1 : Hid (bs ((ls s).take C) = s.extract 0 C) := by
    show _ = _
    refine zb2 ?_
    rw [zb0, zb9, List.drop_zero, Nat.sub_zero]
   have e2 : Hid (bs ((ls s).drop (C + 1)) = s.extract (C + 1) s.size) := by
    show _ = _
    refine zb2 ?_
    rw [zb0, zb9]
    exact (List.take_of_length_le (by rw [List.length_drop, zb4]; exact jH)).symm
   have hd : decide ((0 : Int) < (C : Int)) = true := jT (by omega)
   have hdN : decide (0 < C) = true := jT (by omega)
   have hi0 : (0 : Int) <= (C : Int) := by omega
   have hi1 : (C : Int) <= (s.size : Int) := by omega
   have hi2 : (C : Int) + 1 <= (s.size : Int) := by omega
   rw [e1.out, e2.out]
   clear hx hC hr
   go_enter Tryz.func223, Tryz.ntmps223
   go_wp2_with fail
   refine (c1 _).mono ?_
   rintro e w' ⟨rfl, rfl⟩
   go_wp2_with fail
   go_quiet (fail)
   go_wp2
   go_ret2
   exact ⟨_, rfl, rfl⟩
 ·have hC : zxi (ls s) = 0 := by
   rcases hcut with ⟨_, h2⟩ | ⟨h1, _⟩
   ·exact h2
   ·omega
  have hr : zxn (ls s) = ls s := by unfold zxn; rw [if_neg (by omega)]
  rw [hr, hC, List.take_zero, zb1]
  have hd : decide ((0 : Int) < x) = false := jF h0
  clear hx hC hr hcut
  go_enter Tryz.func223, Tryz.ntmps223
  go_wp2_with fail
  refine (c1 _).mono ?_
  rintro e w' ⟨rfl, rfl⟩
  go_wp2_with fail
  go_ret2
  exact ⟨0, rfl, rfl⟩
theorem z0k (n0 : Nat) (_hn : n0 <= 1114112) (P : List Nat) (hP : ∀ p ∈ P, ptN p = true) (hl : P.length <= 256) (A : Option Addr) (cap B : Nat) (w wr : World) (hA : Has w B A P.length (P.map iv)) (hb : Below w.heap.size w wr) (hB : B <= w.heap.size) :
 Calls Tryz.prog 203 #[.int .i64 (n0 : Int), .slice A P.length cap] wr fun e w' => e = .returned (.int .i64 (min 1114111 (zyc n0 P) : Nat)) /\ wr = w' := by
 obtain ⟨R, hR⟩ : ∃ R, R = min 1114111 (zyc n0 P) := ⟨_, rfl⟩
 rw [<- hR]
 have HR := jL hR
 have HP := jL hP
 have H := jL hA
 clear hR hP hA
 go_enter Tryz.func203, Tryz.ntmps203
 go_wp2
 go_loop [5, 10] (fun l i => ∃ (k v : Nat), k <= P.length /\ i = .int .i64 k /\ l = .int .i64 v /\ v <= 1114111 /\ Hid (min v (zyc n0 (P.drop k)) = R)) (fun _ i => P.length - (intOf i).toNat)
 case atStart => exact ⟨0, 1114111, Nat.zero_le _, rfl, rfl, jH, jL HR.out.symm⟩
 case round =>
  obtain ⟨k, v, hk, rfl, rfl, hv, HV⟩ := hrel
  by_cases hlt2 : k < P.length
  ·obtain ⟨b1, o1, rfl, l1, d1⟩ := H.out.2 (by omega)
   have g1 := zwx H.out hb hB k hlt2 hlt2
   have hple : P[k] <= 1114111 := zyz (HP.out _ (List.getElem_mem hlt2))
   have hdr : P.drop k = P[k] :: P.drop (k + 1) := List.drop_eq_getElem_cons hlt2
   obtain ⟨p, hp⟩ : ∃ p, p = P[k] := ⟨_, rfl⟩
   rw [<- hp] at g1 hple hdr
   have hkd : decide ((k : Int) < (P.length : Int)) = true := jT (by omega)
   clear d1 hp
   by_cases hge : n0 <= p
   ·have hgd : decide ((n0 : Int) <= (p : Int)) = true := jT (by omega)
    have hgN : decide (n0 <= p) = true := jT hge
    obtain ⟨v2, hv2⟩ : ∃ v2 : Nat, v2 = min v p := ⟨_, rfl⟩
    have hmi : min (v : Int) (p : Int) = (v2 : Int) := by rw [hv2]; omega
    have hmin : ∀ (W : World) ts ty, (Builtin.min_ ts ty #[.int .i64 (v : Int), .int .i64 (p : Int)]).run Tryz.prog W = .ok (.int .i64 (v2 : Int)) W := fun W ts ty => zt6 W ts ty _ _ _ hmi
    have HV2 : Hid (min v2 (zyc n0 (P.drop (k + 1))) = R) := by
     show _ = _
     have := HV.out
     rw [hdr, zyc, if_pos hge] at this
     rw [hv2, Nat.min_assoc]
     exact this
    have hv2b : v2 <= 1114111 := by rw [hv2]; exact Nat.le_trans (Nat.min_le_left _ _) hv
    clear hmi hv2 hdr hge
    go_wp2
    go_round
    case rel => exact ⟨k + 1, v2, by omega, by go_num, rfl, hv2b, HV2⟩
    case measure => simp [intOf]; omega
   ·have hgd : decide ((n0 : Int) <= (p : Int)) = false := jF (by omega)
    have hgN : decide (n0 <= p) = false := jF hge
    have HV2 : Hid (min v (zyc n0 (P.drop (k + 1))) = R) := by
     show _ = _
     have := HV.out
     rw [hdr, zyc, if_neg hge] at this
     exact this
    clear hdr
    go_wp2
    go_round
    case rel => exact ⟨k + 1, v, by omega, by go_num, rfl, hv, HV2⟩
    case measure => simp [intOf]; omega
  ·obtain rfl : k = P.length := by omega
   have hvm : Hid ((v : Int) = (R : Int)) := by
    show _ = _
    have := HV.out
    rw [List.drop_length, zyc, Nat.min_eq_left (by omega)] at this
    rw [this]
   have hkd : decide ((P.length : Int) < (P.length : Int)) = false := by simp
   go_wp2
   go_ret
   exact ⟨zby hvm.out, rfl⟩
end

end Go.Proofs.YtekaljeicfjkjaaGreatDoor
