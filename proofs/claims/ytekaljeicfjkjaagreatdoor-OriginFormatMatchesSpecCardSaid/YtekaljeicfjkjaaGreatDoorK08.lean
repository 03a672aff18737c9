/-
Contracts of decimal and Parse of the reference of layer 10.
Contract of groups of the reference of layer 11 (written by tools/gen-I62.py).
Arrays by value: box, alloc, load and store of a whole array, store of one element. No program.
Arrays of eight groups in memory: no function of the program.
Hosts in memory: the value of a host, its variable as one row; the program's constructors.
-/
import Derived.Test.YtekaljeicfjkjaaGreatDoorK07
import Derived.Test.YtekaljeicfjkjaaGreatDoorK02
import Derived.Lib.AppendStr
import Derived.Test.YtekaljeicfjkjaaGreatDoorK00
import Derived.Deep.WholeRow
import Derived.Laws.ResultCell
import Derived.Laws.Rows
import Derived.Test.YtekaljeicfjkjaaGreatDoorK04
namespace Go.Proofs.YtekaljeicfjkjaaGreatDoor
section
open Go.RowKit
set_option maxHeartbeats 16000000
def dV (l : List UInt8) : Int := ((zqm l).getD 0 : Nat)
def dK (l : List UInt8) : Bool := (zqm l).isSome
theorem zps {l : List UInt8} {k : Nat} (h : Lib.decDigits k = l) (hk : k < 256) : dV l = (k : Int) /\ dK l = true := by
 unfold dV dK
 rw [<- h, zq2 k hk]
 exact ⟨rfl, rfl⟩
theorem zpt {l : List UInt8} (h : ∀ k, k < 256 -> Lib.decDigits k ≠ l) : dV l = 0 /\ dK l = false := by
 have e : zqm l = none := by
  cases hx : zqm l with
  | none => rfl
  | some n =>
    have := zq3 hx
    exact absurd this.2.symm (h n this.1)
 unfold dV dK
 rw [e]
 exact ⟨rfl, rfl⟩
theorem zpu (l : List UInt8) : 0 <= dV l /\ dV l <= 255 := by
 unfold dV
 cases hx : zqm l with
 | none => exact ⟨by simp, by simp⟩
 | some n => have := (zq3 hx).1; simp only [Option.getD_some]; omega
set_option maxRecDepth 20000 in
theorem zpv (s : ByteArray) (w : World) :
 Calls Tryz.prog 190 #[.string s] w fun e w' => e = .returned (.tuple #[.int .i64 (dV (ls s)), .bool (dK (ls s))]) /\ Below w.heap.size w w' := by
 go_enter Tryz.func190, Tryz.ntmps190
 go_wp2
 go_loopw [4] (fun i wr => ∃ k : Nat, k <= 256 /\ i = .int .i64 k /\ Hid (∀ j, j < k -> Lib.decDigits j ≠ ls s) /\ Below w.heap.size w wr) (fun i _ => 256 - (intOf i).toNat)
 case atStart => exact ⟨0, Nat.zero_le _, rfl, jL (fun j h => by omega), Below.refl _ _⟩
 case round =>
  obtain ⟨k, hk, rfl, HN, hb⟩ := hrel
  by_cases hlt : k < 256
  ·have c1 := z1x (k : Int) (by omega) (by omega)
   have HD : Hid (ls (bs (Lib.decDigits (k : Int).toNat)) = Lib.decDigits k) := by show _ = _; rw [zb0]; rfl
   generalize bs (Lib.decDigits (k : Int).toNat) = D at *
   by_cases he : D = s
   ·have hq : (D.toList == s.toList) = true := by rw [he]; simp
    have HY := jL (zps (l := ls s) (k := k) (by rw [<- HD.out, he]) hlt)
    clear he
    go_wp2_with (go_at_call 50; refine (c1 _).mono ?_; rintro e w1 ⟨rfl, hb1⟩)
    go_ret2
    exact ⟨by rw [HY.out.1, HY.out.2]; rfl, hb.trans (hb1.mono hb.size)⟩
   ·have hq : (D.toList == s.toList) = false := by
     rw [beq_eq_false_iff_ne, zb3, zb3]
     exact fun e => he (zb2 e)
    have HY : Hid (Lib.decDigits k ≠ ls s) := jL (by rw [<- HD.out]; exact fun e => he (zb2 e))
    clear he
    go_wp2_with (go_at_call 50; refine (c1 _).mono ?_; rintro e w1 ⟨rfl, hb1⟩)
    go_roundw
    case rel =>
     refine ⟨k + 1, by omega, by go_num, jL (fun j h => ?_), hb.trans (hb1.mono hb.size)⟩
     rcases Nat.lt_or_ge j k with h1 | h1
     ·exact HN.out j h1
     ·obtain rfl : j = k := by omega
      exact HY.out
    case measure => simp [intOf]; omega
  ·obtain rfl : k = 256 := by omega
   have HY := jL (zpt HN.out)
   go_wp2
   go_ret2
   exact ⟨by rw [HY.out.1, HY.out.2]; rfl, hb⟩
def zpw : List (List UInt8) -> Nat -> Option Nat
 | [], v => some v
 | x :: r, v => match zqm x with
   | none => none
   | some n => zpw r (v * 256 + n)
theorem zpx (l : List UInt8) : zqo l = if (z3b 46 l).length = 4 then zpw (z3b 46 l) 0 else none := by
 unfold zqo zqn
 generalize z3b 46 l = p
 match p with
 | [] => rfl
 | [_] => rfl
 | [_, _] => rfl
 | [_, _, _] => rfl
 | [a, b, c, d] =>
   simp only [zpw, List.length_cons, List.length_nil]
   cases zqm a <;> cases zqm b <;> cases zqm c <;> cases zqm d <;> simp
 | _ :: _ :: _ :: _ :: _ :: _ => simp
def aV (o : Option Nat) : Int := (o.getD 0 : Nat)
def aK (o : Option Nat) : Bool := o.isSome
theorem zpy (s : ByteArray) (w : World) (hs : s.size <= 1000000000) :
 Calls Tryz.prog 154 #[.string s] w fun e w' => e = .returned (.tuple #[.int .u32 (aV (zqo (ls s))), .bool (aK (zqo (ls s)))]) /\ Below w.heap.size w w' := by
 have hspl := z16 s 46 w hs
 have hlen := z3f 46 (ls s)
 rw [zb4] at hlen
 have HP := jL (zpx (ls s))
 generalize z3b 46 (ls s) = P at *
 obtain ⟨n, hn⟩ : ∃ n, n = P.length := ⟨_, rfl⟩
 go_enter Tryz.func154, Tryz.ntmps154
 go_wp2_with fail
 refine hspl.mono ?_
 rintro e w1 ⟨v, m, rfl, hown, hb⟩
 obtain ⟨A, c, rfl, hh, hmc⟩ := Has.of_own hown
 obtain rfl : m = n := by have := hh.1; rw [z4a] at this; omega
 clear hspl hown
 by_cases h4 : m = 4
 ·subst h4
  have HF : Hid (zqo (ls s) = zpw P 0) := by show _ = _; rw [HP.out, if_pos hn.symm]
  have HN := jL hn
  obtain ⟨b, off, rfl, _⟩ := z3u hh 0 (by omega)
  have HH := jL hh
  clear hn hh HP
  go_wp2
  go_loopw [5, 6] (fun v i wr => ∃ (k : Nat) (z : Int), k <= 4 /\ i = .int .i64 k /\ v = .int .u32 z /\ 0 <= z /\ Hid (z < 256 ^ k) /\ Hid (zpw (P.drop k) z.toNat = zqo (ls s)) /\ Below w1.heap.size w1 wr) (fun _ i _ => 4 - (intOf i).toNat)
  case atStart => exact ⟨0, 0, Nat.zero_le _, rfl, rfl, by omega, jL (by decide), jL HF.out.symm, Below.refl _ _⟩
  case round =>
   obtain ⟨k, z, hk, rfl, rfl, hz0, HZ, HR, hb2⟩ := hrel
   by_cases hlt : k < 4
   ·obtain ⟨b', off', e, hcell⟩ := z3u (HH.out.below hb2) k hlt
    injection e with e
    injection e with e1 e2 _
    subst e1 e2
    have c1 := zpv (bs (P.getD k []))
    rw [zb0] at c1
    have hdr : P.drop k = P.getD k [] :: P.drop (k + 1) := by
     have hk' : k < P.length := by rw [<- HN.out]; exact hlt
     rw [List.drop_eq_getElem_cons hk', List.getD_eq_getElem?_getD, List.getElem?_eq_getElem hk', Option.getD_some]
    have HR2 := HR.out
    rw [hdr, zpw] at HR2
    have hrng := zpu (P.getD k [])
    generalize P.getD k [] = x at *
    have HX := jL HR2
    clear HR2 hdr HR
    cases hx : zqm x with
    | none =>
      have e1 : dV x = 0 /\ dK x = false := by unfold dV dK; rw [hx]; exact ⟨rfl, rfl⟩
      have HQ : Hid (zqo (ls s) = none) := by show _ = _; have := HX.out; rw [hx] at this; exact this.symm
      rw [e1.1, e1.2] at c1
      clear hx e1 hrng
      go_wp2_with (go_at_call 190; refine (c1 _).mono ?_; rintro e w3 ⟨rfl, hb3⟩)
      go_ret2
      exact ⟨by rw [HQ.out]; rfl, hb.trans ((hb2.trans (hb3.mono hb2.size)).mono hb.size)⟩
    | some d =>
      have e1 : dV x = (d : Int) /\ dK x = true := by unfold dV dK; rw [hx]; exact ⟨rfl, rfl⟩
      have HQ : Hid (zpw (P.drop (k + 1)) (z.toNat * 256 + d) = zqo (ls s)) := by show _ = _; have := HX.out; rw [hx] at this; exact this
      rw [e1.1, e1.2] at c1
      rw [e1.1] at hrng
      obtain ⟨dv, hdv⟩ : ∃ v : Int, v = (d : Int) := ⟨_, rfl⟩
      rw [<- hdv] at c1 hrng
      have HZ3 : z <= 16777215 := by
       have h1 := HZ.out
       have h2 : (256 : Int) ^ k <= 256 ^ 3 := by
        have : k = 0 \/ k = 1 \/ k = 2 \/ k = 3 := by omega
        rcases this with rfl | rfl | rfl | rfl <;> decide
       have h3 : (256 : Int) ^ 3 = 16777216 := by decide
       omega
      have HZN : Hid (z * 256 + dv < 256 ^ (k + 1)) := by
       show _ < _
       have h1 := HZ.out
       rw [Int.pow_succ]
       omega
      have HQ2 : Hid (zpw (P.drop (k + 1)) (z * 256 + dv).toNat = zqo (ls s)) := by
       show _ = _
       rw [<- HQ.out]
       congr 1
       omega
      obtain ⟨hr0, hr1⟩ := hrng
      clear hx e1 hdv
      go_wp2_with (go_at_call 190; refine (c1 _).mono ?_; rintro e w3 ⟨rfl, hb3⟩)
      go_roundw
      case rel => exact ⟨k + 1, z * 256 + dv, by omega, by go_num, by first | rfl | go_num, by omega, HZN, HQ2, hb2.trans (hb3.mono hb2.size)⟩
      case measure => simp [intOf]; omega
   ·obtain rfl : k = 4 := by omega
    have HQ : Hid (zqo (ls s) = some z.toNat) := by
     show _ = _
     have h := HR.out
     have hd : P.drop 4 = [] := List.drop_of_length_le (by rw [<- HN.out]; omega)
     rw [hd, zpw] at h
     exact h.symm
    have HZZ : Hid ((z.toNat : Int) = z) := jL (by omega)
    go_wp2
    go_ret2
    refine ⟨?_, hb.trans (hb2.mono hb.size)⟩
    rw [HQ.out]
    unfold aV aK
    rw [Option.getD_some, HZZ.out]
    rfl
 ·have hne : ((m : Int) != 4) = true := by simp; omega
  have HQ : Hid (zqo (ls s) = none) := by show _ = _; rw [HP.out, if_neg (by omega)]
  clear hn hh h4
  go_wp2
  go_ret2
  exact ⟨by rw [HQ.out]; rfl, hb⟩
end

section
open Go.RowKit
set_option maxHeartbeats 16000000
theorem zj7 : Tryz.prog.underlying 95 = some (.slice 23) := by kernel_rfl
theorem zj8 : Tryz.prog.underlying 23 = some (.int .u16) := by kernel_rfl
theorem zj9 : (Tryz.prog.info? 23).map (fun i => (i.zero, i.size, i.bytes)) = some (some (.int .u16 0), 1, 2) := by kernel_rfl
theorem zka : (Tryz.prog.info? 23).map (·.size) = some 1 := by kernel_rfl
def uv (g : List Nat) : List Value := g.map fun (x : Nat) => .int .u16 (x : Int)
theorem zkb (g : List Nat) : (uv g).length = g.length := by simp [uv]
theorem zkc (g h : List Nat) : uv g ++ uv h = uv (g ++ h) := by simp [uv]
theorem zkd (g : List Nat) : ∀ v ∈ uv g, v.oneCell' = true := by
 intro v hv
 obtain ⟨x, _, rfl⟩ := List.mem_map.1 hv
 rfl
theorem zke {w : World} {B n : Nat} {A : Option Addr} {g : List Nat} (h : Has w B A n (uv g)) (k : Nat) (hk : k < n) : ∃ b off, A = some ⟨b, off, none⟩ /\ w.cell? ⟨b, off + k, none⟩ = some (.int .u16 ((g.getD k 0 : Nat) : Int)) := by
 have hl : (uv g).length = n := h.1
 rw [zkb] at hl
 obtain ⟨b, off, e, _, hc⟩ := h.at_ hk
 refine ⟨b, off, e, ?_⟩
 rw [hc, List.getD_eq_getElem?_getD, List.getElem?_eq_getElem (by omega), Option.getD_some]
 simp [uv]
def zkf (o : Option (List Nat)) (w : World) (e : Ending) (w' : World) : Prop :=
 ∃ v, e = .returned (.tuple #[v, .bool o.isSome]) /\ w'.ownsRow w.heap.size 23 1 v (o.getD []).length (uv (o.getD [])) /\ Below w.heap.size w w'
theorem zkf.no {o : Option (List Nat)} {w w' : World} (h : o = none) (hb : Below w.heap.size w w') : zkf o w (.returned (.tuple #[.slice none 0 0, .bool false])) w' := by
 subst h
 exact ⟨_, rfl, World.ownsRow_nil _ _ _ _, hb⟩
theorem zkg {w : World} {b b' e n : Nat} {v : Value} {xs : List Value} (h : w.ownsRow b e 1 v n xs) (hb : b' <= b) : w.ownsRow b' e 1 v n xs := by
 refine ⟨h.1, ?_⟩
 rcases h.2 with h0 | ⟨g, cap, cur, h1, h2, h3⟩
 ·exact .inl h0
 ·exact .inr ⟨g, cap, cur, h1, by omega, h3⟩
theorem zkh {w : World} {b j : Nat} {v : Value} (h : w.cell? ⟨b, j, none⟩ = some v) : b < w.heap.size := by
 rcases Nat.lt_or_ge b w.heap.size with h1 | h1
 ·exact h1
 ·have : w.heap[b]? = none := by rw [Array.getElem?_eq_none_iff]; exact h1
  simp [World.cell?, this] at h
theorem zki (x : List UInt8) (last : Bool) : znq [x] last = match (if last then zqo x else none) with
 | some v => some [v / 65536, v % 65536]
 | none => match znp x with
   | some g => some [g]
   | none => none := rfl
theorem zkj {x : List UInt8} {rest : List (List UInt8)} {last : Bool} {g : Nat} (h : ¬ ((zqo x).isSome = true /\ last = true /\ rest = [])) (hg : znp x = some g) : znq (x :: rest) last = (znq rest last).map (g :: ·) := by
 cases rest with
 | nil =>
   rw [zki]
   have : (if last = true then zqo x else none) = none := by
    cases last with
    | false => rfl
    | true => cases hp : zqo x with
      | none => rfl
      | some v => exact absurd ⟨by rw [hp]; rfl, rfl, rfl⟩ h
   rw [this, hg]; rfl
 | cons y r =>
   rw [znq, hg]
   cases znq (y :: r) last <;> rfl
theorem zkk {x : List UInt8} {rest : List (List UInt8)} {last : Bool} (h : ¬ ((zqo x).isSome = true /\ last = true /\ rest = [])) (hg : znp x = none) : znq (x :: rest) last = none := by
 cases rest with
 | nil =>
   rw [zki]
   have : (if last = true then zqo x else none) = none := by
    cases last with
    | false => rfl
    | true => cases hp : zqo x with
      | none => rfl
      | some v => exact absurd ⟨by rw [hp]; rfl, rfl, rfl⟩ h
   rw [this, hg]
 | cons y r => rw [znq, hg]
theorem zkl (c : UInt8) : ∀ l cur, ∀ x ∈ z3a c l cur, x.length <= l.length + cur.length
 | [], cur, x, hx => by simp [z3a] at hx; subst hx; simp
 | b :: r, cur, x, hx => by
   unfold z3a at hx
   split at hx
   ·rcases List.mem_cons.1 hx with h | h
    ·subst h; simp
    ·have := zkl c r [] x h; simp at this ⊢; omega
   ·have := zkl c r (cur ++ [b]) x hx; simp at this ⊢; omega
set_option maxRecDepth 20000 in
theorem zkm (s : ByteArray) (last : Bool) (w : World) (hs : s.size <= 1000000000) :
 Calls Tryz.prog 117 #[.string s, .bool last] w (zkf (znr (ls s) last) w) := by
 by_cases h0 : s.size = 0
 ·have hnil : ls s = [] := List.eq_nil_of_length_eq_zero (by rw [zb4]; exact h0)
  have hbe : (s.toList == ([] : List UInt8)) = true := by rw [zb3, hnil]; rfl
  have HG : Hid (znr (ls s) last = some []) := by rw [hnil]; exact jL rfl
  clear h0 hnil
  go_enter Tryz.func117, Tryz.ntmps117
  go_wp2
  go_ret2
  rw [HG.out]
  exact ⟨_, rfl, World.ownsRow_nil _ _ _ _, Below.refl _ _⟩
 ·have hne : ls s ≠ [] := by intro e; have := zb4 s; rw [e] at this; simp at this; omega
  have hbe : (s.toList == ([] : List UInt8)) = false := by rw [zb3]; cases hx : ls s with
   | nil => exact absurd hx hne
   | cons c r => rfl
  have HG : Hid (znr (ls s) last = znq (z3b 58 (ls s)) last) := by show _ = _; unfold znr; rw [if_neg hne]
  have hspl := z16 s 58 w hs
  have hlen := z3f 58 (ls s)
  have hszs : ∀ x ∈ z3b 58 (ls s), x.length <= 1000000000 := fun x hx => by have := zkl 58 (ls s) [] x hx; rw [zb4] at this; simp at this; omega
  rw [zb4] at hlen
  have hpos := z3d 58 (ls s)
  generalize z3b 58 (ls s) = P at *
  generalize znr (ls s) last = G at *
  obtain ⟨i16, hi16, hz0, hz1, hz2⟩ := info_parts zj9
  obtain ⟨n, hn⟩ : ∃ n, n = P.length := ⟨_, rfl⟩
  clear h0 hne
  go_enter Tryz.func117, Tryz.ntmps117
  go_wp2_with fail
  refine hspl.mono ?_
  rintro e w1 ⟨v, m, rfl, hown, hb⟩
  obtain ⟨A, c, rfl, hh, hmc⟩ := Has.of_own hown
  obtain rfl : m = n := by have := hh.1; rw [z4a] at this; omega
  clear hspl hown
  obtain ⟨b, off, rfl, _⟩ := z3u hh 0 (by omega)
  have HH := jL hh
  have HM := jL hn
  have HSZ := jL hszs
  have hmb : m <= 1000000001 := by omega
  clear hn hh hszs hpos
  go_wp2
  go_loopw [6, 8] (fun v i wr => ∃ (k : Nat) (acc : List Nat), k <= m /\ i = .int .i64 k /\ acc.length <= 2 * k /\ Hid (G = (znq (P.drop k) last).map (acc ++ ·)) /\ wr.ownsRow w1.heap.size 23 1 v acc.length (uv acc) /\ Below w1.heap.size w1 wr) (fun _ i _ => m - (intOf i).toNat)
  case atStart => exact ⟨0, [], Nat.zero_le _, rfl, by simp, jL (by rw [HG.out]; simp), World.ownsRow_nil _ _ _ _, Below.refl _ _⟩
  case round =>
   obtain ⟨k, acc, hk, rfl, hal, HR, hown, hb2⟩ := hrel
   by_cases hlt : k < m
   ·obtain ⟨b', off', e, hcell⟩ := z3u (HH.out.below hb2) k hlt
    injection e with e
    injection e with e1 e2 _
    subst e1 e2
    have hkP : k < P.length := by rw [<- HM.out]; exact hlt
    have hdr : P.drop k = P.getD k [] :: P.drop (k + 1) := by
     rw [List.drop_eq_getElem_cons hkP, List.getD_eq_getElem?_getD, List.getElem?_eq_getElem hkP, Option.getD_some]
    have hxs : (P.getD k []).length <= 1000000000 := HSZ.out _ (by rw [List.getD_eq_getElem?_getD, List.getElem?_eq_getElem hkP, Option.getD_some]; exact List.getElem_mem hkP)
    have HR2 := HR.out
    rw [hdr] at HR2
    have hrest : P.drop (k + 1) = [] ↔ k + 1 = m := by
     rw [List.drop_eq_nil_iff, <- HM.out]; omega
    generalize P.getD k [] = x at *
    have HX := jL HR2
    have HRE := jL hrest
    have c1 := fun W => zpy (bs x) W (by rw [zb5]; exact hxs)
    have c2 := fun W => zj2 (bs x) W (by rw [zb5]; exact hxs)
    rw [zb0] at c1 c2
    obtain ⟨X, hX⟩ : ∃ X, X = bs x := ⟨_, rfl⟩
    rw [<- hX] at c1 c2 hcell
    clear HR2 hdr HR hX hxs hkP hrest
    have hlast : ((k : Int) == (m : Int) - 1) = decide (k + 1 = m) := by
     apply Bool.eq_iff_iff.2
     simp only [beq_iff_eq, decide_eq_true_eq]
     omega
    by_cases hdot : (zqo x).isSome = true /\ last = true /\ k + 1 = m
    ·obtain ⟨hd1, hd2, hd3⟩ := hdot
     rw [jT hd3] at hlast
     obtain ⟨v, hv⟩ := Option.isSome_iff_exists.1 hd1
     have hvb := (zrd hv).1
     have hnil := HRE.out.2 hd3
     subst hd2
     have HY : Hid (G = some (acc ++ [v / 65536, v % 65536])) := by
      show _ = _
      rw [HX.out, hnil, zki, if_pos rfl, hv]; rfl
     rw [hv, show aV (some v) = (v : Int) from rfl, show aK (some v) = true from rfl] at c1
     obtain ⟨v0, hv0⟩ : ∃ q : Nat, q = v / 65536 := ⟨_, rfl⟩
     obtain ⟨v1, hv1⟩ : ∃ q : Nat, q = v % 65536 := ⟨_, rfl⟩
     have hv0i : (v : Int) / 65536 = (v0 : Int) := by omega
     have hv1i : (v : Int) % 65536 = (v1 : Int) := by omega
     have hv1w : IntKind.u16.wrap (v : Int) = (v1 : Int) := by rw [IntKind.wrap_u16]; omega
     have hv0b : v0 < 65536 := by omega
     have hv1b : v1 < 65536 := by omega
     have HY2 : Hid (G = some (acc ++ [v0, v1])) := by rw [hv0, hv1]; exact HY
     clear hd1 hv HY hv0 hv1 hnil c2
     go_wp2_with (first
      | (go_at_call 154
         refine (c1 _).mono ?_
         rintro e w3 ⟨rfl, hb3⟩
         have hown3 := zaq hown hb3
         have hb23 := hb2.trans (hb3.mono hb2.size)
         have hbA := hb23.alloc hb23.size (.cells #[.int .u16 (v0 : Int), .int .u16 (v1 : Int)] 23)
         have hownA := hown3.alloc (.cells #[.int .u16 (v0 : Int), .int .u16 (v1 : Int)] 23)
         have hhA := Has.laid w3 23 #[.int .u16 (v0 : Int), .int .u16 (v1 : Int)] (0, 0) 2 _ rfl rfl
         clear c1)
      | (at_builtin; refine zao _ rfl _ _ 95 rfl w1.heap.size 23 i16 (.int .u16 0) 2 zj7 hi16 hz0 hz1 hz2 rfl _ _ _ (by exact rfl) hownA _ 2 2 _ (uv [v0, v1]) (by exact rfl) (by intro e; cases e) hhA (zkd _) (by unfold maxLen; omega) (by omega) hbA jH ?_; intro v' w' hown' hb' _))
     go_roundw
     case rel =>
      rw [zkc] at hown'
      refine ⟨k + 1, acc ++ [v0, v1], by omega, by go_num, by simp; omega, jL ?_, by simpa using hown', hb'⟩
      rw [HY2.out, HRE.out.2 hd3]
      simp [znq]
     case measure => simp [intOf]; omega
    ·have hdot' : ¬ ((zqo x).isSome = true /\ last = true /\ P.drop (k + 1) = []) := fun h => hdot ⟨h.1, h.2.1, HRE.out.1 h.2.2⟩
     cases hx : znp x with
     | none =>
       have HY : Hid (G = none) := by show _ = _; rw [HX.out, zkk hdot' hx]; rfl
       have e1 : hV x = 0 /\ hK x = false := by unfold hV hK; rw [hx]; exact ⟨rfl, rfl⟩
       rw [e1.1, e1.2] at c2
       clear hx e1
       cases hp : zqo x with
       | none =>
         rw [hp, show aK (none : Option Nat) = false from rfl] at c1
         generalize aV (none : Option Nat) = y at *
         clear hp hdot hdot'
         go_wp2_with (first | (go_at_call 154; refine (c1 _).mono ?_; rintro e w3 ⟨rfl, hb3⟩; have hc3 := (hb3.cell (p := ⟨b, off + k, none⟩) (zkh hcell)).trans hcell) | (go_at_call 155; refine (c2 _).mono ?_; rintro e w' ⟨rfl, rfl⟩))
         go_ret2
         exact zkf.no HY.out (hb.trans ((hb2.trans (hb3.mono hb2.size)).mono hb.size))
       | some v =>
         rw [hp, show aK (some v) = true from rfl] at c1
         generalize aV (some v) = y at *
         cases last with
         | false =>
           clear hp hdot hdot'
           go_wp2_with (first | (go_at_call 154; refine (c1 _).mono ?_; rintro e w3 ⟨rfl, hb3⟩; have hc3 := (hb3.cell (p := ⟨b, off + k, none⟩) (zkh hcell)).trans hcell) | (go_at_call 155; refine (c2 _).mono ?_; rintro e w' ⟨rfl, rfl⟩))
           go_ret2
           exact zkf.no HY.out (hb.trans ((hb2.trans (hb3.mono hb2.size)).mono hb.size))
         | true =>
           have hnl : ¬ k + 1 = m := fun h => hdot ⟨by rw [hp]; rfl, rfl, h⟩
           rw [jF hnl] at hlast
           clear hp hdot hdot' hnl
           go_wp2_with (first | (go_at_call 154; refine (c1 _).mono ?_; rintro e w3 ⟨rfl, hb3⟩; have hc3 := (hb3.cell (p := ⟨b, off + k, none⟩) (zkh hcell)).trans hcell) | (go_at_call 155; refine (c2 _).mono ?_; rintro e w' ⟨rfl, rfl⟩))
           go_ret2
           exact zkf.no HY.out (hb.trans ((hb2.trans (hb3.mono hb2.size)).mono hb.size))
     | some g =>
       have HY : Hid (G = (znq (P.drop (k + 1)) last).map ((acc ++ [g]) ++ ·)) := by
        show _ = _
        rw [HX.out, zkj hdot' hx]
        cases znq (P.drop (k + 1)) last <;> simp
       have hgr := zj1 x
       have e1 : hV x = (g : Int) /\ hK x = true := by unfold hV hK; rw [hx]; exact ⟨rfl, rfl⟩
       rw [e1.1, e1.2] at c2
       rw [e1.1] at hgr
       have hgb : g < 65536 := by omega
       clear hx e1 hgr
       cases hp : zqo x with
       | none =>
         rw [hp, show aK (none : Option Nat) = false from rfl] at c1
         generalize aV (none : Option Nat) = y at *
         clear hp hdot hdot'
         go_wp2_with (first | (go_at_call 154; refine (c1 _).mono ?_; rintro e w3 ⟨rfl, hb3⟩; have hc3 := (hb3.cell (p := ⟨b, off + k, none⟩) (zkh hcell)).trans hcell; have hown3 := zaq hown hb3; have hb23 := hb2.trans (hb3.mono hb2.size)) | (go_at_call 155; refine (c2 _).mono ?_; rintro e w' ⟨rfl, rfl⟩) | (at_builtin; refine zcq _ rfl _ _ 95 rfl w1.heap.size 23 i16 (.int .u16 0) 2 zj7 hi16 hz0 hz1 hz2 rfl _ (by exact rfl) _ _ _ (by exact rfl) hown3 (by exact rfl) (by unfold maxLen; omega) (by omega) hb23 jH ?_; intro v' w' hown' hb' _))
         go_roundw
         case rel =>
          have e := zkc acc [g]
          rw [show uv [g] = [.int .u16 (g : Int)] from rfl] at e
          rw [e] at hown'
          exact ⟨k + 1, acc ++ [g], by omega, by go_num, by simp; omega, HY, by simpa using hown', hb'⟩
         case measure => simp [intOf]; omega
       | some v =>
         rw [hp, show aK (some v) = true from rfl] at c1
         generalize aV (some v) = y at *
         cases last with
         | false =>
           clear hp hdot hdot'
           go_wp2_with (first | (go_at_call 154; refine (c1 _).mono ?_; rintro e w3 ⟨rfl, hb3⟩; have hc3 := (hb3.cell (p := ⟨b, off + k, none⟩) (zkh hcell)).trans hcell; have hown3 := zaq hown hb3; have hb23 := hb2.trans (hb3.mono hb2.size)) | (go_at_call 155; refine (c2 _).mono ?_; rintro e w' ⟨rfl, rfl⟩) | (at_builtin; refine zcq _ rfl _ _ 95 rfl w1.heap.size 23 i16 (.int .u16 0) 2 zj7 hi16 hz0 hz1 hz2 rfl _ (by exact rfl) _ _ _ (by exact rfl) hown3 (by exact rfl) (by unfold maxLen; omega) (by omega) hb23 jH ?_; intro v' w' hown' hb' _))
           go_roundw
           case rel =>
            have e := zkc acc [g]
            rw [show uv [g] = [.int .u16 (g : Int)] from rfl] at e
            rw [e] at hown'
            exact ⟨k + 1, acc ++ [g], by omega, by go_num, by simp; omega, HY, by simpa using hown', hb'⟩
           case measure => simp [intOf]; omega
         | true =>
           have hnl : ¬ k + 1 = m := fun h => hdot ⟨by rw [hp]; rfl, rfl, h⟩
           rw [jF hnl] at hlast
           clear hp hdot hdot' hnl
           go_wp2_with (first | (go_at_call 154; refine (c1 _).mono ?_; rintro e w3 ⟨rfl, hb3⟩; have hc3 := (hb3.cell (p := ⟨b, off + k, none⟩) (zkh hcell)).trans hcell; have hown3 := zaq hown hb3; have hb23 := hb2.trans (hb3.mono hb2.size)) | (go_at_call 155; refine (c2 _).mono ?_; rintro e w' ⟨rfl, rfl⟩) | (at_builtin; refine zcq _ rfl _ _ 95 rfl w1.heap.size 23 i16 (.int .u16 0) 2 zj7 hi16 hz0 hz1 hz2 rfl _ (by exact rfl) _ _ _ (by exact rfl) hown3 (by exact rfl) (by unfold maxLen; omega) (by omega) hb23 jH ?_; intro v' w' hown' hb' _))
           go_roundw
           case rel =>
            have e := zkc acc [g]
            rw [show uv [g] = [.int .u16 (g : Int)] from rfl] at e
            rw [e] at hown'
            exact ⟨k + 1, acc ++ [g], by omega, by go_num, by simp; omega, HY, by simpa using hown', hb'⟩
           case measure => simp [intOf]; omega
   ·obtain rfl : k = m := by omega
    have HY : Hid (G = some acc) := by
     show _ = _
     rw [HR.out, List.drop_of_length_le (by rw [<- HM.out]; exact jH)]
     simp [znq]
    go_wp2
    go_ret2
    rw [HY.out]
    exact ⟨_, rfl, zkg hown hb.size, hb.trans (hb2.mono hb.size)⟩
end

section
open Go.RowKit
set_option maxHeartbeats 16000000
def Row (w : World) (g : Nat) (t : TypeId) (c : Array Value) : Prop := w.heap[g]? = some (.cells c t (0, 0))
section
variable {w w' : World} {g g' B : Nat} {t : TypeId} {c : Array Value}
theorem Row.lt (h : Row w g t c) : g < w.heap.size := (Array.getElem?_eq_some_iff.1 h).1
theorem Row.below (h : Row w g t c) (hb : Below B w w') (hg : g < B) : Row w' g t c := (hb.block g hg).trans h
theorem Row.grown (h : Row w g t c) (hg : w.grownBy w' (some g')) (hne : g ≠ g') : Row w' g t c := (hg.block g h.lt (fun e => by injection e with e; exact hne e)).trans h
theorem Row.grown0 (h : Row w g t c) (hg : w.grownBy w' none) : Row w' g t c := (hg.block g h.lt (fun e => by cases e)).trans h
theorem Row.cell (h : Row w g t c) {k : Nat} (hk : k < c.size) : w.cell? ⟨g, k, none⟩ = some c[k] := by
 rw [cell_of_row w g k c t (0, 0) h, Array.getElem?_eq_getElem hk]
theorem zat (w : World) (c : Array Value) (t : TypeId) : Row (w.alloc (.cells c t)) w.heap.size t c := heap_alloc_last w _
theorem zau {w0 : World} (hb : Below B w0 w) (hg : w.grownBy w' (some g)) (hB : B <= w0.heap.size) (hr : B <= g) : Below B w0 w' :=
 hb.grown hg (by have := hb.size; omega) (fun k e => by injection e with e; omega)
theorem zav {w0 : World} (hb : Below B w0 w) (hg : w.grownBy w' none) (hB : B <= w0.heap.size) : Below B w0 w' :=
 hb.grown hg (by have := hb.size; omega) (fun k e => by cases e)
theorem zaw (w : World) (g : Nat) (c : Array Value) : w.grownBy (w.setRow g c) (some g) :=
 ⟨rfl, rfl, rfl, by rw [setRow_size]; exact jH, fun i _ hne => setRow_other w g i c (fun e => hne (by rw [e]))⟩
end
variable {P : Program} (w : World) {ops : Array Oper} {rest : List Oper} {o : Oper} {a : Act} {Q : Exit -> Act -> World -> Prop}
theorem zax (hg : o.guard = none) (d : Tmp) (_ : o.dst = some d) (t : TypeId) (x : Operand) (hop : o.op = .box t x) (v : Value) (c : Array Value) (hv : a.eval x = v) (hc : v.cells = c)
 (h : ∀ w' g, w.heap.size <= g -> g < w'.heap.size -> Row w' g t c -> w.grownBy w' none -> wpList P ops Q rest (a.put o.dst (.pointer (some ⟨g, 0, none⟩))) w') : wpList P ops Q (o :: rest) a w := by
 refine wpList_plain hg fun K hK => ?_
 subst hc
 have := h (w.alloc (.cells v.cells t)) w.heap.size jH (by simp) (zat w _ _) (World.grownBy_alloc w _ _)
 unfold Oper.wp
 simp [execOp, hop, hv, Instr.box, newVar, newRow, Result.andThen]
 exact hK _ _ this
theorem zay (hg : o.guard = none) (d : Tmp) (_ : o.dst = some d) (t : TypeId) (hop : o.op = .alloc t) (z : Array Value) (hz : ∀ w, (zeroValue t).run P w = .ok (.agg z) w)
 (h : ∀ w' g, w.heap.size <= g -> g < w'.heap.size -> Row w' g t z -> w.grownBy w' none -> wpList P ops Q rest (a.put o.dst (.pointer (some ⟨g, 0, none⟩))) w') : wpList P ops Q (o :: rest) a w := by
 refine wpList_plain hg fun K hK => ?_
 have := h (w.alloc (.cells z t)) w.heap.size jH (by simp) (zat w _ _) (World.grownBy_alloc w _ _)
 unfold Oper.wp
 simp [execOp, hop, Instr.alloc, hz, newVar, newRow, Result.andThen, Value.cells]
 exact hK _ _ this
theorem zaz (hg : o.guard = none) (t : TypeId) (p : Operand) (hop : o.op = .load t p) (g : Nat) (hp : a.eval p = .pointer (some ⟨g, 0, none⟩)) (t' : TypeId) (c : Array Value) (hrow : Row w g t' c)
 (n : Nat) (e : TypeId) (hu : P.underlying t = some (.array n e)) (hi : (P.info? t).map (·.size) = some c.size)
 (h : wpList P ops Q rest (a.put o.dst (.agg c)) w) : wpList P ops Q (o :: rest) a w := by
 refine wpList_plain hg fun K hK => ?_
 have hl := run_loadVar_row (P := P) w g t' t c (0, 0) _ hrow hu rfl hi
 unfold Oper.wp
 simp only [execOp, hop, hp, Instr.loadAt, Instr.sureAddr, Sem.run_bind, Sem.run_pure, Result.andThen, hl]
 exact hK _ _ h
theorem za0 (hg : o.guard = none) (hd : o.dst = none) (t : TypeId) (p x : Operand) (hop : o.op = .store t p x) (g : Nat) (hp : a.eval p = .pointer (some ⟨g, 0, none⟩)) (c' : Array Value) (hx : a.eval x = .agg c')
 (t' : TypeId) (c : Array Value) (hrow : Row w g t' c) (hi : (P.info? t).map (·.size) = some c'.size) (ho : c.size = c'.size) (h1 : c'.all (·.oneCell') = true)
 (h : ∀ w', Row w' g t' c' -> w.grownBy w' (some g) -> wpList P ops Q rest a w') : wpList P ops Q (o :: rest) a w := by
 refine wpList_plain hg fun K hK => ?_
 have hl := run_storeVar_row (P := P) w g t' t c c' hrow hi ho h1
 have : wpList P ops Q rest (a.put o.dst undef) (w.setRow g c') := by
  rw [hd]
  exact h (w.setRow g c') (setRow_heap w g c c' t' _ hrow) (zaw w g c')
 unfold Oper.wp
 simp only [execOp, hop, hp, hx, Instr.storeAt, Instr.sureAddr, Sem.run_bind, Sem.run_pure, Result.andThen, hl]
 exact hK _ _ this
theorem za1 (hg : o.guard = none) (hd : o.dst = none) (t : TypeId) (p x : Operand) (hop : o.op = .store t p x) (g k : Nat) (hp : a.eval p = .pointer (some ⟨g, k, none⟩)) (v : Value) (hx : a.eval x = v) (hv : v.oneCell' = true)
 (t' : TypeId) (c : Array Value) (hrow : Row w g t' c) (hk : k < c.size) (hi : (P.info? t).map (·.size) = some 1)
 (h : ∀ w', Row w' g t' (c.setIfInBounds k v) -> w.grownBy w' (some g) -> wpList P ops Q rest a w') : wpList P ops Q (o :: rest) a w := by
 refine wpList_plain hg fun K hK => ?_
 have hcell := hrow.cell hk
 have hfro : w.frozen? ⟨g, k, none⟩ = false := by
  have := hrow
  unfold Row at this
  simp [World.frozen?, this]
 have hst : (store (⟨g, k, none⟩ : Addr) v).run P w = .ok () (w.setRow g (c.setIfInBounds k v)) := by
  rw [run_store P w _ v _ hv, hcell]
  simp [hfro, setCell_eq_setRow w g k c t' (0, 0) v hrow]
 have hc : v.cells = #[v] := by cases v <;> first | rfl | cases hv
 have hl : (storeVar t ⟨g, k, none⟩ v).run P w = .ok () (w.setRow g (c.setIfInBounds k v)) := by
  cases hq : P.info? t with
  | none => simp [hq] at hi
  | some i =>
    have hs : i.size = 1 := by simp [hq] at hi; omega
    have hadd : (⟨g, k, none⟩ : Addr).add 0 = ⟨g, k, none⟩ := by unfold Addr.add; simp
    simp [storeVar, sizeOf, typeInfo, hq, hc, hs, storeCells, hadd, hst]
 have : wpList P ops Q rest (a.put o.dst undef) (w.setRow g (c.setIfInBounds k v)) := by
  rw [hd]
  exact h (w.setRow g (c.setIfInBounds k v)) (setRow_heap w g c _ t' _ hrow) (zaw w g _)
 unfold Oper.wp
 simp only [execOp, hop, hp, hx, Instr.storeAt, Instr.sureAddr, Sem.run_bind, Sem.run_pure, Result.andThen, hl]
 exact hK _ _ this
theorem za2 (hg : o.guard = none) (t u : TypeId) (x y : Operand) (hop : o.op = .binOp .shr t x y u) (_hu : P.underlying t = some (.int .u32)) (n : Int) (k : Nat) (hk : k <= 32) (hx : a.eval x = .int .u32 n) (hy : a.eval y = .int .i64 (k : Int))
 (r : Int) (hr : n / 2 ^ k = r) (h : wpList P ops Q rest (a.put o.dst (.int .u32 r)) w) : wpList P ops Q (o :: rest) a w := by
 refine wpList_plain hg fun K hK => ?_
 subst hr
 have e : Int.fdiv n (2 ^ min ((k : Int)).toNat IntKind.u32.bits) = n / 2 ^ k := by
  have : min ((k : Int).toNat) IntKind.u32.bits = k := by simp [IntKind.bits]; omega
  rw [this, Int.fdiv_eq_ediv_of_nonneg _ (Int.pow_nonneg (by decide))]
 rw [<- e] at h
 unfold Oper.wp
 simp [execOp, hop, hx, hy, Result.andThen]
 exact hK _ _ h
theorem za3 (hg : o.guard = none) (t u : TypeId) (x y : Operand) (hop : o.op = .binOp .shl t x y u) (q : IntKind) (n : Int) (k : Nat) (hk : k <= q.bits) (hx : a.eval x = .int q n) (hy : a.eval y = .int .i64 (k : Int))
 (r : Int) (hr : q.wrap (n * 2 ^ k) = r) (h : wpList P ops Q rest (a.put o.dst (.int q r)) w) : wpList P ops Q (o :: rest) a w := by
 refine wpList_plain hg fun K hK => ?_
 have e : q.wrap (n * 2 ^ min ((k : Int)).toNat q.bits) = r := by
  have : min ((k : Int).toNat) q.bits = k := by simp; omega
  rw [this, hr]
 rw [<- e] at h
 unfold Oper.wp
 simp [execOp, hop, hx, hy, Result.andThen]
 exact hK _ _ h
theorem za4 {fn : Func} {R : Ending -> World -> Prop} {a : Act} {w : World} (p : Tmp) (t : TypeId) (hres : fn.results = #[.cell p t]) (g : Nat) (hp : a.tmps.getD p undef = .pointer (some ⟨g, 0, none⟩))
 (t' : TypeId) (c : Array Value) (hrow : Row w g t' c) (n : Nat) (e : TypeId) (hu : P.underlying t = some (.array n e)) (hi : (P.info? t).map (·.size) = some c.size) (hd : a.defers = [])
 (hR : R (.returned (.agg c)) w) : bodyPost P fn R .ret a w := by
 refine bodyPost_ret (v := .agg c) ?_ hd hR
 have hl := run_loadVar_row (P := P) w g t' t c (0, 0) _ hrow hu rfl hi
 have hp' : a.tmps[p]?.getD undef = .pointer (some ⟨g, 0, none⟩) := by simpa using hp
 simp only [results, hres]
 simp [asAddr, hp', hl]
end

section
open Go.RowKit
set_option maxHeartbeats 16000000
def av (C : List Nat) : Array Value := (uv C).toArray
theorem zaa (C : List Nat) : (av C).size = C.length := by simp [av, uv]
theorem zab (C : List Nat) (k : Nat) (x : Nat) : (av C).setIfInBounds k (.int .u16 (x : Int)) = av (C.set k x) := by
 apply Array.ext'
 rw [Array.toList_setIfInBounds]
 simp [av, uv, List.map_set]
theorem zac (C : List Nat) : (av C).all (·.oneCell') = true := by
 rw [Array.all_eq_true_iff_forall_mem]
 intro v hv
 have : v ∈ uv C := by simpa [av] using hv
 exact zkd C v this
theorem zad (C : List Nat) (k : Nat) (h : k < C.length) : (av C)[k]? = some (.int .u16 ((C.getD k 0 : Nat) : Int)) := by
 simp [av, uv, List.getD_eq_getElem?_getD, List.getElem?_eq_getElem h]
theorem zae : Tryz.prog.underlying 24 = some (.array 8 23) := by kernel_rfl
theorem zaf : (Tryz.prog.info? 24).map (fun i => (i.zero, i.size)) = some (some (.agg (av (znt 8))), 8) := by kernel_rfl
theorem zag : (Tryz.prog.info? 24).map (·.size) = some 8 := by kernel_rfl
theorem zah (C : List Nat) (h : C.length = 8) : (Tryz.prog.info? 24).map (·.size) = some (av C).size := by rw [zaa, h]; exact zag
theorem zai : ∀ w, (zeroValue 24).run Tryz.prog w = .ok (.agg (av (znt 8))) w := by
 intro w
 cases hi : Tryz.prog.info? 24 with
 | none => have := zaf; rw [hi] at this; cases this
 | some i =>
   have := zaf
   rw [hi] at this
   simp only [Option.map_some, Option.some.injEq, Prod.mk.injEq] at this
   simp [zeroValue, typeInfo, hi, this.1]
def zaj (w : World) (g : Nat) (C : List Nat) : Prop := Row w g 24 (av C)
theorem zaj.cell {w : World} {g : Nat} {C : List Nat} (h : zaj w g C) {k : Nat} (hk : k < C.length) : w.cell? ⟨g, k, none⟩ = some (.int .u16 ((C.getD k 0 : Nat) : Int)) := by
 rw [cell_of_row w g k _ _ (0, 0) h, zad C k hk]
theorem zak {fn : Func} {R : Ending -> World -> Prop} {a : Act} {w : World} (p u : Tmp) (hres : fn.results = #[.cell p 24, .tmp u]) (b : Nat) (hp : a.tmps.getD p undef = .pointer (some ⟨b, 0, none⟩))
 (C : List Nat) (hrow : zaj w b C) (hc : C.length = 8) (v : Value) (hv : a.tmps.getD u undef = v) (hd : a.defers = []) (hR : R (.returned (.tuple #[.agg (av C), v])) w) : bodyPost Tryz.prog fn R .ret a w := by
 refine bodyPost_ret (v := .tuple #[.agg (av C), v]) ?_ hd hR
 have hl := run_loadVar_row (P := Tryz.prog) w b _ _ (av C) (0, 0) _ hrow zae rfl (zah C hc)
 rw [results_cell_tmp hres, hp, hv]
 simp [asAddr, Result.andThen, hl]
theorem zal (g : List Nat) (k n : Nat) (hk : k < g.length) (hn : k < n) : (g.take k ++ znt (n - k)).set k (g.getD k 0) = g.take (k + 1) ++ znt (n - (k + 1)) := by
 rw [List.set_append_right _ _ (by simp; omega), List.take_succ_eq_append_getElem hk]
 simp only [List.length_take, List.append_assoc]
 rw [show k - min k g.length = 0 by omega, show n - k = (n - (k + 1)) + 1 by omega]
 rw [List.getD_eq_getElem?_getD, List.getElem?_eq_getElem hk, Option.getD_some]
 rfl
theorem zam (p g : List Nat) (k n : Nat) (hk : k < g.length) (hn : k < n) : (p ++ (g.take k ++ znt (n - k))).set (p.length + k) (g.getD k 0) = p ++ (g.take (k + 1) ++ znt (n - (k + 1))) := by
 rw [List.set_append_right _ _ (by omega), show p.length + k - p.length = k by omega, zal g k n hk hn]
end

section
open Go.RowKit
set_option maxHeartbeats 16000000
def hc (k : Int) (n : ByteArray) (v : Int) (g : List Nat) : Array Value :=
 #[.int .i64 k, .string n, .int .u32 v, .int .u16 ((g.getD 0 0 : Nat) : Int), .int .u16 ((g.getD 1 0 : Nat) : Int), .int .u16 ((g.getD 2 0 : Nat) : Int), .int .u16 ((g.getD 3 0 : Nat) : Int),
   .int .u16 ((g.getD 4 0 : Nat) : Int), .int .u16 ((g.getD 5 0 : Nat) : Int), .int .u16 ((g.getD 6 0 : Nat) : Int), .int .u16 ((g.getD 7 0 : Nat) : Int)]
theorem zgv (k : Int) (n : ByteArray) (v : Int) (g : List Nat) : (hc k n v g).all (·.oneCell') = true := by
 simp [hc, Value.oneCell']
def Hv.cells (h : Hv) : Array Value := hc h.kind (bs h.name) (h.v4 : Nat) h.v6
def Hv.val (h : Hv) : Value := .agg h.cells
theorem zgw : (Tryz.prog.underlying 26).map (fun d => match d with | .struct _ | .array _ _ => true | _ => false) = some true := by kernel_rfl
theorem zgx : (Tryz.prog.info? 26).map (·.size) = some 11 := by kernel_rfl
def zgy (w : World) (b : Nat) (c : Array Value) : Prop := Row w b 26 c
theorem zgz {w : World} {b : Nat} {c : Array Value} (h : zgy w b c) (hc : c.size = 11) : (loadVar 26 ⟨b, 0, none⟩).run Tryz.prog w = .ok (.agg c) w := by
 have hu := zgw
 obtain ⟨d, hd⟩ : ∃ d, Tryz.prog.underlying 26 = some d := by
  cases hx : Tryz.prog.underlying 26 with
  | none => rw [hx] at hu; cases hu
  | some d => exact ⟨d, rfl⟩
 rw [hd] at hu
 cases d <;> first
  | exact run_loadVar_row (P := Tryz.prog) w b _ _ c (0, 0) _ h hd rfl (by rw [hc]; exact zgx)
  | cases hu
theorem zg0 {ops : Array Oper} {rest : List Oper} {o : Oper} {a : Act} {w : World} {Q : Exit -> Act -> World -> Prop} (hgd : o.guard = none) (x : Operand) (ho : o.op = .load 26 x)
 (g : Nat) (hx : a.eval x = .pointer (some ⟨g, 0, none⟩)) (c : Array Value) (h0 : zgy w g c) (hc : c.size = 11)
 (h : wpList Tryz.prog ops Q rest (a.put o.dst (.agg c)) w) : wpList Tryz.prog ops Q (o :: rest) a w := by
 have hu := zgw
 obtain ⟨d, hd⟩ : ∃ d, Tryz.prog.underlying 26 = some d := by
  cases hx : Tryz.prog.underlying 26 with
  | none => rw [hx] at hu; cases hu
  | some d => exact ⟨d, rfl⟩
 rw [hd] at hu
 cases d <;> first
  | exact wpList_load_row hgd _ x ho g hx _ c (0, 0) _ h0 hd rfl (by rw [hc]; exact zgx) h
  | cases hu
theorem zg1 {fn : Func} {R : Ending -> World -> Prop} {a : Act} {w : World} (p u : Tmp) (hres : fn.results = #[.cell p 26, .tmp u]) (b : Nat) (hp : a.tmps.getD p undef = .pointer (some ⟨b, 0, none⟩))
 (c : Array Value) (hrow : zgy w b c) (hc : c.size = 11) (v : Value) (hv : a.tmps.getD u undef = v) (hd : a.defers = []) (hR : R (.returned (.tuple #[.agg c, v])) w) : bodyPost Tryz.prog fn R .ret a w := by
 refine bodyPost_ret (v := .tuple #[.agg c, v]) ?_ hd hR
 rw [results_cell_tmp hres, hp, hv]
 simp [asAddr, Result.andThen, zgz hrow hc]
theorem zg2 {fn : Func} {R : Ending -> World -> Prop} {a : Act} {w : World} (p : Tmp) (hres : fn.results = #[.cell p 26]) (b : Nat) (hp : a.tmps.getD p undef = .pointer (some ⟨b, 0, none⟩))
 (c : Array Value) (hrow : zgy w b c) (hc : c.size = 11) (hd : a.defers = []) (hR : R (.returned (.agg c)) w) : bodyPost Tryz.prog fn R .ret a w := by
 refine bodyPost_ret (v := .agg c) ?_ hd hR
 have hp' : a.tmps[p]?.getD undef = .pointer (some ⟨b, 0, none⟩) := by simpa using hp
 simp [results, hres, hp', asAddr, zgz hrow hc]
theorem zg3 (s : ByteArray) (w : World) : Calls Tryz.prog 63 #[.string s] w fun e w' => e = .returned (.agg (hc 1 s 0 z8)) /\ Below w.heap.size w w' := by
 go_enter Tryz.func63, Tryz.ntmps63
 go_wp2
 exact zg2 2 rfl w.heap.size rfl (hc 1 s 0 z8) (zat w _ _) rfl rfl ⟨rfl, (Below.refl _ _).alloc jH _⟩
theorem zg4 (v : Int) (w : World) : Calls Tryz.prog 65 #[.int .u32 v] w fun e w' => e = .returned (.agg (hc 2 ⟨#[]⟩ v z8)) /\ Below w.heap.size w w' := by
 go_enter Tryz.func65, Tryz.ntmps65
 go_wp2
 exact zg2 2 rfl w.heap.size rfl (hc 2 ⟨#[]⟩ v z8) (zat w _ _) rfl rfl ⟨rfl, (Below.refl _ _).alloc jH _⟩
theorem zg5 (g : List Nat) (hg : g.length = 8) (w : World) : Calls Tryz.prog 66 #[.agg (av g)] w fun e w' => e = .returned (.agg (hc 3 ⟨#[]⟩ 0 g)) /\ Below w.heap.size w w' := by
 match g, hg with
 | [a, b, c, d, x, f, i, j], _ =>
   rw [show av [a, b, c, d, x, f, i, j] = #[.int .u16 (a : Int), .int .u16 (b : Int), .int .u16 (c : Int), .int .u16 (d : Int), .int .u16 (x : Int), .int .u16 (f : Int), .int .u16 (i : Int), .int .u16 (j : Int)] from rfl]
   go_enter Tryz.func66, Tryz.ntmps66
   go_wp2
   refine zg2 2 rfl (w.heap.size + 1) rfl (hc 3 ⟨#[]⟩ 0 [a, b, c, d, x, f, i, j]) ?_ rfl rfl ⟨rfl, ((Below.refl _ _).alloc jH _).alloc (by simp) _⟩
   have := zat (w.alloc (.cells #[.int .u16 (a : Int), .int .u16 (b : Int), .int .u16 (c : Int), .int .u16 (d : Int), .int .u16 (x : Int), .int .u16 (f : Int), .int .u16 (i : Int), .int .u16 (j : Int)] 24)) (hc 3 ⟨#[]⟩ 0 [a, b, c, d, x, f, i, j]) 26
   rw [World.size_alloc] at this
   exact this
end

end Go.Proofs.YtekaljeicfjkjaaGreatDoor
