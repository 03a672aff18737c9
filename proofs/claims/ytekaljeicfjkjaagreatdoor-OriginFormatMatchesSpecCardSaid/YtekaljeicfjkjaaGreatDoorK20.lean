/-
strconv.ParseUint to the base 16 at a text of two bytes: the digits' loop.
Percent signs in plain words: what is left to be read. No program.
-/
import Derived.Test.YtekaljeicfjkjaaGreatDoorK07
import Derived.Test.YtekaljeicfjkjaaGreatDoorK02
import Derived.Test.YtekaljeicfjkjaaGreatDoorK03
import Derived.Test.YtekaljeicfjkjaaGreatDoorK19
import Derived.Lib.ConvBytes
import Derived.Laws.AppendOwn
import Derived.Test.YtekaljeicfjkjaaGreatDoorK04
namespace Go.Proofs.YtekaljeicfjkjaaGreatDoor
section
open Go.RowKit
set_option maxHeartbeats 16000000
theorem zep (w : World) (e : TypeId) (s : ByteArray) : Below w.heap.size w (Lib.bytesWorld w e s) :=
 ⟨rfl, rfl, rfl, by rw [Lib.bytesWorld_size]; omega, fun k hk => Lib.bytesWorld_at_old w e s k hk⟩
theorem zeq (w : World) (s : ByteArray) : ∃ c w1, (convert 9 72 (.string s)).run Tryz.prog w = .ok (.slice (some ⟨w.heap.size, 0, none⟩) s.size c) w1 /\
 Below w.heap.size w w1 /\ s.size <= c /\ ∀ k (h : k < s.size), w1.cell? ⟨w.heap.size, k, none⟩ = some (.int .u8 (s[k].toNat : Int)) := by
 refine ⟨_, _, Lib.run_convert_string_bytes (P := Tryz.prog) w _ _ _ s z33 z31 z32, zep w _ s, ?_, fun k h => ?_⟩
 ·exact grownCap_ge _ _ _ _
 ·rw [Lib.bytesWorld_cell w _ s k h]
  have : s.data.toList.getD k 0 = s[k] := by
   have h' : k < s.data.toList.length := by simpa using h
   rw [List.getD_eq_getElem?_getD, List.getElem?_eq_getElem h']
   rfl
  rw [this]
def zer (b : UInt8) : Nat := (b ||| 32).toNat
theorem zes (b : UInt8) : bits .or .u8 (b.toNat : Int) 32 = ((zer b : Nat) : Int) := by
 have key : ∀ n : Fin 256, bits .or .u8 ((UInt8.ofNat n.val).toNat : Int) 32 = ((zer (UInt8.ofNat n.val) : Nat) : Int) := by decide +kernel
 have := key ⟨b.toNat, b.toNat_lt⟩
 simpa using this
theorem zet (b : UInt8) (w : World) : Calls Tryz.prog 184 #[.int .u8 (b.toNat : Int)] w fun e w' => e = .returned (.int .u8 ((zer b : Nat) : Int)) /\ w' = w := by
 have h := zes b
 obtain ⟨y, hy⟩ : ∃ y : Int, y = (b.toNat : Int) := ⟨_, rfl⟩
 have hb := zce b
 rw [<- hy] at h hb ⊢
 have h0 : 0 <= y := by omega
 have HH := jL h
 clear h hy
 go_enter Tryz.func184, Tryz.ntmps184
 go_wp2
 go_ret
 exact ⟨zby HH.out, rfl⟩
theorem zeu (b : UInt8) : (48 <= b.toNat /\ b.toNat <= 57 /\ zqe b = b.toNat - 48) \/ ((b.toNat < 48 \/ 57 < b.toNat) /\ b.toNat ≠ 95 /\ 97 <= zer b /\ zer b <= 102 /\ zqe b = zer b - 87) \/
 ((b.toNat < 48 \/ 57 < b.toNat) /\ b.toNat ≠ 95 /\ 103 <= zer b /\ zer b <= 122 /\ zqe b = 99) \/ ((b.toNat < 48 \/ 57 < b.toNat) /\ b.toNat ≠ 95 /\ zer b < 97 /\ zqe b = 99) \/
 ((b.toNat < 48 \/ 57 < b.toNat) /\ 122 < zer b /\ 97 <= zer b /\ zqe b = 99) := by
 have key : ∀ n : Fin 256, (48 <= (UInt8.ofNat n.val).toNat /\ (UInt8.ofNat n.val).toNat <= 57 /\ zqe (UInt8.ofNat n.val) = (UInt8.ofNat n.val).toNat - 48) \/ (((UInt8.ofNat n.val).toNat < 48 \/ 57 < (UInt8.ofNat n.val).toNat) /\ (UInt8.ofNat n.val).toNat ≠ 95 /\ 97 <= zer (UInt8.ofNat n.val) /\ zer (UInt8.ofNat n.val) <= 102 /\ zqe (UInt8.ofNat n.val) = zer (UInt8.ofNat n.val) - 87) \/
  (((UInt8.ofNat n.val).toNat < 48 \/ 57 < (UInt8.ofNat n.val).toNat) /\ (UInt8.ofNat n.val).toNat ≠ 95 /\ 103 <= zer (UInt8.ofNat n.val) /\ zer (UInt8.ofNat n.val) <= 122 /\ zqe (UInt8.ofNat n.val) = 99) \/ (((UInt8.ofNat n.val).toNat < 48 \/ 57 < (UInt8.ofNat n.val).toNat) /\ (UInt8.ofNat n.val).toNat ≠ 95 /\ zer (UInt8.ofNat n.val) < 97 /\ zqe (UInt8.ofNat n.val) = 99) \/
  (((UInt8.ofNat n.val).toNat < 48 \/ 57 < (UInt8.ofNat n.val).toNat) /\ 122 < zer (UInt8.ofNat n.val) /\ 97 <= zer (UInt8.ofNat n.val) /\ zqe (UInt8.ofNat n.val) = 99) := by decide +kernel
 have := key ⟨b.toNat, b.toNat_lt⟩
 simpa using this
def zev (T : ByteArray) (w : World) (e : Ending) (w' : World) : Prop :=
 ((ls T).all (fun b => decide (zqe b < 16)) = true /\ e = .returned (.tuple #[.int .u64 ((zqf 16 0 (ls T) : Nat) : Int), .nilIface]) \/
   (ls T).all (fun b => decide (zqe b < 16)) = false /\ e = .returned (.tuple #[.int .u64 0, .iface 155 (.int .i64 2)])) /\ Below w.heap.size w w'
theorem zew {T : ByteArray} {k : Nat} (hk : k < T.size) (hd : zqe T[k] = 99) : (ls T).all (fun b => decide (zqe b < 16)) = false := by
 rw [List.all_eq_false]
 refine ⟨T[k], ?_, by rw [hd]; decide⟩
 have := List.getElem_mem (l := ls T) (n := k) (by rw [zb4]; exact hk)
 exact this
set_option maxRecDepth 20000 in
theorem zex (T : ByteArray) (hT : T.size = 2) (w : World) : Calls Tryz.prog 152 #[.string T, .int .i64 16, .int .i64 8] w (zev T w) := by
 obtain ⟨c, w1, hconv, hb1, hc, hcell⟩ := zeq w T
 have HC := jL hcell
 clear hcell
 have he : (T.toList == ([] : List UInt8)) = false := by
  rw [zb3, beq_eq_false_iff_ne]
  intro h
  have h2 : (ls T).length = 0 := by rw [h]; rfl
  rw [zb4] at h2
  omega
 have hsz : T.size <= 2 := by omega
 have HT := jL hT
 clear hT
 go_enter Tryz.func152, Tryz.ntmps152
 go_wp2
 go_loop [12, 13, 101] (fun u n i => ∃ (k v : Nat), k <= T.size /\ u = .bool false /\ i = .int .i64 k /\ n = .int .u64 v /\ v <= 255 /\ Hid ((k = 0 -> v = 0) /\ (k <= 1 -> v <= 15) /\ ((ls T).take k).all (fun b => decide (zqe b < 16)) = true /\ v = zqf 16 0 ((ls T).take k))) (fun _ _ i => T.size - (intOf i).toNat)
 case atStart => exact ⟨0, 0, Nat.zero_le _, rfl, rfl, rfl, by omega, jL ⟨fun _ => rfl, fun _ => by omega, rfl, rfl⟩⟩
 case round =>
  obtain ⟨k, v, hk, rfl, rfl, rfl, hv, HA⟩ := hrel
  by_cases hlt : k < T.size
  ·have hck := HC.out k hlt
   have c5 := fun W => zet T[k] W
   have hbl := zce T[k]
   have hv15 : v <= 15 := HA.out.2.1 (by omega)
   have hnext : ∀ d : Nat, zqe T[k] = d -> d < 16 -> ((ls T).take (k + 1)).all (fun b => decide (zqe b < 16)) = true /\ v * 16 + d = zqf 16 0 ((ls T).take (k + 1)) := by
    intro d hd hd16
    rw [zca T k hlt, List.all_append, HA.out.2.2.1, zqg, <- HA.out.2.2.2, zqf, zqf, hd]
    refine ⟨?_, rfl⟩
    simp [hd, hd16]
   have hstop : zqe T[k] = 99 -> (ls T).all (fun b => decide (zqe b < 16)) = false := fun h => zew hlt h
   have hkk := zeu T[k]
   obtain ⟨x, hx⟩ : ∃ x, x = zer T[k] := ⟨_, rfl⟩
   obtain ⟨yn, hyn⟩ : ∃ y, y = T[k].toNat := ⟨_, rfl⟩
   obtain ⟨dv, hdv⟩ : ∃ d, d = zqe T[k] := ⟨_, rfl⟩
   rw [<- hx, <- hyn, <- hdv] at hkk
   rw [<- hdv] at hnext hstop
   simp only [<- hx, <- hyn] at c5
   rw [<- hyn] at hck hbl
   obtain ⟨y, hy⟩ : ∃ y : Int, y = (yn : Int) := ⟨_, rfl⟩
   obtain ⟨xi, hxi⟩ : ∃ x' : Int, x' = (x : Int) := ⟨_, rfl⟩
   rw [<- hy] at hck hbl
   simp only [<- hy, <- hxi] at c5
   have HN := jL hnext
   have HS := jL hstop
   have HA0 := jL HA.out.1
   have hy0 : 0 <= y := by omega
   have hx0 : 0 <= xi := by omega
   have hv0 : (0 : Int) <= (v : Int) := by omega
   have tc : decide ((1152921504606846976 : Int) <= (v : Int)) = false := jF (by omega)
   clear hnext hstop HA hx hyn hdv
   rcases hkk with ⟨h1, h2, h3⟩ | ⟨h1, h9, h2, h4, h3⟩ | ⟨h1, h9, h2, h4, h3⟩ | ⟨h1, h9, h2, h3⟩ | ⟨h1, h2, h4, h3⟩
   ·have b1 : 48 <= y := by omega
    have b2 : y <= 57 := by omega
    have t1 : (y == 95) = false := by rw [beq_eq_false_iff_ne]; omega
    have t2 : decide ((48 : Int) <= y) = true := jT b1
    have t3 : decide (y <= (57 : Int)) = true := jT b2
    have t4 : decide ((16 : Int) <= y - 48) = false := jF (by omega)
    have t5 : decide ((v : Int) * 16 + (y - 48) < (v : Int) * 16) = false := jF (by omega)
    have t6 : decide ((255 : Int) < (v : Int) * 16 + (y - 48)) = false := jF (by omega)
    have HD : Hid ((v : Int) * 16 + (y - 48) = ((v * 16 + dv : Nat) : Int)) := by show _ = _; omega
    have HQ : Hid (dv < 16) := by show _ < _; omega
    have HV : Hid (v * 16 + dv <= 255) := by show _ <= _; omega
    clear h1 h2 h3 hy hxi
    go_wp2
    go_round
    case rel =>
     refine ⟨k + 1, v * 16 + dv, by omega, rfl, by go_num, by rw [HD.out], HV.out, jL ⟨fun h => by omega, fun h => ?_, HN.out dv rfl HQ.out⟩⟩
     have := HA0.out (by omega)
     have := HQ.out
     omega
    case measure => simp [intOf]; omega
   ·have t1 : (y == 95) = false := by rw [beq_eq_false_iff_ne]; omega
    have t2 : decide ((97 : Int) <= xi) = true := jT (by omega)
    have t3 : decide (xi <= (122 : Int)) = true := jT (by omega)
    have t4 : decide ((16 : Int) <= xi - 97 + 10) = false := jF (by omega)
    have b1 : 97 <= xi := by omega
    have b2 : xi <= 102 := by omega
    have t5 : decide ((v : Int) * 16 + (xi - 97 + 10) < (v : Int) * 16) = false := jF (by omega)
    have t6 : decide ((255 : Int) < (v : Int) * 16 + (xi - 97 + 10)) = false := jF (by omega)
    have HD : Hid ((v : Int) * 16 + (xi - 97 + 10) = ((v * 16 + dv : Nat) : Int)) := by show _ = _; omega
    have HQ : Hid (dv < 16) := by show _ < _; omega
    have HV : Hid (v * 16 + dv <= 255) := by show _ <= _; omega
    have h1' : y < 48 \/ 57 < y := by omega
    clear h1 h9 h2 h4 h3 hy hxi
    rcases h1' with h1 | h1
    ·have t7 : decide ((48 : Int) <= y) = false := jF (by omega)
     go_wp2_with (go_at_call 184; refine (c5 _).mono ?_; rintro e w9 ⟨rfl, rfl⟩)
     go_round
     case rel =>
      refine ⟨k + 1, v * 16 + dv, by omega, rfl, by go_num, by rw [HD.out], HV.out, jL ⟨fun h => by omega, fun h => ?_, HN.out dv rfl HQ.out⟩⟩
      have := HA0.out (by omega)
      have := HQ.out
      omega
     case measure => simp [intOf]; omega
    ·have t7 : decide ((48 : Int) <= y) = true := jT (by omega)
     have t8 : decide (y <= (57 : Int)) = false := jF (by omega)
     go_wp2_with (go_at_call 184; refine (c5 _).mono ?_; rintro e w9 ⟨rfl, rfl⟩)
     go_round
     case rel =>
      refine ⟨k + 1, v * 16 + dv, by omega, rfl, by go_num, by rw [HD.out], HV.out, jL ⟨fun h => by omega, fun h => ?_, HN.out dv rfl HQ.out⟩⟩
      have := HA0.out (by omega)
      have := HQ.out
      omega
     case measure => simp [intOf]; omega
   ·have t1 : (y == 95) = false := by rw [beq_eq_false_iff_ne]; omega
    have t2 : decide ((97 : Int) <= xi) = true := jT (by omega)
    have t3 : decide (xi <= (122 : Int)) = true := jT (by omega)
    have t4 : decide ((16 : Int) <= xi - 97 + 10) = true := jT (by omega)
    have b1 : 97 <= xi := by omega
    have b2 : xi <= 122 := by omega
    have HF := jL (HS.out h3)
    have h1' : y < 48 \/ 57 < y := by omega
    clear h1 h9 h2 h4 h3 hy hxi
    rcases h1' with h1 | h1
    ·have t7 : decide ((48 : Int) <= y) = false := jF (by omega)
     go_wp2_with (go_at_call 184; refine (c5 _).mono ?_; rintro e w9 ⟨rfl, rfl⟩)
     go_ret2
     exact ⟨.inr ⟨HF.out, rfl⟩, hb1⟩
    ·have t7 : decide ((48 : Int) <= y) = true := jT (by omega)
     have t8 : decide (y <= (57 : Int)) = false := jF (by omega)
     go_wp2_with (go_at_call 184; refine (c5 _).mono ?_; rintro e w9 ⟨rfl, rfl⟩)
     go_ret2
     exact ⟨.inr ⟨HF.out, rfl⟩, hb1⟩
   ·have t1 : (y == 95) = false := by rw [beq_eq_false_iff_ne]; omega
    have t2 : decide ((97 : Int) <= xi) = false := jF (by omega)
    have HF := jL (HS.out h3)
    have h1' : y < 48 \/ 57 < y := by omega
    clear h1 h9 h2 h3 hy hxi
    rcases h1' with h1 | h1
    ·have t7 : decide ((48 : Int) <= y) = false := jF (by omega)
     go_wp2_with (go_at_call 184; refine (c5 _).mono ?_; rintro e w9 ⟨rfl, rfl⟩)
     go_ret2
     exact ⟨.inr ⟨HF.out, rfl⟩, hb1⟩
    ·have t7 : decide ((48 : Int) <= y) = true := jT (by omega)
     have t8 : decide (y <= (57 : Int)) = false := jF (by omega)
     go_wp2_with (go_at_call 184; refine (c5 _).mono ?_; rintro e w9 ⟨rfl, rfl⟩)
     go_ret2
     exact ⟨.inr ⟨HF.out, rfl⟩, hb1⟩
   ·have t2 : decide ((97 : Int) <= xi) = true := jT (by omega)
    have t3 : decide (xi <= (122 : Int)) = false := jF (by omega)
    have HF := jL (HS.out h3)
    have h1' : y < 48 \/ 57 < y := by omega
    clear h1 h2 h4 h3 hy hxi
    rcases h1' with h1 | h1
    ·have t7 : decide ((48 : Int) <= y) = false := jF (by omega)
     have t1 : (y == 95) = false := by rw [beq_eq_false_iff_ne]; omega
     go_wp2_with (go_at_call 184; refine (c5 _).mono ?_; rintro e w9 ⟨rfl, rfl⟩)
     go_ret2
     exact ⟨.inr ⟨HF.out, rfl⟩, hb1⟩
    ·have t7 : decide ((48 : Int) <= y) = true := jT (by omega)
     have t8 : decide (y <= (57 : Int)) = false := jF (by omega)
     cases t1 : (y == 95) with
     | false =>
       go_wp2_with (go_at_call 184; refine (c5 _).mono ?_; rintro e w9 ⟨rfl, rfl⟩)
       go_ret2
       exact ⟨.inr ⟨HF.out, rfl⟩, hb1⟩
     | true =>
       go_wp2_with (go_at_call 184; refine (c5 _).mono ?_; rintro e w9 ⟨rfl, rfl⟩)
       go_ret2
       exact ⟨.inr ⟨HF.out, rfl⟩, hb1⟩
  ·obtain rfl : k = T.size := by omega
   have h1 := HA.out.2.2.1
   have h2 := HA.out.2.2.2
   rw [zcb] at h1 h2
   have HF := jL (And.intro h1 h2)
   clear h1 h2 HA
   go_wp2
   go_ret2
   refine ⟨.inl ⟨HF.out.1, ?_⟩, hb1⟩
   have h9 := HF.out.2
   clear HF
   subst h9
   rfl
end

section
open Go.RowKit
set_option maxHeartbeats 16000000
def zds (l : List UInt8) : Option Nat := if 2 <= l.length /\ zqe (l.getD 0 0) < 16 /\ zqe (l.getD 1 0) < 16 then some (16 * zqe (l.getD 0 0) + zqe (l.getD 1 0)) else none
theorem zdt {l : List UInt8} (h : l.length < 2) : zds l = none := by unfold zds; rw [if_neg (by omega)]
theorem zdu (r : List UInt8) : zg9 (37 :: r) = match zds r with
 | none => none
 | some v => (zg9 (r.drop 2)).map (UInt8.ofNat v :: ·) := by
 unfold zds
 by_cases h : 2 <= r.length /\ zqe (r.getD 0 0) < 16 /\ zqe (r.getD 1 0) < 16
 ·rw [if_pos h]
  match r, h with
  | x :: y :: t, h => exact zhd x y t h.2.1 h.2.2
 ·rw [if_neg h]
  exact zhe r h
theorem zdv {r : List UInt8} {v : Nat} (h : zds r = some v) : 2 <= r.length /\ v < 256 := by
 unfold zds at h
 split at h
 ·rename_i hc
  injection h with h
  exact ⟨hc.1, by omega⟩
 ·cases h
def zdw (V : Option (List UInt8)) (acc l : List UInt8) : Prop := (zg9 l).map (acc ++ ·) = V
theorem zdx {V : Option (List UInt8)} {acc l : List UInt8} {b : UInt8} (h : zdw V acc (b :: l)) (hb : b ≠ 37) : zdw V (acc ++ [b]) l := by
 unfold zdw at h ⊢
 rw [zhc b l hb, Option.map_map] at h
 rw [<- h]
 congr 1
 funext x
 simp
theorem zdy {V : Option (List UInt8)} {acc l : List UInt8} (h : zdw V acc (37 :: l)) (he : zds l = none) : V = none := by
 unfold zdw at h
 rw [zdu, he] at h
 exact h.symm
theorem zdz {V : Option (List UInt8)} {acc l : List UInt8} {v : Nat} (h : zdw V acc (37 :: l)) (he : zds l = some v) : zdw V (acc ++ [UInt8.ofNat v]) (l.drop 2) := by
 unfold zdw at h ⊢
 rw [zdu, he, Option.map_map] at h
 rw [<- h]
 congr 1
 funext x
 simp
theorem zd0 {V : Option (List UInt8)} {acc : List UInt8} (h : zdw V acc []) : V = some acc := by
 unfold zdw at h
 rw [zhb] at h
 rw [<- h]
 simp
end

end Go.Proofs.YtekaljeicfjkjaaGreatDoor
