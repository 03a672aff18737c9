/-
The two tables of unicode/utf8 lie in the world; what is made beside them leaves them there.
The library's own decoding of UTF-8 in the words of UtfP: what is valid, how many code points there are, the first one, the bytes of one. No program.
-/
import Derived.Test.YtekaljeicfjkjaaGreatDoorRows
import Derived.Shelf.Unicode.DecodeSlow
import Derived.Test.YtekaljeicfjkjaaGreatDoorK02
import Derived.Lib.ValidU
import Derived.Lib.ValidLaws
import Derived.Lib.MapLaws
import Derived.Lib.RuneCount
import Derived.Lib.RuneBytes
namespace Go.Proofs.YtekaljeicfjkjaaGreatDoor
section
open Go.RowKit
set_option maxHeartbeats 16000000
def U8 (w : World) : Prop := Lib.Utf8Tabs 2 3 w
theorem z4c {w w' : World} (h : U8 w) (hb : Below w.heap.size w w') : U8 w' := Utf8Tabs_below h hb
end

section
open Go.RowKit
set_option maxHeartbeats 16000000
def z95 (u least : Nat) : Prop := u < least \/ ¬ (u <= 1114111 /\ (u < 55296 \/ 57343 < u))
instance (u least : Nat) : Decidable (z95 u least) := by unfold z95; exact inferInstance
def z96 (n b0 b1 b2 b3 : Nat) : Option (Nat × Nat) :=
 if b0 < 128 then some (b0, 0)
 else if 194 <= b0 /\ b0 < 224 then (if 1 < n /\ 128 <= b1 /\ b1 <= 191 then some ((b0 - 192) * 64 + b1 - 128, 1) else none)
 else if 224 <= b0 /\ b0 < 240 then (if (1 < n /\ 128 <= b1 /\ b1 <= 191) /\ (2 < n /\ 128 <= b2 /\ b2 <= 191) then
  (if z95 (((b0 - 224) * 64 + b1 - 128) * 64 + b2 - 128) 2048 then none else some (((b0 - 224) * 64 + b1 - 128) * 64 + b2 - 128, 2)) else none)
 else if 240 <= b0 /\ b0 < 245 then (if (1 < n /\ 128 <= b1 /\ b1 <= 191) /\ (2 < n /\ 128 <= b2 /\ b2 <= 191) /\ (3 < n /\ 128 <= b3 /\ b3 <= 191) then
  (if z95 ((((b0 - 240) * 64 + b1 - 128) * 64 + b2 - 128) * 64 + b3 - 128) 65536 then none else some ((((b0 - 240) * 64 + b1 - 128) * 64 + b2 - 128) * 64 + b3 - 128, 3)) else none)
 else none
theorem z97 (u : Nat) : ptN u = true ↔ u <= 1114111 /\ (u < 55296 \/ 57343 < u) := by
 unfold ptN
 simp only [Bool.and_eq_true, Bool.or_eq_true, decide_eq_true_eq]
theorem z98 (u least : Nat) : (u < least \/ ptN u = false) ↔ z95 u least := by
 unfold z95
 rw [<- z97, Bool.not_eq_true]
theorem z99 (b : UInt8) (l : List UInt8) (h : 194 <= b.toNat /\ b.toNat < 224) : yao b l = z96 (l.length + 1) b.toNat (l.getD 0 0).toNat (l.getD 1 0).toNat (l.getD 2 0).toNat := by
 have e : yam b.toNat = some (1, b.toNat - 192, 128) := by unfold yam; rw [if_neg (by omega), if_pos h]
 unfold yao z96
 rw [e, if_neg (by omega), if_pos h]
 rcases l with _ | ⟨c, t⟩
 ·rw [if_neg (by simp)]
  rfl
 ·simp only [yan]
  rw [show ((c :: t).getD 0 0) = c from rfl]
  by_cases hc : 128 <= c.toNat /\ c.toNat <= 191
  ·rw [if_pos hc, if_pos ⟨by simp, hc⟩]
   simp only []
   rw [if_neg]
   rw [z98]
   unfold z95
   omega
  ·rw [if_neg hc, if_neg (fun x => hc x.2)]
theorem yaa (b : UInt8) (l : List UInt8) (h : 224 <= b.toNat /\ b.toNat < 240) : yao b l = z96 (l.length + 1) b.toNat (l.getD 0 0).toNat (l.getD 1 0).toNat (l.getD 2 0).toNat := by
 have e : yam b.toNat = some (2, b.toNat - 224, 2048) := by unfold yam; rw [if_neg (by omega), if_neg (by omega), if_pos h]
 unfold yao z96
 rw [e, if_neg (by omega), if_neg (by omega), if_pos h]
 rcases l with _ | ⟨c, _ | ⟨d, t⟩⟩
 ·rw [if_neg (by simp)]
  rfl
 ·rw [if_neg (by simp)]
  simp only [yan]
  by_cases hc : 128 <= c.toNat /\ c.toNat <= 191
  ·rw [if_pos hc]
  ·rw [if_neg hc]
 ·simp only [yan]
  rw [show ((c :: d :: t).getD 0 0) = c from rfl, show ((c :: d :: t).getD 1 0) = d from rfl]
  by_cases hc : 128 <= c.toNat /\ c.toNat <= 191
  ·by_cases hd : 128 <= d.toNat /\ d.toNat <= 191
   ·rw [if_pos hc, if_pos hd, if_pos ⟨⟨by simp, hc⟩, ⟨by simp, hd⟩⟩]
    simp only [z98]
   ·rw [if_pos hc, if_neg hd, if_neg (fun x => hd x.2.2)]
  ·rw [if_neg hc, if_neg (fun x => hc x.1.2)]
theorem yab (b : UInt8) (l : List UInt8) (h : 240 <= b.toNat /\ b.toNat < 245) : yao b l = z96 (l.length + 1) b.toNat (l.getD 0 0).toNat (l.getD 1 0).toNat (l.getD 2 0).toNat := by
 have e : yam b.toNat = some (3, b.toNat - 240, 65536) := by unfold yam; rw [if_neg (by omega), if_neg (by omega), if_neg (by omega), if_pos h]
 unfold yao z96
 rw [e, if_neg (by omega), if_neg (by omega), if_neg (by omega), if_pos h]
 rcases l with _ | ⟨c, _ | ⟨d, _ | ⟨g, t⟩⟩⟩
 ·rw [if_neg (by simp)]
  rfl
 ·rw [if_neg (by simp)]
  simp only [yan]
  by_cases hc : 128 <= c.toNat /\ c.toNat <= 191
  ·rw [if_pos hc]
  ·rw [if_neg hc]
 ·rw [if_neg (by simp)]
  simp only [yan]
  by_cases hc : 128 <= c.toNat /\ c.toNat <= 191
  ·by_cases hd : 128 <= d.toNat /\ d.toNat <= 191
   ·rw [if_pos hc, if_pos hd]
   ·rw [if_pos hc, if_neg hd]
  ·rw [if_neg hc]
 ·simp only [yan]
  rw [show ((c :: d :: g :: t).getD 0 0) = c from rfl, show ((c :: d :: g :: t).getD 1 0) = d from rfl, show ((c :: d :: g :: t).getD 2 0) = g from rfl]
  by_cases hc : 128 <= c.toNat /\ c.toNat <= 191
  ·by_cases hd : 128 <= d.toNat /\ d.toNat <= 191
   ·by_cases hg : 128 <= g.toNat /\ g.toNat <= 191
    ·rw [if_pos hc, if_pos hd, if_pos hg, if_pos ⟨⟨by simp, hc⟩, ⟨by simp, hd⟩, ⟨by simp, hg⟩⟩]
     simp only [z98]
    ·rw [if_pos hc, if_pos hd, if_neg hg, if_neg (fun x => hg x.2.2.2)]
   ·rw [if_pos hc, if_neg hd, if_neg (fun x => hd x.2.1.2)]
  ·rw [if_neg hc, if_neg (fun x => hc x.1.2)]
theorem yac (b : UInt8) (l : List UInt8) : yao b l = z96 (l.length + 1) b.toNat (l.getD 0 0).toNat (l.getD 1 0).toNat (l.getD 2 0).toNat := by
 by_cases h1 : b.toNat < 128
 ·have e : yam b.toNat = some (0, b.toNat, 0) := by unfold yam; rw [if_pos h1]
  unfold yao z96
  rw [e, if_pos h1]
  simp only [yan]
  rw [if_neg]
  rw [z98]
  unfold z95
  omega
 ·by_cases h2 : 194 <= b.toNat /\ b.toNat < 224
  ·exact z99 b l h2
  ·by_cases h3 : 224 <= b.toNat /\ b.toNat < 240
   ·exact yaa b l h3
   ·by_cases h4 : 240 <= b.toNat /\ b.toNat < 245
    ·exact yab b l h4
    ·have e : yam b.toNat = none := by unfold yam; rw [if_neg h1, if_neg h2, if_neg h3, if_neg h4]
     unfold yao z96
     rw [e, if_neg h1, if_neg h2, if_neg h3, if_neg h4]
theorem yad (n b0 b1 b2 b3 : Nat) (h0 : b0 < 256) (h1 : b1 < 256) (h2 : b2 < 256) (h3 : b3 < 256) :
 (z96 n b0 b1 b2 b3 = none /\ Lib.decodeN n b0 b1 b2 b3 = (65533, 1)) \/ ∃ u k, z96 n b0 b1 b2 b3 = some (u, k) /\ Lib.decodeN n b0 b1 b2 b3 = (u, k + 1) /\ (128 <= b0 -> 1 <= k) := by
 by_cases c1 : b0 < 128
 ·refine .inr ⟨b0, 0, ?_, ?_, by omega⟩
  ·unfold z96; rw [if_pos c1]
  ·unfold Lib.decodeN; rw [if_pos c1]
 ·by_cases c2 : 194 <= b0 /\ b0 < 224
  ·have e : z96 n b0 b1 b2 b3 = if 1 < n /\ 128 <= b1 /\ b1 <= 191 then some ((b0 - 192) * 64 + b1 - 128, 1) else none := by unfold z96; rw [if_neg c1, if_pos c2]
   by_cases c : 1 < n /\ 128 <= b1 /\ b1 <= 191
   ·refine .inr ⟨_, 1, by rw [e, if_pos c], ?_, by omega⟩
    unfold Lib.decodeN
    rw [if_neg c1, if_pos ⟨by omega, by omega, by omega⟩, if_pos (by omega), show b0 % 32 * 64 + b1 % 64 = (b0 - 192) * 64 + b1 - 128 by omega]
   ·refine .inl ⟨by rw [e, if_neg c], ?_⟩
    unfold Lib.decodeN
    rw [if_neg c1, if_neg (by omega), if_neg (by omega), if_neg (by omega)]
  ·by_cases c3 : 224 <= b0 /\ b0 < 240
   ·have e : z96 n b0 b1 b2 b3 = if (1 < n /\ 128 <= b1 /\ b1 <= 191) /\ (2 < n /\ 128 <= b2 /\ b2 <= 191) then (if z95 (((b0 - 224) * 64 + b1 - 128) * 64 + b2 - 128) 2048 then none else some (((b0 - 224) * 64 + b1 - 128) * 64 + b2 - 128, 2)) else none := by
     unfold z96; rw [if_neg c1, if_neg c2, if_pos c3]
    by_cases c : (1 < n /\ 128 <= b1 /\ b1 <= 191) /\ (2 < n /\ 128 <= b2 /\ b2 <= 191)
    ·have es : b0 % 16 * 4096 + b1 % 64 * 64 + b2 % 64 = ((b0 - 224) * 64 + b1 - 128) * 64 + b2 - 128 := by omega
     rw [if_pos c] at e
     have hD : Lib.decodeN n b0 b1 b2 b3 = if b0 % 16 * 4096 + b1 % 64 * 64 + b2 % 64 >= 2048 /\ (b0 % 16 * 4096 + b1 % 64 * 64 + b2 % 64 < 55296 \/ (57344 <= b0 % 16 * 4096 + b1 % 64 * 64 + b2 % 64 /\ b0 % 16 * 4096 + b1 % 64 * 64 + b2 % 64 <= 1114111)) then (b0 % 16 * 4096 + b1 % 64 * 64 + b2 % 64, 3) else (65533, 1) := by
      unfold Lib.decodeN
      rw [if_neg c1, if_neg (by omega), if_pos ⟨by omega, by omega, by omega⟩]
     rw [es] at hD
     rw [e, hD]
     generalize ((b0 - 224) * 64 + b1 - 128) * 64 + b2 - 128 = u
     by_cases cb : z95 u 2048
     ·refine .inl ⟨if_pos cb, ?_⟩
      rw [if_neg (by unfold z95 at cb; omega)]
     ·refine .inr ⟨u, 2, if_neg cb, ?_, by omega⟩
      rw [if_pos (by unfold z95 at cb; omega)]
    ·refine .inl ⟨by rw [e, if_neg c], ?_⟩
     unfold Lib.decodeN
     rw [if_neg c1, if_neg (by omega), if_neg (by omega), if_neg (by omega)]
   ·by_cases c4 : 240 <= b0 /\ b0 < 245
    ·have e : z96 n b0 b1 b2 b3 = if (1 < n /\ 128 <= b1 /\ b1 <= 191) /\ (2 < n /\ 128 <= b2 /\ b2 <= 191) /\ (3 < n /\ 128 <= b3 /\ b3 <= 191) then
      (if z95 ((((b0 - 240) * 64 + b1 - 128) * 64 + b2 - 128) * 64 + b3 - 128) 65536 then none else some ((((b0 - 240) * 64 + b1 - 128) * 64 + b2 - 128) * 64 + b3 - 128, 3)) else none := by
      unfold z96; rw [if_neg c1, if_neg c2, if_neg c3, if_pos c4]
     by_cases c : (1 < n /\ 128 <= b1 /\ b1 <= 191) /\ (2 < n /\ 128 <= b2 /\ b2 <= 191) /\ (3 < n /\ 128 <= b3 /\ b3 <= 191)
     ·have es : b0 % 8 * 262144 + b1 % 64 * 4096 + b2 % 64 * 64 + b3 % 64 = (((b0 - 240) * 64 + b1 - 128) * 64 + b2 - 128) * 64 + b3 - 128 := by omega
      rw [if_pos c] at e
      have hD : Lib.decodeN n b0 b1 b2 b3 = if b0 % 8 * 262144 + b1 % 64 * 4096 + b2 % 64 * 64 + b3 % 64 >= 65536 /\ (b0 % 8 * 262144 + b1 % 64 * 4096 + b2 % 64 * 64 + b3 % 64 < 55296 \/ (57344 <= b0 % 8 * 262144 + b1 % 64 * 4096 + b2 % 64 * 64 + b3 % 64 /\ b0 % 8 * 262144 + b1 % 64 * 4096 + b2 % 64 * 64 + b3 % 64 <= 1114111)) then (b0 % 8 * 262144 + b1 % 64 * 4096 + b2 % 64 * 64 + b3 % 64, 4) else (65533, 1) := by
       unfold Lib.decodeN
       rw [if_neg c1, if_neg (by omega), if_neg (by omega), if_pos ⟨by omega, by omega, by omega, by omega⟩]
      rw [es] at hD
      rw [e, hD]
      generalize (((b0 - 240) * 64 + b1 - 128) * 64 + b2 - 128) * 64 + b3 - 128 = u
      by_cases cb : z95 u 65536
      ·refine .inl ⟨if_pos cb, ?_⟩
       rw [if_neg (by unfold z95 at cb; omega)]
      ·refine .inr ⟨u, 3, if_neg cb, ?_, by omega⟩
       rw [if_pos (by unfold z95 at cb; omega)]
     ·refine .inl ⟨by rw [e, if_neg c], ?_⟩
      unfold Lib.decodeN
      rw [if_neg c1, if_neg (by omega), if_neg (by omega), if_neg (by omega)]
    ·have e : z96 n b0 b1 b2 b3 = none := by unfold z96; rw [if_neg c1, if_neg c2, if_neg c3, if_neg c4]
     exact .inl ⟨e, Lib.decodeN_bad n b0 b1 b2 b3 (by omega)⟩
theorem yae (b : UInt8) (l : List UInt8) :
 (yao b l = none /\ Lib.decodeL (b :: l) = (65533, 1)) \/ ∃ u k, yao b l = some (u, k) /\ Lib.decodeL (b :: l) = (u, k + 1) /\ ¬ (u = 65533 /\ k + 1 = 1) := by
 rw [yac, Lib.decodeL_N]
 have e : ∀ i, (b :: l).getD (i + 1) 0 = l.getD i 0 := fun i => rfl
 rw [e 0, e 1, e 2, show (b :: l).getD 0 0 = b from rfl, List.length_cons]
 rcases yad (l.length + 1) b.toNat (l.getD 0 0).toNat (l.getD 1 0).toNat (l.getD 2 0).toNat b.toNat_lt (UInt8.toNat_lt _) (UInt8.toNat_lt _) (UInt8.toNat_lt _) with h | ⟨u, k, h1, h2, h3⟩
 ·exact .inl h
 ·refine .inr ⟨u, k, h1, h2, ?_⟩
  rintro ⟨hu, hk⟩
  by_cases hb : 128 <= b.toNat
  ·have := h3 hb
   omega
  ·unfold z96 at h1
   rw [if_pos (by omega)] at h1
   obtain ⟨e1, _⟩ := Prod.mk.inj (Option.some.inj h1)
   omega
theorem yaf : ∀ (f : Nat) (l : List UInt8), l.length <= f -> Lib.validGoD f l = (yaq l).isSome
 | 0, l, h => by
   have : l = [] := List.eq_nil_of_length_eq_zero (by omega)
   subst this
   rfl
 | f + 1, [], _ => rfl
 | f + 1, b :: l, h => by
   rw [Lib.validGoD, if_neg (by simp), yav]
   rcases yae b l with ⟨h1, h2⟩ | ⟨u, k, h1, h2, h3⟩
   ·rw [h1, h2]
    rfl
   ·rw [h1, h2]
    simp only []
    rw [if_neg h3, List.drop_succ_cons, yaf f (l.drop k) (by simp at h ⊢; omega)]
    cases yaq (l.drop k) <;> rfl
theorem yag (s : ByteArray) : Lib.validD s.data.toList = (yaq (ls s)).isSome := yaf _ _ jH
theorem yah (s : ByteArray) (pos : Nat) : Utf8.decode s pos = Lib.decodeL ((ls s).drop pos) := (Lib.decodeL_drop s pos).symm
theorem yai (s : ByteArray) : ∀ (f pos : Nat) (P : List Nat), s.size <= pos + f -> yaq ((ls s).drop pos) = some P -> Lib.runeCountFrom s f pos = P.length
 | f, pos, P, hf, hp => by
   by_cases hlt : pos < s.size
   ·obtain ⟨g, rfl⟩ : ∃ g, f = g + 1 := ⟨f - 1, by omega⟩
    have hdr := zcc s pos hlt
    rw [hdr, yav] at hp
    rw [Lib.runeCountFrom, if_pos hlt, yah, hdr]
    rcases yae s[pos] ((ls s).drop (pos + 1)) with ⟨h1, h2⟩ | ⟨u, k, h1, h2, _⟩
    ·rw [h1] at hp
     cases hp
    ·rw [h1] at hp
     simp only [Option.map_eq_some_iff] at hp
     obtain ⟨Q, hQ, rfl⟩ := hp
     rw [List.drop_drop] at hQ
     rw [h2]
     simp only []
     rw [yai s g (pos + (k + 1)) Q (by omega) (by rw [show pos + (k + 1) = pos + 1 + k by omega]; exact hQ), List.length_cons]
     omega
   ·have : (ls s).drop pos = [] := List.drop_eq_nil_of_le (by rw [zb4]; omega)
    rw [this] at hp
    injection hp with hp
    subst hp
    rw [Lib.runeCountFrom_end s f pos hlt]
    rfl
theorem yaj {s : ByteArray} {P : List Nat} (h : yaq (ls s) = some P) : Lib.runeCount s = P.length :=
 yai s s.size 0 P (by omega) (by rw [List.drop_zero]; exact h)
theorem yak {s : ByteArray} {p : Nat} {P : List Nat} (h : yaq (ls s) = some (p :: P)) :
 ∃ k, Utf8.decode s 0 = (p, k) /\ 1 <= k /\ k <= s.size /\ yaq ((ls s).drop k) = some P := by
 rw [yah, List.drop_zero]
 cases hl : ls s with
 | nil => rw [hl, yaw] at h; cases h
 | cons b l =>
   rw [hl, yav] at h
   rcases yae b l with ⟨h1, h2⟩ | ⟨u, k, h1, h2, _⟩
   ·rw [h1] at h; cases h
   ·rw [h1] at h
    simp only [Option.map_eq_some_iff, List.cons.injEq] at h
    obtain ⟨Q, hQ, rfl, rfl⟩ := h
    obtain ⟨_, h4, _⟩ := ya4 h1
    refine ⟨k + 1, h2, by omega, ?_, by rw [List.drop_succ_cons]; exact hQ⟩
    rw [<- zb4, hl, List.length_cons]
    omega
theorem yal {p : Nat} (h : ptN p = true) : Lib.runeCells (p : Int) = (yar p).map bv := by
 rw [z97] at h
 unfold Lib.runeCells yar
 by_cases c1 : p < 128
 ·rw [Lib.encodeRuneZ_one (by omega) (by omega), if_pos c1]
  simp only [List.map_cons, List.map_nil, zcf]
  rw [of8 (by omega)]
 ·by_cases c2 : p < 2048
  ·rw [Lib.encodeRuneZ_two (by omega) (by omega), if_neg c1, if_pos c2]
   simp only [List.map_cons, List.map_nil, zcf]
   rw [of8 (by omega), of8 (by omega)]
   rfl
  ·by_cases c3 : p < 65536
   ·rw [Lib.encodeRuneZ_three (by omega), if_neg c1, if_neg c2, if_pos c3]
    simp only [List.map_cons, List.map_nil, zcf]
    rw [of8 (by omega), of8 (by omega), of8 (by omega)]
    rfl
   ·rw [Lib.encodeRuneZ_four (by omega) (by omega), if_neg c1, if_neg c2, if_neg c3]
    simp only [List.map_cons, List.map_nil, zcf]
    rw [of8 (by omega), of8 (by omega), of8 (by omega), of8 (by omega)]
    rfl
end

end Go.Proofs.YtekaljeicfjkjaaGreatDoor
