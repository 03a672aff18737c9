/-
Hosts in plain words: percent signs, names, what parsing answers, the text, and their laws. No program.
Superdomains and covering in plain words, and their laws. No program.
The text of an address, step by step: no program.
Lists of bytes cut at the first byte of a kind. No program.
-/
import Derived.Test.YtekaljeicfjkjaaGreatDoorJ02
import Derived.Test.YtekaljeicfjkjaaGreatDoorJ03
import Derived.Test.YtekaljeicfjkjaaGreatDoorJ00
import Derived.Lib.Bytealg
namespace Go.Proofs.YtekaljeicfjkjaaGreatDoor
section
open Go.RowKit
set_option maxHeartbeats 16000000
structure Hv where
 kind : Int
 name : List UInt8
 v4 : Nat
 v6 : List Nat
def z8 : List Nat := zm8 8
def hv0 : Hv := ⟨0, [], 0, z8⟩
def hvD (n : List UInt8) : Hv := ⟨1, n, 0, z8⟩
def hv4 (v : Nat) : Hv := ⟨2, [], v, z8⟩
def hv6 (g : List Nat) : Hv := ⟨3, [], 0, g⟩
def Hv.Wf (h : Hv) : Prop := h.v4 < 4294967296 /\ h.v6.length = 8 /\ G16 h.v6
def zgy : Nat -> List UInt8 -> Option (List UInt8)
 | _, [] => some []
 | 0, _ :: _ => none
 | f + 1, b :: r => if b ≠ 37 then (zgy f r).map (b :: ·)
   else if 2 <= r.length /\ zph (r.getD 0 0) < 16 /\ zph (r.getD 1 0) < 16 then (zgy f (r.drop 2)).map (UInt8.ofNat (16 * zph (r.getD 0 0) + zph (r.getD 1 0)) :: ·) else none
def zgz (l : List UInt8) : Option (List UInt8) := zgy l.length l
theorem zg0 : ∀ (f g : Nat) (l : List UInt8), l.length <= f -> l.length <= g -> zgy f l = zgy g l
 | f, g, [], _, _ => by cases f <;> cases g <;> rfl
 | 0, g, b :: l, h, _ => by simp at h
 | f, 0, b :: l, _, h => by simp at h
 | f + 1, g + 1, b :: l, hf, hg => by
   rw [zgy, zgy]
   simp only [List.length_cons] at hf hg
   rw [zg0 f g l (by omega) (by omega), zg0 f g (l.drop 2) (by rw [List.length_drop]; omega) (by rw [List.length_drop]; omega)]
theorem zg1 : zgz [] = some [] := rfl
theorem zg2 (b : UInt8) (r : List UInt8) (h : b ≠ 37) : zgz (b :: r) = (zgz r).map (b :: ·) := by
 unfold zgz
 rw [List.length_cons, zgy, if_pos h]
theorem zg3 (x y : UInt8) (t : List UInt8) (hx : zph x < 16) (hy : zph y < 16) : zgz (37 :: x :: y :: t) = (zgz t).map (UInt8.ofNat (16 * zph x + zph y) :: ·) := by
 unfold zgz
 rw [List.length_cons, zgy, if_neg (by simp), if_pos ⟨by simp, hx, hy⟩]
 rw [show (x :: y :: t).drop 2 = t from rfl, zg0 (x :: y :: t).length t.length t (by simp; omega) jH]
 rfl
theorem zg4 (r : List UInt8) (h : ¬ (2 <= r.length /\ zph (r.getD 0 0) < 16 /\ zph (r.getD 1 0) < 16)) : zgz (37 :: r) = none := by
 unfold zgz
 rw [List.length_cons, zgy, if_neg (by simp), if_neg h]
theorem zg5 : ∀ (l : List UInt8), (∀ b ∈ l, b ≠ 37) -> zgz l = some l
 | [], _ => rfl
 | b :: l, h => by rw [zg2 b l (h b (by simp)), zg5 l (fun c hc => h c (by simp [hc]))]; rfl
def zg6 : List (List UInt8) -> Nat × List (List UInt8)
 | [] => (0, [])
 | l :: r => if (toA l).1 = 0 then (if (zg6 r).1 = 0 then (0, (toA l).2 :: (zg6 r).2) else ((zg6 r).1, [])) else ((toA l).1, [])
theorem zg7 : ∀ p : List (List UInt8), zg6 (p.map zbk) = zg6 p
 | [] => rfl
 | l :: r => by rw [List.map_cons, zg6, zg6, zse, zg7 r]
theorem zg8 : ∀ p : List (List UInt8), (∀ x ∈ p, zr7 x = true) -> zg6 p = (0, p)
 | [], _ => rfl
 | l :: r, h => by rw [zg6, zsd (h l (by simp)), zg8 r (fun x hx => h x (by simp [hx]))]; rfl
theorem zg9 : ∀ (p q : List (List UInt8)), zg6 p = (0, q) -> (∀ x ∈ q, zr7 x = true) /\ q.length = p.length
 | [], q, h => by
   obtain ⟨_, rfl⟩ := Prod.mk.inj h
   exact ⟨by simp, rfl⟩
 | l :: r, q, h => by
   rw [zg6] at h
   split at h
   ·rename_i h0
    split at h
    ·rename_i h1
     obtain ⟨_, rfl⟩ := Prod.mk.inj h
     obtain ⟨i1, i2⟩ := zg9 r (zg6 r).2 (by rw [<- h1])
     refine ⟨?_, by rw [List.length_cons, i2, List.length_cons]⟩
     intro x hx
     rcases List.mem_cons.1 hx with rfl | hx
     ·rcases zsf l with ⟨_, h2⟩ | ⟨h2, _⟩
      ·exact h2
      ·exact absurd h0 h2
     ·exact i1 x hx
    ·rename_i h1
     obtain ⟨h2, _⟩ := Prod.mk.inj h
     exact absurd h2 h1
   ·rename_i h0
    obtain ⟨h2, _⟩ := Prod.mk.inj h
    exact absurd h2 h0
def vnL (n : List UInt8) : Bool := decide (n ≠ []) && decide (n.length <= 253) && !zpn n && (z2m 46 n).all zr7
structure Vn (n : List UInt8) : Prop where
 ne : n ≠ []
 len : n.length <= 253
 num : zpn n = false
 lab : ∀ x ∈ z2m 46 n, zr7 x = true
theorem zha (n : List UInt8) : vnL n = true ↔ Vn n := by
 unfold vnL
 simp only [Bool.and_eq_true, decide_eq_true_eq, Bool.not_eq_true', List.all_eq_true]
 exact ⟨fun ⟨⟨⟨a, b⟩, c⟩, d⟩ => ⟨a, b, c, d⟩, fun h => ⟨⟨⟨h.ne, h.len⟩, h.num⟩, h.lab⟩⟩
theorem zhb {l : List UInt8} (h : zr7 l = true) : ∀ b ∈ l, okN b.toNat = true := by
 unfold zr7 at h
 simp only [Bool.and_eq_true] at h
 exact fun b hb => List.all_eq_true.1 h.1.2 b hb
theorem zhc {l : List UInt8} (h : zr7 l = true) : l ≠ [] := by
 rintro rfl
 cases h
theorem zhd {b : UInt8} (h : okN b.toNat = true) : b ≠ 37 /\ b ≠ 46 /\ b ≠ 91 /\ b ≠ 93 := by
 unfold okN at h
 simp only [Bool.or_eq_true, Bool.and_eq_true, decide_eq_true_eq, beq_iff_eq] at h
 refine ⟨?_, ?_, ?_, ?_⟩ <;> (rintro rfl; revert h; decide)
theorem zhe (c : UInt8) : ∀ (p : List (List UInt8)) (b : UInt8), b ∈ z2v c p -> b = c \/ ∃ x ∈ p, b ∈ x
 | [], b, h => by cases h
 | [a], b, h => .inr ⟨a, by simp, h⟩
 | a :: d :: r, b, h => by
   rw [z2v, List.mem_append, List.mem_cons] at h
   rcases h with h | h | h
   ·exact .inr ⟨a, by simp, h⟩
   ·exact .inl h
   ·rcases zhe c (d :: r) b h with h | ⟨x, hx, hb⟩
    ·exact .inl h
    ·exact .inr ⟨x, by simp at hx ⊢; exact .inr hx, hb⟩
theorem zhf {p : List (List UInt8)} (h : ∀ x ∈ p, zr7 x = true) : ∀ x ∈ p, noB 46 x := fun x hx b hb => (zhd (zhb (h x hx) b hb)).2.1
theorem zhg {p : List (List UInt8)} (h : ∀ x ∈ p, zr7 x = true) : ∀ b ∈ z2v 46 p, b = 46 \/ okN b.toNat = true := by
 intro b hb
 rcases zhe 46 p b hb with hb | ⟨x, hx, hb⟩
 ·exact .inl hb
 ·exact .inr (zhb (h x hx) b hb)
theorem Vn.bytes {n : List UInt8} (h : Vn n) : ∀ b ∈ n, b = 46 \/ okN b.toNat = true := by
 have := zhg h.lab
 rwa [z2y] at this
theorem Vn.byte_not {n : List UInt8} (h : Vn n) : ∀ b ∈ n, b ≠ 37 /\ b ≠ 91 /\ b ≠ 93 := by
 intro b hb
 rcases h.bytes b hb with rfl | hb
 ·decide
 ·exact ⟨(zhd hb).1, (zhd hb).2.2.1, (zhd hb).2.2.2⟩
theorem Vn.low {n : List UInt8} (h : Vn n) : ∀ b ∈ n, zbf b = b /\ b.toNat < 128 := by
 intro b hb
 rcases h.bytes b hb with rfl | hb
 ·exact ⟨by decide, by decide⟩
 ·have := zsa hb
  exact ⟨ya4 (by omega), this.1⟩
theorem zhh {m : List UInt8} (h : ∀ x ∈ z2m 46 (m ++ [46]), zr7 x = true) : False := by
 have : z2m 46 (m ++ [46]) = z2m 46 m ++ [[]] := z20 46 m []
 rw [this] at h
 exact zhc (h [] (by simp)) rfl
theorem Vn.last {n : List UInt8} (h : Vn n) : n.getLast? ≠ some 46 := by
 intro hl
 obtain ⟨m, rfl⟩ := List.getLast?_eq_some_iff.1 hl
 exact zhh h.lab
theorem zhi {n : List UInt8} (h : n.getLast? ≠ some 46) : zq0 n = n := by unfold zq0; rw [if_neg h]
theorem zhj {q : List (List UInt8)} (h : ∀ x ∈ q, zr7 x = true) (hq : q ≠ []) (hl : (z2v 46 q).length <= 253) (hn : zpn (z2v 46 q) = false) : Vn (z2v 46 q) := by
 refine ⟨?_, hl, hn, ?_⟩
 ·cases q with
  | nil => exact absurd rfl hq
  | cons a r =>
    have ha := zhc (h a (by simp))
    cases r with
    | nil => exact ha
    | cons b r => rw [z2v]; simp
 ·rw [z2z 46 q hq (zhf h)]
  exact h
def zhk (s : List UInt8) : Nat × Hv :=
 if zpn s = true then (match pnL s with
  | none => (14, hv0)
  | some v => (0, hv4 v))
 else if (zg6 (z2m 46 s)).1 = 0 then
  (if 253 < (z2v 46 (zg6 (z2m 46 s)).2).length then (3, hv0) else if zpn (z2v 46 (zg6 (z2m 46 s)).2) = true then (14, hv0) else (0, hvD (z2v 46 (zg6 (z2m 46 s)).2)))
 else ((zg6 (z2m 46 s)).1, hv0)
def zhl (raw : List UInt8) : Nat × Hv := if raw.getLast? ≠ some 93 \/ raw.length < 2 then (14, hv0) else match zm9 ((raw.drop 1).dropLast) with
 | none => (14, hv0)
 | some g => (0, hv6 g)
def zhm (raw : List UInt8) : Nat × Hv :=
 if 1024 < raw.length then (3, hv0)
 else if raw.head? = some 91 then zhl raw
 else match zgz raw with
  | none => (14, hv0)
  | some s => zhk (zq0 s)
def zhn (h : Hv) : Bool := if h.kind = 1 then vnL h.name && h.v4 == 0 && h.v6 == z8 else if h.kind = 2 then h.name.isEmpty && h.v6 == z8 else if h.kind = 3 then h.name.isEmpty && h.v4 == 0 else false
def zho (h : Hv) : List UInt8 := if h.kind = 1 then h.name else if h.kind = 2 then zps h.v4 else 91 :: (znf h.v6 ++ [93])
def zhp (h : Hv) : List UInt8 := if zhn h = true then zho h else []
theorem zhq (b : UInt8) : zph (zbf b) = zph b := by
 have key : ∀ n : Fin 256, zph (zbf (UInt8.ofNat n.val)) = zph (UInt8.ofNat n.val) := by decide +kernel
 have := key ⟨b.toNat, b.toNat_lt⟩
 simpa using this
theorem zhr (b : UInt8) : zbe (zbf b) = zbe b := by
 have key : ∀ n : Fin 256, zbe (zbf (UInt8.ofNat n.val)) = zbe (UInt8.ofNat n.val) := by decide +kernel
 have := key ⟨b.toNat, b.toNat_lt⟩
 simpa using this
theorem zhs (b : UInt8) : (zbf b == 120 || zbf b == 88) = (b == 120 || b == 88) := by
 have key : ∀ n : Fin 256, (zbf (UInt8.ofNat n.val) == 120 || zbf (UInt8.ofNat n.val) == 88) = (UInt8.ofNat n.val == 120 || UInt8.ofNat n.val == 88) := by decide +kernel
 have := key ⟨b.toNat, b.toNat_lt⟩
 simpa using this
theorem zht (b : UInt8) : zbf b = 48 ↔ b = 48 := by
 have key : ∀ n : Fin 256, (zbf (UInt8.ofNat n.val) = 48 ↔ UInt8.ofNat n.val = 48) := by decide +kernel
 have := key ⟨b.toNat, b.toNat_lt⟩
 simpa using this
theorem zhu (b : UInt8) : zbf b = 46 ↔ b = 46 := by
 have key : ∀ n : Fin 256, (zbf (UInt8.ofNat n.val) = 46 ↔ UInt8.ofNat n.val = 46) := by decide +kernel
 have := key ⟨b.toNat, b.toNat_lt⟩
 simpa using this
theorem zhv (q : UInt8 -> Bool) (hq : ∀ b, q (zbf b) = q b) (l : List UInt8) : (zbk l).all q = l.all q := by
 unfold zbk
 rw [List.all_map]
 congr 1
 funext b
 exact hq b
theorem zhw (l : List UInt8) : (zpl (zbk l)).isSome = (zpl l).isSome := by
 have hb : ∀ (base : Nat) (m : List UInt8), (zbk m).all (fun c => decide (zph c < base)) = m.all (fun c => decide (zph c < base)) := fun base m => zhv _ (fun b => by rw [zhq]) m
 have hi : ∀ (m : List UInt8), m ≠ [] -> (zpl m).isSome = (zpk m).2.all (fun c => decide (zph c < (zpk m).1)) := by
  intro m hm
  unfold zpl
  rw [if_neg hm]
  cases (zpk m).2.all (fun c => decide (zph c < (zpk m).1)) <;> rfl
 cases l with
 | nil => rfl
 | cons a r =>
   have e0 : zbk (a :: r) = zbf a :: zbk r := rfl
   rw [hi (zbk (a :: r)) (by rw [e0]; simp), hi (a :: r) (by simp)]
   by_cases ha : a = 48
   ·subst ha
    cases r with
    | nil => rfl
    | cons b r =>
      have e1 : zbk (48 :: b :: r) = 48 :: zbf b :: zbk r := rfl
      have hx := zhs b
      by_cases hbx : b = 120 \/ b = 88
      ·have hbx2 : zbf b = 120 \/ zbf b = 88 := by rcases hbx with rfl | rfl <;> decide
       rw [e1, zpy b r hbx, zpy _ (zbk r) hbx2]
       exact hb 16 r
      ·have hbx2 : ¬ (zbf b = 120 \/ zbf b = 88) := by
        intro h
        have : (zbf b == 120 || zbf b == 88) = true := by simpa using h
        rw [hx] at this
        exact hbx (by simpa using this)
       rw [e1, zpz b r hbx, zpz _ (zbk r) hbx2]
       exact hb 8 (b :: r)
   ·have e1 : zpk (a :: r) = (10, a :: r) := zpx _ (.inl (by simpa using ha))
    have e2 : zpk (zbk (a :: r)) = (10, zbk (a :: r)) := zpx _ (.inl (by
     show some (zbf a) ≠ some 48
     intro h
     injection h with h
     exact ha ((zht a).1 h)))
    rw [e1, e2]
    exact hb 10 (a :: r)
theorem zhx (l : List UInt8) : zpm (zbk l) = zpm l := by
 unfold zpm
 rw [zhv _ zhr, zhw, zbm]
 have h1 : (zbk l).isEmpty = l.isEmpty := by cases l <;> rfl
 have h2 : (zbk l).getD 1 0 = zbf (l.getD 1 0) := by
  unfold zbk
  cases l with
  | nil => decide
  | cons a r => cases r with
    | nil => show (0 : UInt8) = zbf 0; decide
    | cons b r => rfl
 rw [h1, h2, Bool.and_assoc, Bool.and_assoc]
 congr 2
 rw [zhs]
theorem zhy (l : List UInt8) : zq0 (zbk l) = zbk (zq0 l) := by
 rcases zq2 l with ⟨m, rfl⟩ | ⟨h, hu⟩
 ·rw [zbp, zq1, show zbk [46] = [46] from by decide, zq1]
 ·rw [hu]
  refine zhi ?_
  intro h2
  apply h
  unfold zbk at h2
  rw [List.getLast?_map] at h2
  simp only [Option.map_eq_some_iff] at h2
  obtain ⟨b, hb, h3⟩ := h2
  rw [hb, (zhu b).1 h3]
theorem zhz (l : List UInt8) : z2m 46 (zbk l) = (z2m 46 l).map zbk := by
 have key : ∀ (l cur : List UInt8), z2l 46 (zbk l) (zbk cur) = (z2l 46 l cur).map zbk := by
  intro l
  induction l with
  | nil => intro cur; rfl
  | cons b l ih =>
    intro cur
    rw [show zbk (b :: l) = zbf b :: zbk l from rfl, z2l, z2l]
    by_cases hc : b = 46
    ·rw [if_pos ((zhu b).2 hc), if_pos hc, List.map_cons]
     congr 1
     exact ih []
    ·rw [if_neg (fun e => hc ((zhu b).1 e)), if_neg hc]
     have := ih (cur ++ [b])
     rw [zbp] at this
     exact this
 exact key l []
theorem zh0 (l : List UInt8) : zpn (zbk l) = zpn l := by
 unfold zpn
 rw [zq5, zq5, zhy, zhz]
 have : ((z2m 46 (zq0 l)).map zbk).getLastD [] = zbk ((z2m 46 (zq0 l)).getLastD []) := by
  rw [List.getLastD_eq_getLast?, List.getLastD_eq_getLast?, List.getLast?_map]
  cases (z2m 46 (zq0 l)).getLast? with
  | none => rfl
  | some x => rfl
 rw [this, zhx]
theorem zh1 {n : List UInt8} (h : Vn n) (s : List UInt8) (hs : zbk s = n) (hnum : zpn s = false) : zhk s = (0, hvD n) := by
 have hsp : z2m 46 n = (z2m 46 s).map zbk := by rw [<- hs]; exact zhz s
 have hnm : zg6 (z2m 46 s) = (0, z2m 46 n) := by
  rw [<- zg7, <- hsp]
  exact zg8 _ h.lab
 unfold zhk
 rw [if_neg (by rw [hnum]; simp), hnm]
 simp only [z2y]
 rw [if_pos trivial, if_neg (by have := h.len; omega), if_neg (by rw [h.num]; simp)]
theorem Vn.lowL {n : List UInt8} (h : Vn n) : zbk n = n := by
 unfold Go.Proofs.YtekaljeicfjkjaaGreatDoor.zbk
 have : n.map zbf = n.map id := List.map_congr_left fun b hb => (h.low b hb).1
 rw [this, List.map_id]
theorem zh2 {n m raw : List UInt8} (h : Vn n) (hl : raw.length <= 1024) (hh : raw.head? ≠ some 91) (hm : zbk m = n) (hp : zgz raw = some m \/ zgz raw = some (m ++ [46])) : zhm raw = (0, hvD n) := by
 have hlast : m.getLast? ≠ some 46 := by
  intro h2
  obtain ⟨x, rfl⟩ := List.getLast?_eq_some_iff.1 h2
  apply h.last
  rw [<- hm, zbp, show zbk [46] = [46] from by decide]
  simp
 have hnum : zpn m = false := by rw [<- zh0, hm]; exact h.num
 unfold zhm
 rw [if_neg (by omega), if_neg hh]
 rcases hp with hp | hp
 ·rw [hp]
  simp only [zhi hlast]
  exact zh1 h m hm hnum
 ·rw [hp]
  simp only [zq1]
  exact zh1 h m hm hnum
theorem zh3 {n : List UInt8} (h : Vn n) : zhm n = (0, hvD n) := by
 refine zh2 h (by have := h.len; omega) ?_ h.lowL (.inl (zg5 n fun b hb => (h.byte_not b hb).1))
 intro hh
 cases n with
 | nil => cases hh
 | cons b r =>
   injection hh with hh
   exact (h.byte_not b (by simp)).2.1 hh
theorem zh4 (u : Nat) : ∀ b ∈ Lib.decDigits u, 48 <= b.toNat /\ b.toNat <= 57 := by
 intro b hb
 have h := List.all_eq_true.1 (zp1 u) b hb
 have h2 := of_decide_eq_true h
 unfold zph at h2
 split at h2
 ·rename_i h3; exact h3
 ·split at h2
  ·omega
  ·split at h2 <;> omega
theorem zh5 (v : Nat) : ∀ b ∈ zps v, b = 46 \/ (48 <= b.toNat /\ b.toNat <= 57) := by
 intro b hb
 unfold zps at hb
 rcases zhe 46 _ b hb with hb | ⟨x, hx, hb⟩
 ·exact .inl hb
 ·simp only [List.mem_cons, List.not_mem_nil, or_false] at hx
  rcases hx with rfl | rfl | rfl | rfl <;> exact .inr (zh4 _ b hb)
theorem zh6 (v : Nat) : ∀ b ∈ zps v, b ≠ 37 /\ b ≠ 91 := by
 intro b hb
 rcases zh5 v b hb with rfl | h
 ·decide
 ·refine ⟨?_, ?_⟩ <;> (rintro rfl; revert h; decide)
theorem zh7 {u : Nat} (h : u < 256) : (Lib.decDigits u).length <= 3 := by
 have key : ∀ n : Fin 256, (Lib.decDigits n.val).length <= 3 := by decide +kernel
 exact key ⟨u, h⟩
theorem zh8 {v : Nat} (h : v < 4294967296) : (zps v).length <= 15 := by
 unfold zps
 simp only [z2v, List.length_append, List.length_cons]
 have h1 := zh7 (u := v / 16777216) (by omega)
 have h2 := zh7 (u := v / 65536 % 256) (by omega)
 have h3 := zh7 (u := v / 256 % 256) (by omega)
 have h4 := zh7 (u := v % 256) (by omega)
 omega
theorem zh9 {v : Nat} (h : v < 4294967296) : zhm (zps v) = (0, hv4 v) := by
 have hh : (zps v).head? ≠ some 91 := by
  intro hh
  cases hf : zps v with
  | nil => rw [hf] at hh; cases hh
  | cons b r =>
    rw [hf] at hh
    injection hh with hh
    exact (zh6 v b (by rw [hf]; simp)).2 hh
 have hlast : (zps v).getLast? ≠ some 46 := by
  intro h2
  obtain ⟨m, hm⟩ := List.getLast?_eq_some_iff.1 h2
  have h3 := zp7 v
  have h4 : z2m 46 (m ++ [46]) = z2m 46 m ++ [[]] := z20 46 m []
  rw [hm, h4] at h3
  have h5 := congrArg List.getLast? h3
  simp at h5
  have h6 := zp2 (v % 256)
  rw [h5] at h6
  cases h6
 unfold zhm
 rw [if_neg (by have := zh8 h; omega), if_neg hh, zg5 _ (fun b hb => (zh6 v b hb).1)]
 simp only [zhi hlast]
 unfold zhk
 rw [if_pos (zqd v), zqb v h]
theorem zia {g : List Nat} (hg : G16 g) (hl : g.length = 8) (hlen : (znf g).length <= 100) : zhm (91 :: (znf g ++ [93])) = (0, hv6 g) := by
 unfold zhm
 rw [if_neg (by simp; omega), if_pos (show (91 :: (znf g ++ [93])).head? = some 91 from rfl)]
 unfold zhl
 have e1 : (91 :: (znf g ++ [93])).getLast? = some 93 := by rw [<- List.cons_append, List.getLast?_append]; rfl
 have e2 : ((91 :: (znf g ++ [93])).drop 1).dropLast = znf g := by simp
 rw [if_neg (by rw [e1]; simp), e2, zn5 g hg hl]
theorem zib {h : Hv} (hv : zhn h = true) : (Vn h.name /\ h = hvD h.name) \/ h = hv4 h.v4 \/ h = hv6 h.v6 := by
 obtain ⟨k, n, v, g⟩ := h
 unfold zhn at hv
 simp only at hv
 split at hv
 ·rename_i hk
  simp only [Bool.and_eq_true, beq_iff_eq] at hv
  obtain ⟨⟨h1, h2⟩, h3⟩ := hv
  exact .inl ⟨(zha n).1 h1, by unfold hvD; rw [hk, h2, h3]⟩
 ·split at hv
  ·rename_i _ hk
   simp only [Bool.and_eq_true, beq_iff_eq, List.isEmpty_iff] at hv
   exact .inr (.inl (by unfold hv4; rw [hk, hv.1, hv.2]))
  ·split at hv
   ·rename_i _ _ hk
    simp only [Bool.and_eq_true, beq_iff_eq, List.isEmpty_iff] at hv
    exact .inr (.inr (by unfold hv6; rw [hk, hv.1, hv.2]))
   ·cases hv
theorem zic {n : List UInt8} (h : Vn n) : zhn (hvD n) = true := by
 unfold zhn hvD
 simp [(zha n).2 h]
theorem zid (v : Nat) : zhn (hv4 v) = true := by
 unfold zhn hv4
 simp
theorem zie (g : List Nat) : zhn (hv6 g) = true := by
 unfold zhn hv6
 simp
theorem zif {h : Hv} (hw : h.Wf) (hv : zhn h = true) (hlen : (znf h.v6).length <= 100) : zhm (zhp h) = (0, h) := by
 unfold zhp
 rw [if_pos hv]
 rcases zib hv with ⟨hn, e⟩ | e | e
 ·have e2 : zho h = h.name := by rw [e]; rfl
  rw [e2, zh3 hn, <- e]
 ·have e2 : zho h = zps h.v4 := by rw [e]; rfl
  rw [e2, zh9 hw.1, <- e]
 ·have e2 : zho h = 91 :: (znf h.v6 ++ [93]) := by rw [e]; rfl
  rw [e2, zia hw.2.2 hw.2.1 hlen, <- e]
theorem zig {l : List UInt8} {v : Nat} (h : zm4 l = some v) : v < 65536 := by
 unfold zm4 at h
 split at h
 ·rename_i hc
  injection h with h
  subst h
  have key : ∀ (l : List UInt8) (a : Nat), l.all (fun c => decide (zph c < 16)) = true -> zpi 16 a l < (a + 1) * 16 ^ l.length := by
   intro l
   induction l with
   | nil => intro a _; rw [zpi]; simp
   | cons c l ih =>
     intro a h
     rw [List.all_cons, Bool.and_eq_true] at h
     have hc := of_decide_eq_true h.1
     have h2 := ih (a * 16 + zph c) h.2
     rw [zpi, List.length_cons, Nat.pow_succ]
     have h3 : (a * 16 + zph c + 1) * 16 ^ l.length <= ((a + 1) * 16) * 16 ^ l.length := Nat.mul_le_mul_right _ (by omega)
     have h4 : (a + 1) * 16 * 16 ^ l.length = (a + 1) * (16 ^ l.length * 16) := by rw [Nat.mul_assoc, Nat.mul_comm 16]
     omega
  have h1 := key l 0 hc.2
  have h2 : 16 ^ l.length <= 16 ^ 4 := Nat.pow_le_pow_right (by omega) hc.1.2
  have h3 : (16 : Nat) ^ 4 = 65536 := rfl
  omega
 ·cases h
theorem zih : ∀ (p : List (List UInt8)) (last : Bool) (g : List Nat), zm5 p last = some g -> G16 g
 | [], last, g, h => by
   injection h with h
   subst h
   intro x hx
   cases hx
 | [x], last, g, h => by
   rw [zm5] at h
   split at h
   ·rename_i v hv
    injection h with h
    subst h
    have hlt : v < 4294967296 := by
     split at hv
     ·exact (zqg hv).1
     ·cases hv
    intro y hy
    simp only [List.mem_cons, List.not_mem_nil, or_false] at hy
    omega
   ·split at h
    ·rename_i v hv
     injection h with h
     subst h
     intro y hy
     simp only [List.mem_cons, List.not_mem_nil, or_false] at hy
     rw [hy]
     exact zig hv
    ·cases h
 | x :: y :: r, last, g, h => by
   rw [zm5] at h
   split at h
   ·cases h
   ·rename_i v hv
    split at h
    ·cases h
    ·rename_i m hm
     injection h with h
     subst h
     intro z hz
     rcases List.mem_cons.1 hz with rfl | hz
     ·exact zig hv
     ·exact zih (y :: r) last m hm z hz
theorem zii {l : List UInt8} {last : Bool} {g : List Nat} (h : zm6 l last = some g) : G16 g := by
 unfold zm6 at h
 split at h
 ·injection h with h
  subst h
  intro x hx
  cases hx
 ·exact zih _ _ _ h
theorem zij {l : List UInt8} {g : List Nat} (h : zm9 l = some g) : g.length = 8 /\ G16 g := by
 unfold zm9 at h
 split at h
 ·split at h
  ·rename_i m hm
   split at h
   ·rename_i h8
    injection h with h
    subst h
    exact ⟨h8, zii hm⟩
   ·cases h
  ·cases h
 ·split at h
  ·cases h
  ·rename_i a ha
   split at h
   ·cases h
   ·rename_i b hb
    split at h
    ·rename_i h7
     injection h with h
     subst h
     refine ⟨by simp [zm8]; omega, ?_⟩
     intro x hx
     simp only [List.mem_append] at hx
     rcases hx with hx | hx | hx
     ·exact zii ha x hx
     ·have := (List.mem_replicate.1 hx).2
      omega
     ·exact zii hb x hx
    ·cases h
theorem zik : z8.length = 8 /\ G16 z8 := ⟨rfl, by intro x hx; have := (List.mem_replicate.1 hx).2; omega⟩
theorem zil : hv0.Wf := ⟨by decide, zik.1, zik.2⟩
theorem zim (raw : List UInt8) : (zhm raw).2.Wf /\ ((zhm raw).1 = 0 /\ zhn (zhm raw).2 = true \/ (zhm raw).1 ≠ 0 /\ (zhm raw).2 = hv0) := by
 have bad : ∀ e : Nat, e ≠ 0 -> ((e, hv0) : Nat × Hv).2.Wf /\ (((e, hv0) : Nat × Hv).1 = 0 /\ zhn ((e, hv0) : Nat × Hv).2 = true \/ ((e, hv0) : Nat × Hv).1 ≠ 0 /\ ((e, hv0) : Nat × Hv).2 = hv0) := fun e he => ⟨zil, .inr ⟨he, rfl⟩⟩
 unfold zhm
 split
 ·exact bad 3 (by decide)
 ·split
  ·unfold zhl
   split
   ·exact bad 14 (by decide)
   ·split
    ·exact bad 14 (by decide)
    ·rename_i g hg
     have := zij hg
     exact ⟨⟨show (0 : Nat) < 4294967296 by omega, this.1, this.2⟩, .inl ⟨rfl, zie g⟩⟩
  ·split
   ·exact bad 14 (by decide)
   ·unfold zhk
    split
    ·split
     ·exact bad 14 (by decide)
     ·rename_i v hv
      exact ⟨⟨zrk hv, zik.1, zik.2⟩, .inl ⟨rfl, zid v⟩⟩
    ·split
     ·rename_i h0
      split
      ·exact bad 3 (by decide)
      ·split
       ·exact bad 14 (by decide)
       ·rename_i s _ _ hl hn
        obtain ⟨q1, q2⟩ := zg9 (z2m 46 (zq0 s)) (zg6 (z2m 46 (zq0 s))).2 (by rw [<- h0])
        have hq : (zg6 (z2m 46 (zq0 s))).2 ≠ [] := by
         intro e
         rw [e] at q2
         have := z2o 46 (zq0 s)
         simp at q2
         omega
        exact ⟨⟨show (0 : Nat) < 4294967296 by omega, zik.1, zik.2⟩, .inl ⟨rfl, zic (zhj q1 hq (by omega) (by simpa using hn))⟩⟩
     ·rename_i h0
      exact bad _ h0
end

section
open Go.RowKit
set_option maxHeartbeats 16000000
def zin (s n : List UInt8) : Bool := vnL s && vnL n && (decide (s = n) || (46 :: s).isSuffixOf n)
def zio (n : List UInt8) : Nat := if vnL n = true then (z2m 46 n).length else 0
def ziq : List UInt8 -> List (List UInt8) -> Prop
 | _, [] => True
 | prev, x :: t => (46 :: x) <:+ prev /\ vnL x = true /\ ziq x t
theorem ziq.at_ : ∀ {L : List (List UInt8)} {prev : List UInt8}, ziq prev L -> ∀ (k : Nat) (hk : k < L.length), (46 :: L[k]) <:+ (if k = 0 then prev else L.getD (k - 1) []) /\ vnL L[k] = true
 | [], _, _, k, hk => absurd hk (by simp)
 | x :: t, prev, h, 0, _ => ⟨h.1, h.2.1⟩
 | x :: t, prev, h, k + 1, hk => by
   have h1 := ziq.at_ h.2.2 k (by simpa using hk)
   refine ⟨?_, h1.2⟩
   rw [if_neg (by omega), show k + 1 - 1 = k from rfl]
   have h2 := h1.1
   cases k with
   | zero => exact h2
   | succ j => exact h2
end

section
open Go.RowKit
set_option maxHeartbeats 16000000
theorem zn6 (x : List UInt8) : ∀ Q : List (List UInt8), z2v 58 (Q ++ [x]) = z2v 58 Q ++ ((if Q = [] then [] else [58]) ++ x)
 | [] => rfl
 | [a] => rfl
 | a :: b :: r => by
   have ih := zn6 x (b :: r)
   rw [if_neg (by simp)] at ih ⊢
   rw [List.cons_append, z2w 58 a _ (by simp), ih, z2w 58 a (b :: r) (by simp)]
   simp
theorem zn7 (a : List Nat) (k : Nat) (h : k < a.length) : a.take (k + 1) = a.take k ++ [a.getD k 0] := by
 rw [List.take_succ_eq_append_getElem h, List.getD_eq_getElem?_getD, List.getElem?_eq_getElem h, Option.getD_some]
theorem zn8 (P : List Nat) (h : G16 P) : (z2v 58 (P.map zna)).length <= 5 * P.length := by
 induction P with
 | nil => simp [z2v]
 | cons a r ih =>
   have h1 := (zn0 a (h a (by simp))).2
   have ih := ih (fun x hx => h x (by simp [hx]))
   cases r with
   | nil => simp [z2v]; omega
   | cons b r =>
     simp only [List.map_cons] at ih ⊢
     rw [z2v]
     simp at ih ⊢
     omega
theorem zn9 (a : List Nat) (ha : G16 a) (t : Int) (m k : Nat) (hk : k <= 8) : (zne a t m k).length <= 82 := by
 unfold zne
 split
 ·have := zn8 (a.take k) (ha.take k); simp only [List.length_take] at this; omega
 ·have h1 := zn8 (a.take t.toNat) (ha.take _)
  have h2 := zn8 ((a.take k).drop (t.toNat + m)) ((ha.take k).drop _)
  rw [List.length_append, List.length_cons, List.length_cons]
  rename_i hh
  simp only [List.length_take, List.length_drop] at h1 h2
  omega
end

section
open Go.RowKit
set_option maxHeartbeats 16000000
def zcx (p : UInt8 -> Bool) (l : List UInt8) : List UInt8 := l.takeWhile fun b => !p b
def zcy (p : UInt8 -> Bool) (l : List UInt8) : List UInt8 := l.dropWhile fun b => !p b
def isB (c : UInt8) (b : UInt8) : Bool := b == c
theorem zcz (p : UInt8 -> Bool) (l : List UInt8) : zcx p l ++ zcy p l = l := List.takeWhile_append_dropWhile
theorem zc0 (p : UInt8 -> Bool) : ∀ (l : List UInt8), ∀ b ∈ zcx p l, p b = false
 | [], b, h => by cases h
 | a :: l, b, h => by
   unfold zcx at h
   rw [List.takeWhile_cons] at h
   split at h
   ·rename_i ha
    rcases List.mem_cons.1 h with rfl | h
    ·simpa using ha
    ·exact zc0 p l b h
   ·cases h
theorem zc1 (p : UInt8 -> Bool) : ∀ (l : List UInt8) (b : UInt8) (r : List UInt8), zcy p l = b :: r -> p b = true
 | [], b, r, h => by cases h
 | a :: l, b, r, h => by
   unfold zcy at h
   rw [List.dropWhile_cons] at h
   split at h
   ·exact zc1 p l b r h
   ·rename_i ha
    injection h with h1 h2
    rw [<- h1]
    simpa using ha
theorem zc2 {p : UInt8 -> Bool} {l : List UInt8} (h : ∀ b ∈ l, p b = false) : zcx p l = l /\ zcy p l = [] := by
 have h1 := zcz p l
 have h2 : zcy p l = [] := by
  cases hf : zcy p l with
  | nil => rfl
  | cons b r =>
    have := zc1 p l b r hf
    have hm : b ∈ l := by rw [<- h1, hf]; simp
    rw [h b hm] at this
    cases this
 rw [h2, List.append_nil] at h1
 exact ⟨h1, h2⟩
theorem zc3 {p : UInt8 -> Bool} {a b : List UInt8} (ha : ∀ x ∈ a, p x = false) (c : UInt8) (r : List UInt8) (hb : b = c :: r) (hc : p c = true) : zcx p (a ++ b) = a /\ zcy p (a ++ b) = b := by
 subst hb
 induction a with
 | nil =>
   unfold zcx zcy
   rw [List.nil_append, List.takeWhile_cons, List.dropWhile_cons, if_neg (by rw [hc]; simp), if_neg (by rw [hc]; simp)]
   exact ⟨rfl, rfl⟩
 | cons x a ih =>
   have hx := ha x (by simp)
   obtain ⟨i1, i2⟩ := ih (fun y hy => ha y (by simp [hy]))
   unfold zcx zcy at *
   rw [List.cons_append, List.takeWhile_cons, List.dropWhile_cons, if_pos (by rw [hx]; rfl), if_pos (by rw [hx]; rfl), i1, i2]
   exact ⟨rfl, rfl⟩
theorem zc4 {c : UInt8} {l : List UInt8} : l.any (isB c) = true ↔ c ∈ l := by
 rw [List.any_eq_true]
 constructor
 ·rintro ⟨x, hx, h⟩
  have : x = c := by simpa [isB] using h
  rwa [<- this]
 ·exact fun h => ⟨c, h, by simp [isB]⟩
theorem zc5 {p : UInt8 -> Bool} {l : List UInt8} (h : l.any p = false) : ∀ b ∈ l, p b = false := by
 intro b hb
 cases hp : p b with
 | false => rfl
 | true =>
   have : l.any p = true := List.any_eq_true.2 ⟨b, hb, hp⟩
   rw [h] at this
   cases this
theorem zc6 {p : UInt8 -> Bool} {l : List UInt8} (h : ∀ b ∈ l, p b = false) : l.any p = false := by
 cases ha : l.any p with
 | false => rfl
 | true =>
   obtain ⟨x, hx, hp⟩ := List.any_eq_true.1 ha
   rw [h x hx] at hp
   cases hp
theorem zc7 {p : UInt8 -> Bool} {l : List UInt8} {b : UInt8} (h : b ∈ zcx p l) : b ∈ l := by
 rw [<- zcz p l]
 exact List.mem_append_left _ h
theorem zc8 {p : UInt8 -> Bool} {l : List UInt8} {b : UInt8} (h : b ∈ zcy p l) : b ∈ l := by
 rw [<- zcz p l]
 exact List.mem_append_right _ h
theorem zc9 (c : UInt8) : ∀ l : List UInt8, (Lib.indexByte l c = -1 /\ zcx (isB c) l = l /\ zcy (isB c) l = []) \/ ∃ r, zcy (isB c) l = c :: r /\ Lib.indexByte l c = ((zcx (isB c) l).length : Int)
 | [] => .inl ⟨rfl, rfl, rfl⟩
 | b :: l => by
   by_cases hb : b = c
   ·subst hb
    right
    refine ⟨l, ?_, ?_⟩
    ·unfold zcy
     rw [List.dropWhile_cons, if_neg (by simp [isB])]
    ·have e : zcx (isB b) (b :: l) = [] := by
      unfold zcx
      rw [List.takeWhile_cons, if_neg (by simp [isB])]
     rw [e, Lib.indexByte, if_pos (by simp)]
     rfl
   ·have hb2 : (b == c) = false := by simpa using hb
    have e1 : zcx (isB c) (b :: l) = b :: zcx (isB c) l := by
     unfold zcx
     rw [List.takeWhile_cons, if_pos (by simp [isB, hb])]
    have e2 : zcy (isB c) (b :: l) = zcy (isB c) l := by
     unfold zcy
     rw [List.dropWhile_cons, if_pos (by simp [isB, hb])]
    rw [e1, e2]
    rcases zc9 c l with ⟨h1, h2, h3⟩ | ⟨r, h1, h2⟩
    ·left
     refine ⟨?_, by rw [h2], h3⟩
     rw [Lib.indexByte, hb2, h1]; rfl
    ·right
     refine ⟨r, h1, ?_⟩
     rw [Lib.indexByte, hb2, h2]
     have h4 : (((zcx (isB c) l).length : Int) == -1) = false := by
      rw [beq_eq_false_iff_ne]
      omega
     rw [h4]
     simp
end

end Go.Proofs.YtekaljeicfjkjaaGreatDoor
