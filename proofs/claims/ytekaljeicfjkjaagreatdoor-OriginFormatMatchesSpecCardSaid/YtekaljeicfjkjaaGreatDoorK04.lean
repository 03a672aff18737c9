/-
Hosts in plain words: percent signs, names, what parsing answers, the text, and their laws. No program.
Superdomains and covering in plain words, and their laws. No program.
The text of an address, step by step: no program.
Lists of bytes cut at the first byte of a kind. No program.
-/
import Derived.Test.YtekaljeicfjkjaaGreatDoorK02
import Derived.Test.YtekaljeicfjkjaaGreatDoorK03
import Derived.Test.YtekaljeicfjkjaaGreatDoorK00
import Derived.Lib.Bytealg
namespace Go.Proofs.YtekaljeicfjkjaaGreatDoor
section
open Go.RowKit
set_option maxHeartbeats 16000000
structure Hv where
 kind : Int
 name : List UInt8
 v4 : Nat
 v6 : List Nat
def z8 : List Nat := znt 8
def hv0 : Hv := ⟨0, [], 0, z8⟩
def hvD (n : List UInt8) : Hv := ⟨1, n, 0, z8⟩
def hv4 (v : Nat) : Hv := ⟨2, [], v, z8⟩
def hv6 (g : List Nat) : Hv := ⟨3, [], 0, g⟩
def Hv.Wf (h : Hv) : Prop := h.v4 < 4294967296 /\ h.v6.length = 8 /\ G16 h.v6
def zg8 : Nat -> List UInt8 -> Option (List UInt8)
 | _, [] => some []
 | 0, _ :: _ => none
 | f + 1, b :: r => if b ≠ 37 then (zg8 f r).map (b :: ·)
   else if 2 <= r.length /\ zqe (r.getD 0 0) < 16 /\ zqe (r.getD 1 0) < 16 then (zg8 f (r.drop 2)).map (UInt8.ofNat (16 * zqe (r.getD 0 0) + zqe (r.getD 1 0)) :: ·) else none
def zg9 (l : List UInt8) : Option (List UInt8) := zg8 l.length l
theorem zha : ∀ (f g : Nat) (l : List UInt8), l.length <= f -> l.length <= g -> zg8 f l = zg8 g l
 | f, g, [], _, _ => by cases f <;> cases g <;> rfl
 | 0, g, b :: l, h, _ => by simp at h
 | f, 0, b :: l, _, h => by simp at h
 | f + 1, g + 1, b :: l, hf, hg => by
   rw [zg8, zg8]
   simp only [List.length_cons] at hf hg
   rw [zha f g l (by omega) (by omega), zha f g (l.drop 2) (by rw [List.length_drop]; omega) (by rw [List.length_drop]; omega)]
theorem zhb : zg9 [] = some [] := rfl
theorem zhc (b : UInt8) (r : List UInt8) (h : b ≠ 37) : zg9 (b :: r) = (zg9 r).map (b :: ·) := by
 unfold zg9
 rw [List.length_cons, zg8, if_pos h]
theorem zhd (x y : UInt8) (t : List UInt8) (hx : zqe x < 16) (hy : zqe y < 16) : zg9 (37 :: x :: y :: t) = (zg9 t).map (UInt8.ofNat (16 * zqe x + zqe y) :: ·) := by
 unfold zg9
 rw [List.length_cons, zg8, if_neg (by simp), if_pos ⟨by simp, hx, hy⟩]
 rw [show (x :: y :: t).drop 2 = t from rfl, zha (x :: y :: t).length t.length t (by simp; omega) jH]
 rfl
theorem zhe (r : List UInt8) (h : ¬ (2 <= r.length /\ zqe (r.getD 0 0) < 16 /\ zqe (r.getD 1 0) < 16)) : zg9 (37 :: r) = none := by
 unfold zg9
 rw [List.length_cons, zg8, if_neg (by simp), if_neg h]
theorem zhf : ∀ (l : List UInt8), (∀ b ∈ l, b ≠ 37) -> zg9 l = some l
 | [], _ => rfl
 | b :: l, h => by rw [zhc b l (h b (by simp)), zhf l (fun c hc => h c (by simp [hc]))]; rfl
def zhg : List (List UInt8) -> Nat × List (List UInt8)
 | [] => (0, [])
 | l :: r => if (toA l).1 = 0 then (if (zhg r).1 = 0 then (0, (toA l).2 :: (zhg r).2) else ((zhg r).1, [])) else ((toA l).1, [])
theorem zhh : ∀ p : List (List UInt8), zhg (p.map zbk) = zhg p
 | [] => rfl
 | l :: r => by rw [List.map_cons, zhg, zhg, ztb, zhh r]
theorem zhi : ∀ p : List (List UInt8), (∀ x ∈ p, zs4 x = true) -> zhg p = (0, p)
 | [], _ => rfl
 | l :: r, h => by rw [zhg, zta (h l (by simp)), zhi r (fun x hx => h x (by simp [hx]))]; rfl
theorem zhj : ∀ (p q : List (List UInt8)), zhg p = (0, q) -> (∀ x ∈ q, zs4 x = true) /\ q.length = p.length
 | [], q, h => by
   obtain ⟨_, rfl⟩ := Prod.mk.inj h
   exact ⟨by simp, rfl⟩
 | l :: r, q, h => by
   rw [zhg] at h
   split at h
   ·rename_i h0
    split at h
    ·rename_i h1
     obtain ⟨_, rfl⟩ := Prod.mk.inj h
     obtain ⟨i1, i2⟩ := zhj r (zhg r).2 (by rw [<- h1])
     refine ⟨?_, by rw [List.length_cons, i2, List.length_cons]⟩
     intro x hx
     rcases List.mem_cons.1 hx with rfl | hx
     ·rcases ztc l with ⟨_, h2⟩ | ⟨h2, _⟩
      ·exact h2
      ·exact absurd h0 h2
     ·exact i1 x hx
    ·rename_i h1
     obtain ⟨h2, _⟩ := Prod.mk.inj h
     exact absurd h2 h1
   ·rename_i h0
    obtain ⟨h2, _⟩ := Prod.mk.inj h
    exact absurd h2 h0
def vnL (n : List UInt8) : Bool := decide (n ≠ []) && decide (n.length <= 253) && !zqk n && (z3b 46 n).all zs4
structure Vn (n : List UInt8) : Prop where
 ne : n ≠ []
 len : n.length <= 253
 num : zqk n = false
 lab : ∀ x ∈ z3b 46 n, zs4 x = true
theorem zhk (n : List UInt8) : vnL n = true ↔ Vn n := by
 unfold vnL
 simp only [Bool.and_eq_true, decide_eq_true_eq, Bool.not_eq_true', List.all_eq_true]
 exact ⟨fun ⟨⟨⟨a, b⟩, c⟩, d⟩ => ⟨a, b, c, d⟩, fun h => ⟨⟨⟨h.ne, h.len⟩, h.num⟩, h.lab⟩⟩
theorem zhl {l : List UInt8} (h : zs4 l = true) : ∀ b ∈ l, okN b.toNat = true := by
 unfold zs4 at h
 simp only [Bool.and_eq_true] at h
 exact fun b hb => List.all_eq_true.1 h.1.2 b hb
theorem zhm {l : List UInt8} (h : zs4 l = true) : l ≠ [] := by
 rintro rfl
 cases h
theorem zhn {b : UInt8} (h : okN b.toNat = true) : b ≠ 37 /\ b ≠ 46 /\ b ≠ 91 /\ b ≠ 93 := by
 unfold okN at h
 simp only [Bool.or_eq_true, Bool.and_eq_true, decide_eq_true_eq, beq_iff_eq] at h
 refine ⟨?_, ?_, ?_, ?_⟩ <;> (rintro rfl; revert h; decide)
theorem zho (c : UInt8) : ∀ (p : List (List UInt8)) (b : UInt8), b ∈ z3k c p -> b = c \/ ∃ x ∈ p, b ∈ x
 | [], b, h => by cases h
 | [a], b, h => .inr ⟨a, by simp, h⟩
 | a :: d :: r, b, h => by
   rw [z3k, List.mem_append, List.mem_cons] at h
   rcases h with h | h | h
   ·exact .inr ⟨a, by simp, h⟩
   ·exact .inl h
   ·rcases zho c (d :: r) b h with h | ⟨x, hx, hb⟩
    ·exact .inl h
    ·exact .inr ⟨x, by simp at hx ⊢; exact .inr hx, hb⟩
theorem zhp {p : List (List UInt8)} (h : ∀ x ∈ p, zs4 x = true) : ∀ x ∈ p, noB 46 x := fun x hx b hb => (zhn (zhl (h x hx) b hb)).2.1
theorem zhq {p : List (List UInt8)} (h : ∀ x ∈ p, zs4 x = true) : ∀ b ∈ z3k 46 p, b = 46 \/ okN b.toNat = true := by
 intro b hb
 rcases zho 46 p b hb with hb | ⟨x, hx, hb⟩
 ·exact .inl hb
 ·exact .inr (zhl (h x hx) b hb)
theorem Vn.bytes {n : List UInt8} (h : Vn n) : ∀ b ∈ n, b = 46 \/ okN b.toNat = true := by
 have := zhq h.lab
 rwa [z3n] at this
theorem Vn.byte_not {n : List UInt8} (h : Vn n) : ∀ b ∈ n, b ≠ 37 /\ b ≠ 91 /\ b ≠ 93 := by
 intro b hb
 rcases h.bytes b hb with rfl | hb
 ·decide
 ·exact ⟨(zhn hb).1, (zhn hb).2.2.1, (zhn hb).2.2.2⟩
theorem Vn.low {n : List UInt8} (h : Vn n) : ∀ b ∈ n, zbf b = b /\ b.toNat < 128 := by
 intro b hb
 rcases h.bytes b hb with rfl | hb
 ·exact ⟨by decide, by decide⟩
 ·have := zs7 hb
  exact ⟨ybd (by omega), this.1⟩
theorem zhr {m : List UInt8} (h : ∀ x ∈ z3b 46 (m ++ [46]), zs4 x = true) : False := by
 have : z3b 46 (m ++ [46]) = z3b 46 m ++ [[]] := z3p 46 m []
 rw [this] at h
 exact zhm (h [] (by simp)) rfl
theorem Vn.last {n : List UInt8} (h : Vn n) : n.getLast? ≠ some 46 := by
 intro hl
 obtain ⟨m, rfl⟩ := List.getLast?_eq_some_iff.1 hl
 exact zhr h.lab
theorem zhs {n : List UInt8} (h : n.getLast? ≠ some 46) : zrx n = n := by unfold zrx; rw [if_neg h]
theorem zht {q : List (List UInt8)} (h : ∀ x ∈ q, zs4 x = true) (hq : q ≠ []) (hl : (z3k 46 q).length <= 253) (hn : zqk (z3k 46 q) = false) : Vn (z3k 46 q) := by
 refine ⟨?_, hl, hn, ?_⟩
 ·cases q with
  | nil => exact absurd rfl hq
  | cons a r =>
    have ha := zhm (h a (by simp))
    cases r with
    | nil => exact ha
    | cons b r => rw [z3k]; simp
 ·rw [z3o 46 q hq (zhp h)]
  exact h
def zhu (s : List UInt8) : Nat × Hv :=
 if zqk s = true then (match pnL s with
  | none => (14, hv0)
  | some v => (0, hv4 v))
 else if (zhg (z3b 46 s)).1 = 0 then
  (if 253 < (z3k 46 (zhg (z3b 46 s)).2).length then (3, hv0) else if zqk (z3k 46 (zhg (z3b 46 s)).2) = true then (14, hv0) else (0, hvD (z3k 46 (zhg (z3b 46 s)).2)))
 else ((zhg (z3b 46 s)).1, hv0)
def zhv (raw : List UInt8) : Nat × Hv := if raw.getLast? ≠ some 93 \/ raw.length < 2 then (14, hv0) else match znu ((raw.drop 1).dropLast) with
 | none => (14, hv0)
 | some g => (0, hv6 g)
def zhw (raw : List UInt8) : Nat × Hv :=
 if 1024 < raw.length then (3, hv0)
 else if raw.head? = some 91 then zhv raw
 else match zg9 raw with
  | none => (14, hv0)
  | some s => zhu (zrx s)
def zhx (h : Hv) : Bool := if h.kind = 1 then vnL h.name && h.v4 == 0 && h.v6 == z8 else if h.kind = 2 then h.name.isEmpty && h.v6 == z8 else if h.kind = 3 then h.name.isEmpty && h.v4 == 0 else false
def zhy (h : Hv) : List UInt8 := if h.kind = 1 then h.name else if h.kind = 2 then zqp h.v4 else 91 :: (zn0 h.v6 ++ [93])
def zhz (h : Hv) : List UInt8 := if zhx h = true then zhy h else []
theorem zh0 (b : UInt8) : zqe (zbf b) = zqe b := by
 have key : ∀ n : Fin 256, zqe (zbf (UInt8.ofNat n.val)) = zqe (UInt8.ofNat n.val) := by decide +kernel
 have := key ⟨b.toNat, b.toNat_lt⟩
 simpa using this
theorem zh1 (b : UInt8) : zbe (zbf b) = zbe b := by
 have key : ∀ n : Fin 256, zbe (zbf (UInt8.ofNat n.val)) = zbe (UInt8.ofNat n.val) := by decide +kernel
 have := key ⟨b.toNat, b.toNat_lt⟩
 simpa using this
theorem zh2 (b : UInt8) : (zbf b == 120 || zbf b == 88) = (b == 120 || b == 88) := by
 have key : ∀ n : Fin 256, (zbf (UInt8.ofNat n.val) == 120 || zbf (UInt8.ofNat n.val) == 88) = (UInt8.ofNat n.val == 120 || UInt8.ofNat n.val == 88) := by decide +kernel
 have := key ⟨b.toNat, b.toNat_lt⟩
 simpa using this
theorem zh3 (b : UInt8) : zbf b = 48 ↔ b = 48 := by
 have key : ∀ n : Fin 256, (zbf (UInt8.ofNat n.val) = 48 ↔ UInt8.ofNat n.val = 48) := by decide +kernel
 have := key ⟨b.toNat, b.toNat_lt⟩
 simpa using this
theorem zh4 (b : UInt8) : zbf b = 46 ↔ b = 46 := by
 have key : ∀ n : Fin 256, (zbf (UInt8.ofNat n.val) = 46 ↔ UInt8.ofNat n.val = 46) := by decide +kernel
 have := key ⟨b.toNat, b.toNat_lt⟩
 simpa using this
theorem zh5 (q : UInt8 -> Bool) (hq : ∀ b, q (zbf b) = q b) (l : List UInt8) : (zbk l).all q = l.all q := by
 unfold zbk
 rw [List.all_map]
 congr 1
 funext b
 exact hq b
theorem zh6 (l : List UInt8) : (zqi (zbk l)).isSome = (zqi l).isSome := by
 have hb : ∀ (base : Nat) (m : List UInt8), (zbk m).all (fun c => decide (zqe c < base)) = m.all (fun c => decide (zqe c < base)) := fun base m => zh5 _ (fun b => by rw [zh0]) m
 have hi : ∀ (m : List UInt8), m ≠ [] -> (zqi m).isSome = (zqh m).2.all (fun c => decide (zqe c < (zqh m).1)) := by
  intro m hm
  unfold zqi
  rw [if_neg hm]
  cases (zqh m).2.all (fun c => decide (zqe c < (zqh m).1)) <;> rfl
 cases l with
 | nil => rfl
 | cons a r =>
   have e0 : zbk (a :: r) = zbf a :: zbk r := rfl
   rw [hi (zbk (a :: r)) (by rw [e0]; simp), hi (a :: r) (by simp)]
   by_cases ha : a = 48
   ·subst ha
    cases r with
    | nil => rfl
    | cons b r =>
      have e1 : zbk (48 :: b :: r) = 48 :: zbf b :: zbk r := rfl
      have hx := zh2 b
      by_cases hbx : b = 120 \/ b = 88
      ·have hbx2 : zbf b = 120 \/ zbf b = 88 := by rcases hbx with rfl | rfl <;> decide
       rw [e1, zqv b r hbx, zqv _ (zbk r) hbx2]
       exact hb 16 r
      ·have hbx2 : ¬ (zbf b = 120 \/ zbf b = 88) := by
        intro h
        have : (zbf b == 120 || zbf b == 88) = true := by simpa using h
        rw [hx] at this
        exact hbx (by simpa using this)
       rw [e1, zqw b r hbx, zqw _ (zbk r) hbx2]
       exact hb 8 (b :: r)
   ·have e1 : zqh (a :: r) = (10, a :: r) := zqu _ (.inl (by simpa using ha))
    have e2 : zqh (zbk (a :: r)) = (10, zbk (a :: r)) := zqu _ (.inl (by
     show some (zbf a) ≠ some 48
     intro h
     injection h with h
     exact ha ((zh3 a).1 h)))
    rw [e1, e2]
    exact hb 10 (a :: r)
theorem zh7 (l : List UInt8) : zqj (zbk l) = zqj l := by
 unfold zqj
 rw [zh5 _ zh1, zh6, zbm]
 have h1 : (zbk l).isEmpty = l.isEmpty := by cases l <;> rfl
 have h2 : (zbk l).getD 1 0 = zbf (l.getD 1 0) := by
  unfold zbk
  cases l with
  | nil => decide
  | cons a r => cases r with
    | nil => show (0 : UInt8) = zbf 0; decide
    | cons b r => rfl
 rw [h1, h2, Bool.and_assoc, Bool.and_assoc]
 congr 2
 rw [zh2]
theorem zh8 (l : List UInt8) : zrx (zbk l) = zbk (zrx l) := by
 rcases zrz l with ⟨m, rfl⟩ | ⟨h, hu⟩
 ·rw [zbp, zry, show zbk [46] = [46] from by decide, zry]
 ·rw [hu]
  refine zhs ?_
  intro h2
  apply h
  unfold zbk at h2
  rw [List.getLast?_map] at h2
  simp only [Option.map_eq_some_iff] at h2
  obtain ⟨b, hb, h3⟩ := h2
  rw [hb, (zh4 b).1 h3]
theorem zh9 (l : List UInt8) : z3b 46 (zbk l) = (z3b 46 l).map zbk := by
 have key : ∀ (l cur : List UInt8), z3a 46 (zbk l) (zbk cur) = (z3a 46 l cur).map zbk := by
  intro l
  induction l with
  | nil => intro cur; rfl
  | cons b l ih =>
    intro cur
    rw [show zbk (b :: l) = zbf b :: zbk l from rfl, z3a, z3a]
    by_cases hc : b = 46
    ·rw [if_pos ((zh4 b).2 hc), if_pos hc, List.map_cons]
     congr 1
     exact ih []
    ·rw [if_neg (fun e => hc ((zh4 b).1 e)), if_neg hc]
     have := ih (cur ++ [b])
     rw [zbp] at this
     exact this
 exact key l []
theorem zia (l : List UInt8) : zqk (zbk l) = zqk l := by
 unfold zqk
 rw [zr2, zr2, zh8, zh9]
 have : ((z3b 46 (zrx l)).map zbk).getLastD [] = zbk ((z3b 46 (zrx l)).getLastD []) := by
  rw [List.getLastD_eq_getLast?, List.getLastD_eq_getLast?, List.getLast?_map]
  cases (z3b 46 (zrx l)).getLast? with
  | none => rfl
  | some x => rfl
 rw [this, zh7]
theorem zib {n : List UInt8} (h : Vn n) (s : List UInt8) (hs : zbk s = n) (hnum : zqk s = false) : zhu s = (0, hvD n) := by
 have hsp : z3b 46 n = (z3b 46 s).map zbk := by rw [<- hs]; exact zh9 s
 have hnm : zhg (z3b 46 s) = (0, z3b 46 n) := by
  rw [<- zhh, <- hsp]
  exact zhi _ h.lab
 unfold zhu
 rw [if_neg (by rw [hnum]; simp), hnm]
 simp only [z3n]
 rw [if_pos trivial, if_neg (by have := h.len; omega), if_neg (by rw [h.num]; simp)]
theorem Vn.lowL {n : List UInt8} (h : Vn n) : zbk n = n := by
 unfold Go.Proofs.YtekaljeicfjkjaaGreatDoor.zbk
 have : n.map zbf = n.map id := List.map_congr_left fun b hb => (h.low b hb).1
 rw [this, List.map_id]
theorem zic {n m raw : List UInt8} (h : Vn n) (hl : raw.length <= 1024) (hh : raw.head? ≠ some 91) (hm : zbk m = n) (hp : zg9 raw = some m \/ zg9 raw = some (m ++ [46])) : zhw raw = (0, hvD n) := by
 have hlast : m.getLast? ≠ some 46 := by
  intro h2
  obtain ⟨x, rfl⟩ := List.getLast?_eq_some_iff.1 h2
  apply h.last
  rw [<- hm, zbp, show zbk [46] = [46] from by decide]
  simp
 have hnum : zqk m = false := by rw [<- zia, hm]; exact h.num
 unfold zhw
 rw [if_neg (by omega), if_neg hh]
 rcases hp with hp | hp
 ·rw [hp]
  simp only [zhs hlast]
  exact zib h m hm hnum
 ·rw [hp]
  simp only [zry]
  exact zib h m hm hnum
theorem zid {n : List UInt8} (h : Vn n) : zhw n = (0, hvD n) := by
 refine zic h (by have := h.len; omega) ?_ h.lowL (.inl (zhf n fun b hb => (h.byte_not b hb).1))
 intro hh
 cases n with
 | nil => cases hh
 | cons b r =>
   injection hh with hh
   exact (h.byte_not b (by simp)).2.1 hh
theorem zie (u : Nat) : ∀ b ∈ Lib.decDigits u, 48 <= b.toNat /\ b.toNat <= 57 := by
 intro b hb
 have h := List.all_eq_true.1 (zqy u) b hb
 have h2 := of_decide_eq_true h
 unfold zqe at h2
 split at h2
 ·rename_i h3; exact h3
 ·split at h2
  ·omega
  ·split at h2 <;> omega
theorem zif (v : Nat) : ∀ b ∈ zqp v, b = 46 \/ (48 <= b.toNat /\ b.toNat <= 57) := by
 intro b hb
 unfold zqp at hb
 rcases zho 46 _ b hb with hb | ⟨x, hx, hb⟩
 ·exact .inl hb
 ·simp only [List.mem_cons, List.not_mem_nil, or_false] at hx
  rcases hx with rfl | rfl | rfl | rfl <;> exact .inr (zie _ b hb)
theorem zig (v : Nat) : ∀ b ∈ zqp v, b ≠ 37 /\ b ≠ 91 := by
 intro b hb
 rcases zif v b hb with rfl | h
 ·decide
 ·refine ⟨?_, ?_⟩ <;> (rintro rfl; revert h; decide)
theorem zih {u : Nat} (h : u < 256) : (Lib.decDigits u).length <= 3 := by
 have key : ∀ n : Fin 256, (Lib.decDigits n.val).length <= 3 := by decide +kernel
 exact key ⟨u, h⟩
theorem zii {v : Nat} (h : v < 4294967296) : (zqp v).length <= 15 := by
 unfold zqp
 simp only [z3k, List.length_append, List.length_cons]
 have h1 := zih (u := v / 16777216) (by omega)
 have h2 := zih (u := v / 65536 % 256) (by omega)
 have h3 := zih (u := v / 256 % 256) (by omega)
 have h4 := zih (u := v % 256) (by omega)
 omega
theorem zij {v : Nat} (h : v < 4294967296) : zhw (zqp v) = (0, hv4 v) := by
 have hh : (zqp v).head? ≠ some 91 := by
  intro hh
  cases hf : zqp v with
  | nil => rw [hf] at hh; cases hh
  | cons b r =>
    rw [hf] at hh
    injection hh with hh
    exact (zig v b (by rw [hf]; simp)).2 hh
 have hlast : (zqp v).getLast? ≠ some 46 := by
  intro h2
  obtain ⟨m, hm⟩ := List.getLast?_eq_some_iff.1 h2
  have h3 := zq4 v
  have h4 : z3b 46 (m ++ [46]) = z3b 46 m ++ [[]] := z3p 46 m []
  rw [hm, h4] at h3
  have h5 := congrArg List.getLast? h3
  simp at h5
  have h6 := zqz (v % 256)
  rw [h5] at h6
  cases h6
 unfold zhw
 rw [if_neg (by have := zii h; omega), if_neg hh, zhf _ (fun b hb => (zig v b hb).1)]
 simp only [zhs hlast]
 unfold zhu
 rw [if_pos (zra v), zq8 v h]
theorem zik {g : List Nat} (hg : G16 g) (hl : g.length = 8) (hlen : (zn0 g).length <= 100) : zhw (91 :: (zn0 g ++ [93])) = (0, hv6 g) := by
 unfold zhw
 rw [if_neg (by simp; omega), if_pos (show (91 :: (zn0 g ++ [93])).head? = some 91 from rfl)]
 unfold zhv
 have e1 : (91 :: (zn0 g ++ [93])).getLast? = some 93 := by rw [<- List.cons_append, List.getLast?_append]; rfl
 have e2 : ((91 :: (zn0 g ++ [93])).drop 1).dropLast = zn0 g := by simp
 rw [if_neg (by rw [e1]; simp), e2, zoq g hg hl]
theorem zil {h : Hv} (hv : zhx h = true) : (Vn h.name /\ h = hvD h.name) \/ h = hv4 h.v4 \/ h = hv6 h.v6 := by
 obtain ⟨k, n, v, g⟩ := h
 unfold zhx at hv
 simp only at hv
 split at hv
 ·rename_i hk
  simp only [Bool.and_eq_true, beq_iff_eq] at hv
  obtain ⟨⟨h1, h2⟩, h3⟩ := hv
  exact .inl ⟨(zhk n).1 h1, by unfold hvD; rw [hk, h2, h3]⟩
 ·split at hv
  ·rename_i _ hk
   simp only [Bool.and_eq_true, beq_iff_eq, List.isEmpty_iff] at hv
   exact .inr (.inl (by unfold hv4; rw [hk, hv.1, hv.2]))
  ·split at hv
   ·rename_i _ _ hk
    simp only [Bool.and_eq_true, beq_iff_eq, List.isEmpty_iff] at hv
    exact .inr (.inr (by unfold hv6; rw [hk, hv.1, hv.2]))
   ·cases hv
theorem zim {n : List UInt8} (h : Vn n) : zhx (hvD n) = true := by
 unfold zhx hvD
 simp [(zhk n).2 h]
theorem zin (v : Nat) : zhx (hv4 v) = true := by
 unfold zhx hv4
 simp
theorem zio (g : List Nat) : zhx (hv6 g) = true := by
 unfold zhx hv6
 simp
theorem ziq {h : Hv} (hw : h.Wf) (hv : zhx h = true) (hlen : (zn0 h.v6).length <= 100) : zhw (zhz h) = (0, h) := by
 unfold zhz
 rw [if_pos hv]
 rcases zil hv with ⟨hn, e⟩ | e | e
 ·have e2 : zhy h = h.name := by rw [e]; rfl
  rw [e2, zid hn, <- e]
 ·have e2 : zhy h = zqp h.v4 := by rw [e]; rfl
  rw [e2, zij hw.1, <- e]
 ·have e2 : zhy h = 91 :: (zn0 h.v6 ++ [93]) := by rw [e]; rfl
  rw [e2, zik hw.2.2 hw.2.1 hlen, <- e]
theorem zir {l : List UInt8} {v : Nat} (h : znp l = some v) : v < 65536 := by
 unfold znp at h
 split at h
 ·rename_i hc
  injection h with h
  subst h
  have key : ∀ (l : List UInt8) (a : Nat), l.all (fun c => decide (zqe c < 16)) = true -> zqf 16 a l < (a + 1) * 16 ^ l.length := by
   intro l
   induction l with
   | nil => intro a _; rw [zqf]; simp
   | cons c l ih =>
     intro a h
     rw [List.all_cons, Bool.and_eq_true] at h
     have hc := of_decide_eq_true h.1
     have h2 := ih (a * 16 + zqe c) h.2
     rw [zqf, List.length_cons, Nat.pow_succ]
     have h3 : (a * 16 + zqe c + 1) * 16 ^ l.length <= ((a + 1) * 16) * 16 ^ l.length := Nat.mul_le_mul_right _ (by omega)
     have h4 : (a + 1) * 16 * 16 ^ l.length = (a + 1) * (16 ^ l.length * 16) := by rw [Nat.mul_assoc, Nat.mul_comm 16]
     omega
  have h1 := key l 0 hc.2
  have h2 : 16 ^ l.length <= 16 ^ 4 := Nat.pow_le_pow_right (by omega) hc.1.2
  have h3 : (16 : Nat) ^ 4 = 65536 := rfl
  omega
 ·cases h
theorem zis : ∀ (p : List (List UInt8)) (last : Bool) (g : List Nat), znq p last = some g -> G16 g
 | [], last, g, h => by
   injection h with h
   subst h
   intro x hx
   cases hx
 | [x], last, g, h => by
   rw [znq] at h
   split at h
   ·rename_i v hv
    injection h with h
    subst h
    have hlt : v < 4294967296 := by
     split at hv
     ·exact (zrd hv).1
     ·cases hv
    intro y hy
    simp only [List.mem_cons, List.not_mem_nil, or_false] at hy
    omega
   ·split at h
    ·rename_i v hv
     injection h with h
     subst h
     intro y hy
     simp only [List.mem_cons, List.not_mem_nil, or_false] at hy
     rw [hy]
     exact zir hv
    ·cases h
 | x :: y :: r, last, g, h => by
   rw [znq] at h
   split at h
   ·cases h
   ·rename_i v hv
    split at h
    ·cases h
    ·rename_i m hm
     injection h with h
     subst h
     intro z hz
     rcases List.mem_cons.1 hz with rfl | hz
     ·exact zir hv
     ·exact zis (y :: r) last m hm z hz
theorem zit {l : List UInt8} {last : Bool} {g : List Nat} (h : znr l last = some g) : G16 g := by
 unfold znr at h
 split at h
 ·injection h with h
  subst h
  intro x hx
  cases hx
 ·exact zis _ _ _ h
theorem ziu {l : List UInt8} {g : List Nat} (h : znu l = some g) : g.length = 8 /\ G16 g := by
 unfold znu at h
 split at h
 ·split at h
  ·rename_i m hm
   split at h
   ·rename_i h8
    injection h with h
    subst h
    exact ⟨h8, zit hm⟩
   ·cases h
  ·cases h
 ·split at h
  ·cases h
  ·rename_i a ha
   split at h
   ·cases h
   ·rename_i b hb
    split at h
    ·rename_i h7
     injection h with h
     subst h
     refine ⟨by simp [znt]; omega, ?_⟩
     intro x hx
     simp only [List.mem_append] at hx
     rcases hx with hx | hx | hx
     ·exact zit ha x hx
     ·have := (List.mem_replicate.1 hx).2
      omega
     ·exact zit hb x hx
    ·cases h
theorem ziv : z8.length = 8 /\ G16 z8 := ⟨rfl, by intro x hx; have := (List.mem_replicate.1 hx).2; omega⟩
theorem ziw : hv0.Wf := ⟨by decide, ziv.1, ziv.2⟩
theorem zix (raw : List UInt8) : (zhw raw).2.Wf /\ ((zhw raw).1 = 0 /\ zhx (zhw raw).2 = true \/ (zhw raw).1 ≠ 0 /\ (zhw raw).2 = hv0) := by
 have bad : ∀ e : Nat, e ≠ 0 -> ((e, hv0) : Nat × Hv).2.Wf /\ (((e, hv0) : Nat × Hv).1 = 0 /\ zhx ((e, hv0) : Nat × Hv).2 = true \/ ((e, hv0) : Nat × Hv).1 ≠ 0 /\ ((e, hv0) : Nat × Hv).2 = hv0) := fun e he => ⟨ziw, .inr ⟨he, rfl⟩⟩
 unfold zhw
 split
 ·exact bad 3 (by decide)
 ·split
  ·unfold zhv
   split
   ·exact bad 14 (by decide)
   ·split
    ·exact bad 14 (by decide)
    ·rename_i g hg
     have := ziu hg
     exact ⟨⟨show (0 : Nat) < 4294967296 by omega, this.1, this.2⟩, .inl ⟨rfl, zio g⟩⟩
  ·split
   ·exact bad 14 (by decide)
   ·unfold zhu
    split
    ·split
     ·exact bad 14 (by decide)
     ·rename_i v hv
      exact ⟨⟨zsh hv, ziv.1, ziv.2⟩, .inl ⟨rfl, zin v⟩⟩
    ·split
     ·rename_i h0
      split
      ·exact bad 3 (by decide)
      ·split
       ·exact bad 14 (by decide)
       ·rename_i s _ _ hl hn
        obtain ⟨q1, q2⟩ := zhj (z3b 46 (zrx s)) (zhg (z3b 46 (zrx s))).2 (by rw [<- h0])
        have hq : (zhg (z3b 46 (zrx s))).2 ≠ [] := by
         intro e
         rw [e] at q2
         have := z3d 46 (zrx s)
         simp at q2
         omega
        exact ⟨⟨show (0 : Nat) < 4294967296 by omega, ziv.1, ziv.2⟩, .inl ⟨rfl, zim (zht q1 hq (by omega) (by simpa using hn))⟩⟩
     ·rename_i h0
      exact bad _ h0
end

section
open Go.RowKit
set_option maxHeartbeats 16000000
def ziy (s n : List UInt8) : Bool := vnL s && vnL n && (decide (s = n) || (46 :: s).isSuffixOf n)
def ziz (n : List UInt8) : Nat := if vnL n = true then (z3b 46 n).length else 0
def zi0 : List UInt8 -> List (List UInt8) -> Prop
 | _, [] => True
 | prev, x :: t => (46 :: x) <:+ prev /\ vnL x = true /\ zi0 x t
theorem zi0.at_ : ∀ {L : List (List UInt8)} {prev : List UInt8}, zi0 prev L -> ∀ (k : Nat) (hk : k < L.length), (46 :: L[k]) <:+ (if k = 0 then prev else L.getD (k - 1) []) /\ vnL L[k] = true
 | [], _, _, k, hk => absurd hk (by simp)
 | x :: t, prev, h, 0, _ => ⟨h.1, h.2.1⟩
 | x :: t, prev, h, k + 1, hk => by
   have h1 := zi0.at_ h.2.2 k (by simpa using hk)
   refine ⟨?_, h1.2⟩
   rw [if_neg (by omega), show k + 1 - 1 = k from rfl]
   have h2 := h1.1
   cases k with
   | zero => exact h2
   | succ j => exact h2
end

section
open Go.RowKit
set_option maxHeartbeats 16000000
theorem zor (x : List UInt8) : ∀ Q : List (List UInt8), z3k 58 (Q ++ [x]) = z3k 58 Q ++ ((if Q = [] then [] else [58]) ++ x)
 | [] => rfl
 | [a] => rfl
 | a :: b :: r => by
   have ih := zor x (b :: r)
   rw [if_neg (by simp)] at ih ⊢
   rw [List.cons_append, z3l 58 a _ (by simp), ih, z3l 58 a (b :: r) (by simp)]
   simp
theorem zos (a : List Nat) (k : Nat) (h : k < a.length) : a.take (k + 1) = a.take k ++ [a.getD k 0] := by
 rw [List.take_succ_eq_append_getElem h, List.getD_eq_getElem?_getD, List.getElem?_eq_getElem h, Option.getD_some]
theorem zot (a : List Nat) (t : Int) (m k : Nat) (hk : k < a.length) (h : t < 0 \/ (k : Int) < t) : znz a t m (k + 1) = znz a t m k ++ ((if k = 0 then [] else [58]) ++ znv (a.getD k 0)) := by
 unfold znz
 rw [if_pos (by omega), if_pos (by omega), zos a k hk, List.map_append, List.map_cons, List.map_nil, zor]
 congr 2
 by_cases h0 : k = 0
 ·subst h0; rfl
 ·rw [if_neg h0, if_neg]
  intro e
  rw [List.map_eq_nil_iff, List.take_eq_nil_iff] at e
  rcases e with e | e
  ·exact h0 e
  ·subst e; simp at hk
theorem zou (a : List Nat) (t m k : Nat) (hk : k < a.length) (hm : 0 < m) (h : t + m <= k) : znz a (t : Int) m (k + 1) = znz a (t : Int) m k ++ ((if k = t + m then [] else [58]) ++ znv (a.getD k 0)) := by
 unfold znz
 rw [if_neg (by omega), if_neg (by omega), Int.toNat_natCast, zos a k hk]
 have e : (a.take k ++ [a.getD k 0]).drop (t + m) = (a.take k).drop (t + m) ++ [a.getD k 0] := by
  rw [List.drop_append_of_le_length (by simp; omega)]
 rw [e, List.map_append, List.map_cons, List.map_nil, zor, List.append_assoc, List.cons_append, List.cons_append]
 congr 4
 by_cases h0 : k = t + m
 ·rw [if_pos h0, if_pos]
  rw [List.map_eq_nil_iff, List.drop_eq_nil_iff]
  simp; omega
 ·rw [if_neg h0, if_neg]
  intro e
  rw [List.map_eq_nil_iff, List.drop_eq_nil_iff] at e
  simp at e
  omega
theorem zov (a : List Nat) (t m : Nat) (hm : 0 < m) (h : t + m <= a.length) : znz a (t : Int) m (t + m) = znz a (t : Int) m t ++ [58, 58] := by
 unfold znz
 rw [if_neg (by omega), if_pos (by omega), Int.toNat_natCast]
 have e : (a.take (t + m)).drop (t + m) = [] := by rw [List.drop_eq_nil_iff]; simp; omega
 rw [e]
 simp [z3k]
theorem zow (a : List Nat) (t : Int) (m : Nat) (h : t < 0 \/ 0 <= t) : znz a t m 0 = [] := by
 unfold znz
 rw [if_pos (by omega)]; rfl
theorem zox (a : List Nat) (ha : G16 a) (t : Int) (m k : Nat) (hk : k <= a.length) (h0 : 0 < k) (h : t < 0 \/ (k : Int) <= t) : znz a t m k ≠ [] /\ (znz a t m k).getLast? ≠ some 58 := by
 unfold znz
 rw [if_pos h]
 refine ⟨zob (ha.take k).cols ?_, zoc (ha.take k).cols⟩
 intro e
 rw [List.map_eq_nil_iff, List.take_eq_nil_iff] at e
 rcases e with e | e
 ·omega
 ·subst e; simp at hk; omega
theorem zoy (l m : List UInt8) (h : m ≠ []) : (l ++ 58 :: 58 :: m).getLast? = m.getLast? := by
 rw [List.getLast?_append]
 cases m with
 | nil => exact absurd rfl h
 | cons c r =>
   rw [List.getLast?_cons_cons, List.getLast?_cons_cons]
   cases hx : (c :: r).getLast? with
   | none => rw [List.getLast?_eq_none_iff] at hx; cases hx
   | some y => rfl
theorem zoz (a : List Nat) (t m : Nat) (hm : 0 < m) (h : t + m <= a.length) : znz a (t : Int) m (t + m) ≠ [] /\ (znz a (t : Int) m (t + m)).getLast? = some 58 := by
 rw [zov a t m hm h]
 refine ⟨by simp, by simp [List.getLast?_append]⟩
theorem zo0 (a : List Nat) (ha : G16 a) (t m k : Nat) (hk : k <= a.length) (hm : 0 < m) (h : t + m < k) : znz a (t : Int) m k ≠ [] /\ (znz a (t : Int) m k).getLast? ≠ some 58 := by
 unfold znz
 rw [if_neg (by omega), Int.toNat_natCast]
 have hne : ((a.take k).drop (t + m)).map znv ≠ [] := by
  intro e
  rw [List.map_eq_nil_iff, List.drop_eq_nil_iff] at e
  simp at e; omega
 have hc := ((ha.take k).drop (t + m)).cols
 refine ⟨by simp, ?_⟩
 rw [zoy _ _ (zob hc hne)]
 exact zoc hc
theorem zo1 (P : List Nat) (h : G16 P) : (z3k 58 (P.map znv)).length <= 5 * P.length := by
 induction P with
 | nil => simp [z3k]
 | cons a r ih =>
   have h1 := (zol a (h a (by simp))).2
   have ih := ih (fun x hx => h x (by simp [hx]))
   cases r with
   | nil => simp [z3k]; omega
   | cons b r =>
     simp only [List.map_cons] at ih ⊢
     rw [z3k]
     simp at ih ⊢
     omega
theorem zo2 (a : List Nat) (ha : G16 a) (t : Int) (m k : Nat) (hk : k <= 8) : (znz a t m k).length <= 82 := by
 unfold znz
 split
 ·have := zo1 (a.take k) (ha.take k); simp only [List.length_take] at this; omega
 ·have h1 := zo1 (a.take t.toNat) (ha.take _)
  have h2 := zo1 ((a.take k).drop (t.toNat + m)) ((ha.take k).drop _)
  rw [List.length_append, List.length_cons, List.length_cons]
  rename_i hh
  simp only [List.length_take, List.length_drop] at h1 h2
  omega
theorem zo3 (l : List Nat) (q : Nat) (h : q <= znw l) (hq : q < l.length) (hz : l.getD q 0 = 0) : q + 1 <= znw l := by
 induction l generalizing q with
 | nil => simp at hq
 | cons x r ih =>
   unfold znw at h ih ⊢
   rw [List.takeWhile_cons] at h ⊢
   cases q with
   | zero =>
     have hx : x = 0 := by simpa using hz
     subst hx
     simp
   | succ q =>
     by_cases hx : (x == 0) = true
     ·rw [if_pos hx] at h ⊢
      have := ih q (by simpa using h) (by simpa using hq) (by simpa using hz)
      simp; omega
     ·rw [if_neg hx] at h
      simp at h
theorem zo4 (l : List Nat) (q : Nat) (h : q <= znw l) (hq : q = l.length \/ (q < l.length /\ l.getD q 0 ≠ 0)) : znw l = q := by
 induction l generalizing q with
 | nil => simp [znw] at h ⊢; omega
 | cons x r ih =>
   have hle := zn2 (x :: r)
   unfold znw at h ih hle ⊢
   rw [List.takeWhile_cons] at h hle ⊢
   by_cases hx : (x == 0) = true
   ·rw [if_pos hx] at h hle ⊢
    cases q with
    | zero =>
      rcases hq with hq | hq
      ·simp at hq
      ·exact absurd (by simpa using hx) hq.2
    | succ q =>
      have := ih q (by simpa using h) (by
       rcases hq with hq | hq
       ·exact .inl (by simpa using hq)
       ·exact .inr ⟨by simpa using hq.1, by simpa using hq.2⟩)
      simp only [List.length_cons]
      omega
   ·rw [if_neg hx] at h ⊢
    simp at h ⊢
    omega
end

section
open Go.RowKit
set_option maxHeartbeats 16000000
def zcx (p : UInt8 -> Bool) (l : List UInt8) : List UInt8 := l.takeWhile fun b => !p b
def zcy (p : UInt8 -> Bool) (l : List UInt8) : List UInt8 := l.dropWhile fun b => !p b
def isB (c : UInt8) (b : UInt8) : Bool := b == c
theorem zcz (p : UInt8 -> Bool) (l : List UInt8) : zcx p l ++ zcy p l = l := List.takeWhile_append_dropWhile
theorem zc0 (p : UInt8 -> Bool) : ∀ (l : List UInt8), ∀ b ∈ zcx p l, p b = false
 | [], b, h => by cases h
 | a :: l, b, h => by
   unfold zcx at h
   rw [List.takeWhile_cons] at h
   split at h
   ·rename_i ha
    rcases List.mem_cons.1 h with rfl | h
    ·simpa using ha
    ·exact zc0 p l b h
   ·cases h
theorem zc1 (p : UInt8 -> Bool) : ∀ (l : List UInt8) (b : UInt8) (r : List UInt8), zcy p l = b :: r -> p b = true
 | [], b, r, h => by cases h
 | a :: l, b, r, h => by
   unfold zcy at h
   rw [List.dropWhile_cons] at h
   split at h
   ·exact zc1 p l b r h
   ·rename_i ha
    injection h with h1 h2
    rw [<- h1]
    simpa using ha
theorem zc2 {p : UInt8 -> Bool} {l : List UInt8} (h : ∀ b ∈ l, p b = false) : zcx p l = l /\ zcy p l = [] := by
 have h1 := zcz p l
 have h2 : zcy p l = [] := by
  cases hf : zcy p l with
  | nil => rfl
  | cons b r =>
    have := zc1 p l b r hf
    have hm : b ∈ l := by rw [<- h1, hf]; simp
    rw [h b hm] at this
    cases this
 rw [h2, List.append_nil] at h1
 exact ⟨h1, h2⟩
theorem zc3 {p : UInt8 -> Bool} {a b : List UInt8} (ha : ∀ x ∈ a, p x = false) (c : UInt8) (r : List UInt8) (hb : b = c :: r) (hc : p c = true) : zcx p (a ++ b) = a /\ zcy p (a ++ b) = b := by
 subst hb
 induction a with
 | nil =>
   unfold zcx zcy
   rw [List.nil_append, List.takeWhile_cons, List.dropWhile_cons, if_neg (by rw [hc]; simp), if_neg (by rw [hc]; simp)]
   exact ⟨rfl, rfl⟩
 | cons x a ih =>
   have hx := ha x (by simp)
   obtain ⟨i1, i2⟩ := ih (fun y hy => ha y (by simp [hy]))
   unfold zcx zcy at *
   rw [List.cons_append, List.takeWhile_cons, List.dropWhile_cons, if_pos (by rw [hx]; rfl), if_pos (by rw [hx]; rfl), i1, i2]
   exact ⟨rfl, rfl⟩
theorem zc4 {c : UInt8} {l : List UInt8} : l.any (isB c) = true ↔ c ∈ l := by
 rw [List.any_eq_true]
 constructor
 ·rintro ⟨x, hx, h⟩
  have : x = c := by simpa [isB] using h
  rwa [<- this]
 ·exact fun h => ⟨c, h, by simp [isB]⟩
theorem zc5 {p : UInt8 -> Bool} {l : List UInt8} (h : l.any p = false) : ∀ b ∈ l, p b = false := by
 intro b hb
 cases hp : p b with
 | false => rfl
 | true =>
   have : l.any p = true := List.any_eq_true.2 ⟨b, hb, hp⟩
   rw [h] at this
   cases this
theorem zc6 {p : UInt8 -> Bool} {l : List UInt8} (h : ∀ b ∈ l, p b = false) : l.any p = false := by
 cases ha : l.any p with
 | false => rfl
 | true =>
   obtain ⟨x, hx, hp⟩ := List.any_eq_true.1 ha
   rw [h x hx] at hp
   cases hp
theorem zc7 {p : UInt8 -> Bool} {l : List UInt8} {b : UInt8} (h : b ∈ zcx p l) : b ∈ l := by
 rw [<- zcz p l]
 exact List.mem_append_left _ h
theorem zc8 {p : UInt8 -> Bool} {l : List UInt8} {b : UInt8} (h : b ∈ zcy p l) : b ∈ l := by
 rw [<- zcz p l]
 exact List.mem_append_right _ h
theorem zc9 (c : UInt8) : ∀ l : List UInt8, (Lib.indexByte l c = -1 /\ zcx (isB c) l = l /\ zcy (isB c) l = []) \/ ∃ r, zcy (isB c) l = c :: r /\ Lib.indexByte l c = ((zcx (isB c) l).length : Int)
 | [] => .inl ⟨rfl, rfl, rfl⟩
 | b :: l => by
   by_cases hb : b = c
   ·subst hb
    right
    refine ⟨l, ?_, ?_⟩
    ·unfold zcy
     rw [List.dropWhile_cons, if_neg (by simp [isB])]
    ·have e : zcx (isB b) (b :: l) = [] := by
      unfold zcx
      rw [List.takeWhile_cons, if_neg (by simp [isB])]
     rw [e, Lib.indexByte, if_pos (by simp)]
     rfl
   ·have hb2 : (b == c) = false := by simpa using hb
    have e1 : zcx (isB c) (b :: l) = b :: zcx (isB c) l := by
     unfold zcx
     rw [List.takeWhile_cons, if_pos (by simp [isB, hb])]
    have e2 : zcy (isB c) (b :: l) = zcy (isB c) l := by
     unfold zcy
     rw [List.dropWhile_cons, if_pos (by simp [isB, hb])]
    rw [e1, e2]
    rcases zc9 c l with ⟨h1, h2, h3⟩ | ⟨r, h1, h2⟩
    ·left
     refine ⟨?_, by rw [h2], h3⟩
     rw [Lib.indexByte, hb2, h1]; rfl
    ·right
     refine ⟨r, h1, ?_⟩
     rw [Lib.indexByte, hb2, h2]
     have h4 : (((zcx (isB c) l).length : Int) == -1) = false := by
      rw [beq_eq_false_iff_ne]
      omega
     rw [h4]
     simp
end

end Go.Proofs.YtekaljeicfjkjaaGreatDoor
