/-
Hosts in plain words: percent signs, names, what parsing answers, the text, and their laws. No program.
Superdomains and covering in plain words, and their laws. No program.
The text of an address, step by step: no program.
Lists of bytes cut at the first byte of a kind. No program.
-/
import Derived.Test.YtekaljeicfjkjaaGreatDoorB02
import Derived.Test.YtekaljeicfjkjaaGreatDoorB03
import Derived.Test.YtekaljeicfjkjaaGreatDoorB00
import Derived.Lib.Bytealg
namespace Go.Proofs.YtekaljeicfjkjaaGreatDoor
section
open Go.RowKit
structure Hv where
 kind : Int
 name : List UInt8
 v4 : Nat
 v6 : List Nat
def z8 : List Nat := znr 8
def hv0 : Hv := ⟨0, [], 0, z8⟩
def hvD (n : List UInt8) : Hv := ⟨1, n, 0, z8⟩
def hv4 (v : Nat) : Hv := ⟨2, [], v, z8⟩
def hv6 (g : List Nat) : Hv := ⟨3, [], 0, g⟩
def Hv.Wf (h : Hv) : Prop := h.v4 < 4294967296 ∧ h.v6.length = 8 ∧ G16 h.v6
def zg6 : Nat → List UInt8 → Option (List UInt8)
 | _, [] => some []
 | 0, _ :: _ => none
 | f + 1, b :: r => if b ≠ 37 then (zg6 f r).map (b :: ·)
   else if 2 ≤ r.length ∧ zqc (r.getD 0 0) < 16 ∧ zqc (r.getD 1 0) < 16 then (zg6 f (r.drop 2)).map (UInt8.ofNat (16 * zqc (r.getD 0 0) + zqc (r.getD 1 0)) :: ·) else none
def zg7 (l : List UInt8) : Option (List UInt8) := zg6 l.length l
theorem zg8 : ∀ (f g : Nat) (l : List UInt8), l.length ≤ f → l.length ≤ g → zg6 f l = zg6 g l
 | f, g, [], _, _ => by cases f <;> cases g <;> rfl
 | 0, g, b :: l, h, _ => by simp at h
 | f, 0, b :: l, _, h => by simp at h
 | f + 1, g + 1, b :: l, hf, hg => by
   rw [zg6, zg6]
   simp only [List.length_cons] at hf hg
   rw [zg8 f g l (by omega) (by omega), zg8 f g (l.drop 2) (by rw [List.length_drop]; omega) (by rw [List.length_drop]; omega)]
theorem zg9 : zg7 [] = some [] := rfl
theorem zha (b : UInt8) (r : List UInt8) (h : b ≠ 37) : zg7 (b :: r) = (zg7 r).map (b :: ·) := by
 unfold zg7
 rw [List.length_cons, zg6, if_pos h]
theorem zhb (x y : UInt8) (t : List UInt8) (hx : zqc x < 16) (hy : zqc y < 16) : zg7 (37 :: x :: y :: t) = (zg7 t).map (UInt8.ofNat (16 * zqc x + zqc y) :: ·) := by
 unfold zg7
 rw [List.length_cons, zg6, if_neg (by simp), if_pos ⟨by simp, hx, hy⟩]
 rw [show (x :: y :: t).drop 2 = t from rfl, zg8 (x :: y :: t).length t.length t (by simp; omega) (Nat.le_refl _)]
 rfl
theorem zhc (r : List UInt8) (h : ¬ (2 ≤ r.length ∧ zqc (r.getD 0 0) < 16 ∧ zqc (r.getD 1 0) < 16)) : zg7 (37 :: r) = none := by
 unfold zg7
 rw [List.length_cons, zg6, if_neg (by simp), if_neg h]
theorem zhd : ∀ (l : List UInt8), (∀ b ∈ l, b ≠ 37) → zg7 l = some l
 | [], _ => rfl
 | b :: l, h => by rw [zha b l (h b (by simp)), zhd l (fun c hc => h c (by simp [hc]))]; rfl
def zhe : List (List UInt8) → Nat × List (List UInt8)
 | [] => (0, [])
 | l :: r => if (toA l).1 = 0 then (if (zhe r).1 = 0 then (0, (toA l).2 :: (zhe r).2) else ((zhe r).1, [])) else ((toA l).1, [])
theorem zhf : ∀ p : List (List UInt8), zhe (p.map zbk) = zhe p
 | [] => rfl
 | l :: r => by rw [List.map_cons, zhe, zhe, zs9, zhf r]
theorem zhg : ∀ p : List (List UInt8), (∀ x ∈ p, zs2 x = true) → zhe p = (0, p)
 | [], _ => rfl
 | l :: r, h => by rw [zhe, zs8 (h l (by simp)), zhg r (fun x hx => h x (by simp [hx]))]; rfl
theorem zhh : ∀ (p q : List (List UInt8)), zhe p = (0, q) → (∀ x ∈ q, zs2 x = true) ∧ q.length = p.length
 | [], q, h => by
   obtain ⟨_, rfl⟩ := Prod.mk.inj h
   exact ⟨by simp, rfl⟩
 | l :: r, q, h => by
   rw [zhe] at h
   split at h
   ·rename_i h0
    split at h
    ·rename_i h1
     obtain ⟨_, rfl⟩ := Prod.mk.inj h
     obtain ⟨i1, i2⟩ := zhh r (zhe r).2 (by rw [← h1])
     refine ⟨?_, by rw [List.length_cons, i2, List.length_cons]⟩
     intro x hx
     rcases List.mem_cons.1 hx with rfl | hx
     ·rcases zta l with ⟨_, h2⟩ | ⟨h2, _⟩
      ·exact h2
      ·exact absurd h0 h2
     ·exact i1 x hx
    ·rename_i h1
     obtain ⟨h2, _⟩ := Prod.mk.inj h
     exact absurd h2 h1
   ·rename_i h0
    obtain ⟨h2, _⟩ := Prod.mk.inj h
    exact absurd h2 h0
def vnL (n : List UInt8) : Bool := decide (n ≠ []) && decide (n.length ≤ 253) && !zqi n && (z1e 46 n).all zs2
structure Vn (n : List UInt8) : Prop where
 ne : n ≠ []
 len : n.length ≤ 253
 num : zqi n = false
 lab : ∀ x ∈ z1e 46 n, zs2 x = true
theorem zhi (n : List UInt8) : vnL n = true ↔ Vn n := by
 unfold vnL
 simp only [Bool.and_eq_true, decide_eq_true_eq, Bool.not_eq_true', List.all_eq_true]
 exact ⟨fun ⟨⟨⟨a, b⟩, c⟩, d⟩ => ⟨a, b, c, d⟩, fun h => ⟨⟨⟨h.ne, h.len⟩, h.num⟩, h.lab⟩⟩
theorem zhj {l : List UInt8} (h : zs2 l = true) : ∀ b ∈ l, okN b.toNat = true := by
 unfold zs2 at h
 simp only [Bool.and_eq_true] at h
 exact fun b hb => List.all_eq_true.1 h.1.2 b hb
theorem zhk {l : List UInt8} (h : zs2 l = true) : l ≠ [] := by
 rintro rfl
 cases h
theorem zhl {b : UInt8} (h : okN b.toNat = true) : b ≠ 37 ∧ b ≠ 46 ∧ b ≠ 91 ∧ b ≠ 93 := by
 unfold okN at h
 simp only [Bool.or_eq_true, Bool.and_eq_true, decide_eq_true_eq, beq_iff_eq] at h
 refine ⟨?_, ?_, ?_, ?_⟩ <;> (rintro rfl; revert h; decide)
theorem zhm (c : UInt8) : ∀ (p : List (List UInt8)) (b : UInt8), b ∈ z1n c p → b = c ∨ ∃ x ∈ p, b ∈ x
 | [], b, h => by cases h
 | [a], b, h => .inr ⟨a, by simp, h⟩
 | a :: d :: r, b, h => by
   rw [z1n, List.mem_append, List.mem_cons] at h
   rcases h with h | h | h
   ·exact .inr ⟨a, by simp, h⟩
   ·exact .inl h
   ·rcases zhm c (d :: r) b h with h | ⟨x, hx, hb⟩
    ·exact .inl h
    ·exact .inr ⟨x, by simp at hx ⊢; exact .inr hx, hb⟩
theorem zhn {p : List (List UInt8)} (h : ∀ x ∈ p, zs2 x = true) : ∀ x ∈ p, noB 46 x := fun x hx b hb => (zhl (zhj (h x hx) b hb)).2.1
theorem zho {p : List (List UInt8)} (h : ∀ x ∈ p, zs2 x = true) : ∀ b ∈ z1n 46 p, b = 46 ∨ okN b.toNat = true := by
 intro b hb
 rcases zhm 46 p b hb with hb | ⟨x, hx, hb⟩
 ·exact .inl hb
 ·exact .inr (zhj (h x hx) b hb)
theorem Vn.bytes {n : List UInt8} (h : Vn n) : ∀ b ∈ n, b = 46 ∨ okN b.toNat = true := by
 have := zho h.lab
 rwa [z1q] at this
theorem Vn.byte_not {n : List UInt8} (h : Vn n) : ∀ b ∈ n, b ≠ 37 ∧ b ≠ 91 ∧ b ≠ 93 := by
 intro b hb
 rcases h.bytes b hb with rfl | hb
 ·decide
 ·exact ⟨(zhl hb).1, (zhl hb).2.2.1, (zhl hb).2.2.2⟩
theorem Vn.low {n : List UInt8} (h : Vn n) : ∀ b ∈ n, zbf b = b ∧ b.toNat < 128 := by
 intro b hb
 rcases h.bytes b hb with rfl | hb
 ·exact ⟨by decide, by decide⟩
 ·have := zs5 hb
  exact ⟨yaj (by omega), this.1⟩
theorem zhp {m : List UInt8} (h : ∀ x ∈ z1e 46 (m ++ [46]), zs2 x = true) : False := by
 have : z1e 46 (m ++ [46]) = z1e 46 m ++ [[]] := z1s 46 m []
 rw [this] at h
 exact zhk (h [] (by simp)) rfl
theorem Vn.last {n : List UInt8} (h : Vn n) : n.getLast? ≠ some 46 := by
 intro hl
 obtain ⟨m, rfl⟩ := List.getLast?_eq_some_iff.1 hl
 exact zhp h.lab
theorem zhq {n : List UInt8} (h : n.getLast? ≠ some 46) : zrv n = n := by unfold zrv; rw [if_neg h]
theorem zhr {q : List (List UInt8)} (h : ∀ x ∈ q, zs2 x = true) (hq : q ≠ []) (hl : (z1n 46 q).length ≤ 253) (hn : zqi (z1n 46 q) = false) : Vn (z1n 46 q) := by
 refine ⟨?_, hl, hn, ?_⟩
 ·cases q with
  | nil => exact absurd rfl hq
  | cons a r =>
    have ha := zhk (h a (by simp))
    cases r with
    | nil => exact ha
    | cons b r => rw [z1n]; simp
 ·rw [z1r 46 q hq (zhn h)]
  exact h
def zhs (s : List UInt8) : Nat × Hv :=
 if zqi s = true then (match pnL s with
  | none => (14, hv0)
  | some v => (0, hv4 v))
 else if (zhe (z1e 46 s)).1 = 0 then
  (if 253 < (z1n 46 (zhe (z1e 46 s)).2).length then (3, hv0) else if zqi (z1n 46 (zhe (z1e 46 s)).2) = true then (14, hv0) else (0, hvD (z1n 46 (zhe (z1e 46 s)).2)))
 else ((zhe (z1e 46 s)).1, hv0)
def zht (raw : List UInt8) : Nat × Hv := if raw.getLast? ≠ some 93 ∨ raw.length < 2 then (14, hv0) else match zns ((raw.drop 1).dropLast) with
 | none => (14, hv0)
 | some g => (0, hv6 g)
def zhu (raw : List UInt8) : Nat × Hv :=
 if 1024 < raw.length then (3, hv0)
 else if raw.head? = some 91 then zht raw
 else match zg7 raw with
  | none => (14, hv0)
  | some s => zhs (zrv s)
def zhv (h : Hv) : Bool := if h.kind = 1 then vnL h.name && h.v4 == 0 && h.v6 == z8 else if h.kind = 2 then h.name.isEmpty && h.v6 == z8 else if h.kind = 3 then h.name.isEmpty && h.v4 == 0 else false
def zhw (h : Hv) : List UInt8 := if h.kind = 1 then h.name else if h.kind = 2 then zqn h.v4 else 91 :: (zny h.v6 ++ [93])
def zhx (h : Hv) : List UInt8 := if zhv h = true then zhw h else []
theorem zhy (b : UInt8) : zqc (zbf b) = zqc b := by
 have key : ∀ n : Fin 256, zqc (zbf (UInt8.ofNat n.val)) = zqc (UInt8.ofNat n.val) := by decide +kernel
 have := key ⟨b.toNat, b.toNat_lt⟩
 simpa using this
theorem zhz (b : UInt8) : zbe (zbf b) = zbe b := by
 have key : ∀ n : Fin 256, zbe (zbf (UInt8.ofNat n.val)) = zbe (UInt8.ofNat n.val) := by decide +kernel
 have := key ⟨b.toNat, b.toNat_lt⟩
 simpa using this
theorem zh0 (b : UInt8) : (zbf b == 120 || zbf b == 88) = (b == 120 || b == 88) := by
 have key : ∀ n : Fin 256, (zbf (UInt8.ofNat n.val) == 120 || zbf (UInt8.ofNat n.val) == 88) = (UInt8.ofNat n.val == 120 || UInt8.ofNat n.val == 88) := by decide +kernel
 have := key ⟨b.toNat, b.toNat_lt⟩
 simpa using this
theorem zh1 (b : UInt8) : zbf b = 48 ↔ b = 48 := by
 have key : ∀ n : Fin 256, (zbf (UInt8.ofNat n.val) = 48 ↔ UInt8.ofNat n.val = 48) := by decide +kernel
 have := key ⟨b.toNat, b.toNat_lt⟩
 simpa using this
theorem zh2 (b : UInt8) : zbf b = 46 ↔ b = 46 := by
 have key : ∀ n : Fin 256, (zbf (UInt8.ofNat n.val) = 46 ↔ UInt8.ofNat n.val = 46) := by decide +kernel
 have := key ⟨b.toNat, b.toNat_lt⟩
 simpa using this
theorem zh3 (q : UInt8 → Bool) (hq : ∀ b, q (zbf b) = q b) (l : List UInt8) : (zbk l).all q = l.all q := by
 unfold zbk
 rw [List.all_map]
 congr 1
 funext b
 exact hq b
theorem zh4 (l : List UInt8) : (zqg (zbk l)).isSome = (zqg l).isSome := by
 have hb : ∀ (base : Nat) (m : List UInt8), (zbk m).all (fun c => decide (zqc c < base)) = m.all (fun c => decide (zqc c < base)) := fun base m => zh3 _ (fun b => by rw [zhy]) m
 have hi : ∀ (m : List UInt8), m ≠ [] → (zqg m).isSome = (zqf m).2.all (fun c => decide (zqc c < (zqf m).1)) := by
  intro m hm
  unfold zqg
  rw [if_neg hm]
  cases (zqf m).2.all (fun c => decide (zqc c < (zqf m).1)) <;> rfl
 cases l with
 | nil => rfl
 | cons a r =>
   have e0 : zbk (a :: r) = zbf a :: zbk r := rfl
   rw [hi (zbk (a :: r)) (by rw [e0]; simp), hi (a :: r) (by simp)]
   by_cases ha : a = 48
   ·subst ha
    cases r with
    | nil => rfl
    | cons b r =>
      have e1 : zbk (48 :: b :: r) = 48 :: zbf b :: zbk r := rfl
      have hx := zh0 b
      by_cases hbx : b = 120 ∨ b = 88
      ·have hbx2 : zbf b = 120 ∨ zbf b = 88 := by rcases hbx with rfl | rfl <;> decide
       rw [e1, zqt b r hbx, zqt _ (zbk r) hbx2]
       exact hb 16 r
      ·have hbx2 : ¬ (zbf b = 120 ∨ zbf b = 88) := by
        intro h
        have : (zbf b == 120 || zbf b == 88) = true := by simpa using h
        rw [hx] at this
        exact hbx (by simpa using this)
       rw [e1, zqu b r hbx, zqu _ (zbk r) hbx2]
       exact hb 8 (b :: r)
   ·have e1 : zqf (a :: r) = (10, a :: r) := zqs _ (.inl (by simpa using ha))
    have e2 : zqf (zbk (a :: r)) = (10, zbk (a :: r)) := zqs _ (.inl (by
     show some (zbf a) ≠ some 48
     intro h
     injection h with h
     exact ha ((zh1 a).1 h)))
    rw [e1, e2]
    exact hb 10 (a :: r)
theorem zh5 (l : List UInt8) : zqh (zbk l) = zqh l := by
 unfold zqh
 rw [zh3 _ zhz, zh4, zbm]
 have h1 : (zbk l).isEmpty = l.isEmpty := by cases l <;> rfl
 have h2 : (zbk l).getD 1 0 = zbf (l.getD 1 0) := by
  unfold zbk
  cases l with
  | nil => decide
  | cons a r => cases r with
    | nil => show (0 : UInt8) = zbf 0; decide
    | cons b r => rfl
 rw [h1, h2, Bool.and_assoc, Bool.and_assoc]
 congr 2
 rw [zh0]
theorem zh6 (l : List UInt8) : zrv (zbk l) = zbk (zrv l) := by
 rcases zrx l with ⟨m, rfl⟩ | ⟨h, hu⟩
 ·rw [zbp, zrw, show zbk [46] = [46] from by decide, zrw]
 ·rw [hu]
  refine zhq ?_
  intro h2
  apply h
  unfold zbk at h2
  rw [List.getLast?_map] at h2
  simp only [Option.map_eq_some_iff] at h2
  obtain ⟨b, hb, h3⟩ := h2
  rw [hb, (zh2 b).1 h3]
theorem zh7 (l : List UInt8) : z1e 46 (zbk l) = (z1e 46 l).map zbk := by
 have key : ∀ (l cur : List UInt8), z1d 46 (zbk l) (zbk cur) = (z1d 46 l cur).map zbk := by
  intro l
  induction l with
  | nil => intro cur; rfl
  | cons b l ih =>
    intro cur
    rw [show zbk (b :: l) = zbf b :: zbk l from rfl, z1d, z1d]
    by_cases hc : b = 46
    ·rw [if_pos ((zh2 b).2 hc), if_pos hc, List.map_cons]
     congr 1
     exact ih []
    ·rw [if_neg (fun e => hc ((zh2 b).1 e)), if_neg hc]
     have := ih (cur ++ [b])
     rw [zbp] at this
     exact this
 exact key l []
theorem zh8 (l : List UInt8) : zqi (zbk l) = zqi l := by
 unfold zqi
 rw [zr0, zr0, zh6, zh7]
 have : ((z1e 46 (zrv l)).map zbk).getLastD [] = zbk ((z1e 46 (zrv l)).getLastD []) := by
  rw [List.getLastD_eq_getLast?, List.getLastD_eq_getLast?, List.getLast?_map]
  cases (z1e 46 (zrv l)).getLast? with
  | none => rfl
  | some x => rfl
 rw [this, zh5]
theorem zh9 {n : List UInt8} (h : Vn n) (s : List UInt8) (hs : zbk s = n) (hnum : zqi s = false) : zhs s = (0, hvD n) := by
 have hsp : z1e 46 n = (z1e 46 s).map zbk := by rw [← hs]; exact zh7 s
 have hnm : zhe (z1e 46 s) = (0, z1e 46 n) := by
  rw [← zhf, ← hsp]
  exact zhg _ h.lab
 unfold zhs
 rw [if_neg (by rw [hnum]; simp), hnm]
 simp only [z1q]
 rw [if_pos trivial, if_neg (by have := h.len; omega), if_neg (by rw [h.num]; simp)]
theorem Vn.lowL {n : List UInt8} (h : Vn n) : zbk n = n := by
 unfold Go.Proofs.YtekaljeicfjkjaaGreatDoor.zbk
 have : n.map zbf = n.map id := List.map_congr_left fun b hb => (h.low b hb).1
 rw [this, List.map_id]
theorem zia {n m raw : List UInt8} (h : Vn n) (hl : raw.length ≤ 1024) (hh : raw.head? ≠ some 91) (hm : zbk m = n) (hp : zg7 raw = some m ∨ zg7 raw = some (m ++ [46])) : zhu raw = (0, hvD n) := by
 have hlast : m.getLast? ≠ some 46 := by
  intro h2
  obtain ⟨x, rfl⟩ := List.getLast?_eq_some_iff.1 h2
  apply h.last
  rw [← hm, zbp, show zbk [46] = [46] from by decide]
  simp
 have hnum : zqi m = false := by rw [← zh8, hm]; exact h.num
 unfold zhu
 rw [if_neg (by omega), if_neg hh]
 rcases hp with hp | hp
 ·rw [hp]
  simp only [zhq hlast]
  exact zh9 h m hm hnum
 ·rw [hp]
  simp only [zrw]
  exact zh9 h m hm hnum
theorem zib {n : List UInt8} (h : Vn n) : zhu n = (0, hvD n) := by
 refine zia h (by have := h.len; omega) ?_ h.lowL (.inl (zhd n fun b hb => (h.byte_not b hb).1))
 intro hh
 cases n with
 | nil => cases hh
 | cons b r =>
   injection hh with hh
   exact (h.byte_not b (by simp)).2.1 hh
theorem zic (u : Nat) : ∀ b ∈ Lib.decDigits u, 48 ≤ b.toNat ∧ b.toNat ≤ 57 := by
 intro b hb
 have h := List.all_eq_true.1 (zqw u) b hb
 have h2 := of_decide_eq_true h
 unfold zqc at h2
 split at h2
 ·rename_i h3; exact h3
 ·split at h2
  ·omega
  ·split at h2 <;> omega
theorem zid (v : Nat) : ∀ b ∈ zqn v, b = 46 ∨ (48 ≤ b.toNat ∧ b.toNat ≤ 57) := by
 intro b hb
 unfold zqn at hb
 rcases zhm 46 _ b hb with hb | ⟨x, hx, hb⟩
 ·exact .inl hb
 ·simp only [List.mem_cons, List.not_mem_nil, or_false] at hx
  rcases hx with rfl | rfl | rfl | rfl <;> exact .inr (zic _ b hb)
theorem zie (v : Nat) : ∀ b ∈ zqn v, b ≠ 37 ∧ b ≠ 91 := by
 intro b hb
 rcases zid v b hb with rfl | h
 ·decide
 ·refine ⟨?_, ?_⟩ <;> (rintro rfl; revert h; decide)
theorem zif {u : Nat} (h : u < 256) : (Lib.decDigits u).length ≤ 3 := by
 have key : ∀ n : Fin 256, (Lib.decDigits n.val).length ≤ 3 := by decide +kernel
 exact key ⟨u, h⟩
theorem zig {v : Nat} (h : v < 4294967296) : (zqn v).length ≤ 15 := by
 unfold zqn
 simp only [z1n, List.length_append, List.length_cons]
 have h1 := zif (u := v / 16777216) (by omega)
 have h2 := zif (u := v / 65536 % 256) (by omega)
 have h3 := zif (u := v / 256 % 256) (by omega)
 have h4 := zif (u := v % 256) (by omega)
 omega
theorem zih {v : Nat} (h : v < 4294967296) : zhu (zqn v) = (0, hv4 v) := by
 have hh : (zqn v).head? ≠ some 91 := by
  intro hh
  cases hf : zqn v with
  | nil => rw [hf] at hh; cases hh
  | cons b r =>
    rw [hf] at hh
    injection hh with hh
    exact (zie v b (by rw [hf]; simp)).2 hh
 have hlast : (zqn v).getLast? ≠ some 46 := by
  intro h2
  obtain ⟨m, hm⟩ := List.getLast?_eq_some_iff.1 h2
  have h3 := zq2 v
  have h4 : z1e 46 (m ++ [46]) = z1e 46 m ++ [[]] := z1s 46 m []
  rw [hm, h4] at h3
  have h5 := congrArg List.getLast? h3
  simp at h5
  have h6 := zqx (v % 256)
  rw [h5] at h6
  cases h6
 unfold zhu
 rw [if_neg (by have := zig h; omega), if_neg hh, zhd _ (fun b hb => (zie v b hb).1)]
 simp only [zhq hlast]
 unfold zhs
 rw [if_pos (zq8 v), zq6 v h]
theorem zii {g : List Nat} (hg : G16 g) (hl : g.length = 8) (hlen : (zny g).length ≤ 100) : zhu (91 :: (zny g ++ [93])) = (0, hv6 g) := by
 unfold zhu
 rw [if_neg (by simp; omega), if_pos (show (91 :: (zny g ++ [93])).head? = some 91 from rfl)]
 unfold zht
 have e1 : (91 :: (zny g ++ [93])).getLast? = some 93 := by rw [← List.cons_append, List.getLast?_append]; rfl
 have e2 : ((91 :: (zny g ++ [93])).drop 1).dropLast = zny g := by simp
 rw [if_neg (by rw [e1]; simp), e2, zoo g hg hl]
theorem zij {h : Hv} (hv : zhv h = true) : (Vn h.name ∧ h = hvD h.name) ∨ h = hv4 h.v4 ∨ h = hv6 h.v6 := by
 obtain ⟨k, n, v, g⟩ := h
 unfold zhv at hv
 simp only at hv
 split at hv
 ·rename_i hk
  simp only [Bool.and_eq_true, beq_iff_eq] at hv
  obtain ⟨⟨h1, h2⟩, h3⟩ := hv
  exact .inl ⟨(zhi n).1 h1, by unfold hvD; rw [hk, h2, h3]⟩
 ·split at hv
  ·rename_i _ hk
   simp only [Bool.and_eq_true, beq_iff_eq, List.isEmpty_iff] at hv
   exact .inr (.inl (by unfold hv4; rw [hk, hv.1, hv.2]))
  ·split at hv
   ·rename_i _ _ hk
    simp only [Bool.and_eq_true, beq_iff_eq, List.isEmpty_iff] at hv
    exact .inr (.inr (by unfold hv6; rw [hk, hv.1, hv.2]))
   ·cases hv
theorem zik {n : List UInt8} (h : Vn n) : zhv (hvD n) = true := by
 unfold zhv hvD
 simp [(zhi n).2 h]
theorem zil (v : Nat) : zhv (hv4 v) = true := by
 unfold zhv hv4
 simp
theorem zim (g : List Nat) : zhv (hv6 g) = true := by
 unfold zhv hv6
 simp
theorem zin {h : Hv} (hw : h.Wf) (hv : zhv h = true) (hlen : (zny h.v6).length ≤ 100) : zhu (zhx h) = (0, h) := by
 unfold zhx
 rw [if_pos hv]
 rcases zij hv with ⟨hn, e⟩ | e | e
 ·have e2 : zhw h = h.name := by rw [e]; rfl
  rw [e2, zib hn, ← e]
 ·have e2 : zhw h = zqn h.v4 := by rw [e]; rfl
  rw [e2, zih hw.1, ← e]
 ·have e2 : zhw h = 91 :: (zny h.v6 ++ [93]) := by rw [e]; rfl
  rw [e2, zii hw.2.2 hw.2.1 hlen, ← e]
theorem zio {l : List UInt8} {v : Nat} (h : znn l = some v) : v < 65536 := by
 unfold znn at h
 split at h
 ·rename_i hc
  injection h with h
  subst h
  have key : ∀ (l : List UInt8) (a : Nat), l.all (fun c => decide (zqc c < 16)) = true → zqd 16 a l < (a + 1) * 16 ^ l.length := by
   intro l
   induction l with
   | nil => intro a _; rw [zqd]; simp
   | cons c l ih =>
     intro a h
     rw [List.all_cons, Bool.and_eq_true] at h
     have hc := of_decide_eq_true h.1
     have h2 := ih (a * 16 + zqc c) h.2
     rw [zqd, List.length_cons, Nat.pow_succ]
     have h3 : (a * 16 + zqc c + 1) * 16 ^ l.length ≤ ((a + 1) * 16) * 16 ^ l.length := Nat.mul_le_mul_right _ (by omega)
     have h4 : (a + 1) * 16 * 16 ^ l.length = (a + 1) * (16 ^ l.length * 16) := by rw [Nat.mul_assoc, Nat.mul_comm 16]
     omega
  have h1 := key l 0 hc.2
  have h2 : 16 ^ l.length ≤ 16 ^ 4 := Nat.pow_le_pow_right (by omega) hc.1.2
  have h3 : (16 : Nat) ^ 4 = 65536 := rfl
  omega
 ·cases h
theorem ziq : ∀ (p : List (List UInt8)) (last : Bool) (g : List Nat), zno p last = some g → G16 g
 | [], last, g, h => by
   injection h with h
   subst h
   intro x hx
   cases hx
 | [x], last, g, h => by
   rw [zno] at h
   split at h
   ·rename_i v hv
    injection h with h
    subst h
    have hlt : v < 4294967296 := by
     split at hv
     ·exact (zrb hv).1
     ·cases hv
    intro y hy
    simp only [List.mem_cons, List.not_mem_nil, or_false] at hy
    omega
   ·split at h
    ·rename_i v hv
     injection h with h
     subst h
     intro y hy
     simp only [List.mem_cons, List.not_mem_nil, or_false] at hy
     rw [hy]
     exact zio hv
    ·cases h
 | x :: y :: r, last, g, h => by
   rw [zno] at h
   split at h
   ·cases h
   ·rename_i v hv
    split at h
    ·cases h
    ·rename_i m hm
     injection h with h
     subst h
     intro z hz
     rcases List.mem_cons.1 hz with rfl | hz
     ·exact zio hv
     ·exact ziq (y :: r) last m hm z hz
theorem zir {l : List UInt8} {last : Bool} {g : List Nat} (h : znp l last = some g) : G16 g := by
 unfold znp at h
 split at h
 ·injection h with h
  subst h
  intro x hx
  cases hx
 ·exact ziq _ _ _ h
theorem zis {l : List UInt8} {g : List Nat} (h : zns l = some g) : g.length = 8 ∧ G16 g := by
 unfold zns at h
 split at h
 ·split at h
  ·rename_i m hm
   split at h
   ·rename_i h8
    injection h with h
    subst h
    exact ⟨h8, zir hm⟩
   ·cases h
  ·cases h
 ·split at h
  ·cases h
  ·rename_i a ha
   split at h
   ·cases h
   ·rename_i b hb
    split at h
    ·rename_i h7
     injection h with h
     subst h
     refine ⟨by simp [znr]; omega, ?_⟩
     intro x hx
     simp only [List.mem_append] at hx
     rcases hx with hx | hx | hx
     ·exact zir ha x hx
     ·have := (List.mem_replicate.1 hx).2
      omega
     ·exact zir hb x hx
    ·cases h
theorem zit : z8.length = 8 ∧ G16 z8 := ⟨rfl, by intro x hx; have := (List.mem_replicate.1 hx).2; omega⟩
theorem ziu : hv0.Wf := ⟨by decide, zit.1, zit.2⟩
theorem ziv (raw : List UInt8) : (zhu raw).2.Wf ∧ ((zhu raw).1 = 0 ∧ zhv (zhu raw).2 = true ∨ (zhu raw).1 ≠ 0 ∧ (zhu raw).2 = hv0) := by
 have bad : ∀ e : Nat, e ≠ 0 → ((e, hv0) : Nat × Hv).2.Wf ∧ (((e, hv0) : Nat × Hv).1 = 0 ∧ zhv ((e, hv0) : Nat × Hv).2 = true ∨ ((e, hv0) : Nat × Hv).1 ≠ 0 ∧ ((e, hv0) : Nat × Hv).2 = hv0) := fun e he => ⟨ziu, .inr ⟨he, rfl⟩⟩
 unfold zhu
 split
 ·exact bad 3 (by decide)
 ·split
  ·unfold zht
   split
   ·exact bad 14 (by decide)
   ·split
    ·exact bad 14 (by decide)
    ·rename_i g hg
     have := zis hg
     exact ⟨⟨show (0 : Nat) < 4294967296 by omega, this.1, this.2⟩, .inl ⟨rfl, zim g⟩⟩
  ·split
   ·exact bad 14 (by decide)
   ·unfold zhs
    split
    ·split
     ·exact bad 14 (by decide)
     ·rename_i v hv
      exact ⟨⟨zsf hv, zit.1, zit.2⟩, .inl ⟨rfl, zil v⟩⟩
    ·split
     ·rename_i h0
      split
      ·exact bad 3 (by decide)
      ·split
       ·exact bad 14 (by decide)
       ·rename_i s _ _ hl hn
        obtain ⟨q1, q2⟩ := zhh (z1e 46 (zrv s)) (zhe (z1e 46 (zrv s))).2 (by rw [← h0])
        have hq : (zhe (z1e 46 (zrv s))).2 ≠ [] := by
         intro e
         rw [e] at q2
         have := z1g 46 (zrv s)
         simp at q2
         omega
        exact ⟨⟨show (0 : Nat) < 4294967296 by omega, zit.1, zit.2⟩, .inl ⟨rfl, zik (zhr q1 hq (by omega) (by simpa using hn))⟩⟩
     ·rename_i h0
      exact bad _ h0
end

section
open Go.RowKit
def ziw (n : List UInt8) : Nat := if vnL n = true then (z1e 46 n).length else 0
def zix : List UInt8 → List (List UInt8) → Prop
 | _, [] => True
 | prev, x :: t => (46 :: x) <:+ prev ∧ vnL x = true ∧ zix x t
theorem zix.at_ : ∀ {L : List (List UInt8)} {prev : List UInt8}, zix prev L → ∀ (k : Nat) (hk : k < L.length), (46 :: L[k]) <:+ (if k = 0 then prev else L.getD (k - 1) []) ∧ vnL L[k] = true
 | [], _, _, k, hk => absurd hk (by simp)
 | x :: t, prev, h, 0, _ => ⟨h.1, h.2.1⟩
 | x :: t, prev, h, k + 1, hk => by
   have h1 := zix.at_ h.2.2 k (by simpa using hk)
   refine ⟨?_, h1.2⟩
   rw [if_neg (by omega), show k + 1 - 1 = k from rfl]
   have h2 := h1.1
   cases k with
   | zero => exact h2
   | succ j => exact h2
end

section
open Go.RowKit
theorem zop (x : List UInt8) : ∀ Q : List (List UInt8), z1n 58 (Q ++ [x]) = z1n 58 Q ++ ((if Q = [] then [] else [58]) ++ x)
 | [] => rfl
 | [a] => rfl
 | a :: b :: r => by
   have ih := zop x (b :: r)
   rw [if_neg (by simp)] at ih ⊢
   rw [List.cons_append, z1o 58 a _ (by simp), ih, z1o 58 a (b :: r) (by simp)]
   simp
theorem zoq (a : List Nat) (k : Nat) (h : k < a.length) : a.take (k + 1) = a.take k ++ [a.getD k 0] := by
 rw [List.take_succ_eq_append_getElem h, List.getD_eq_getElem?_getD, List.getElem?_eq_getElem h, Option.getD_some]
theorem zor (a : List Nat) (t : Int) (m k : Nat) (hk : k < a.length) (h : t < 0 ∨ (k : Int) < t) : znx a t m (k + 1) = znx a t m k ++ ((if k = 0 then [] else [58]) ++ znt (a.getD k 0)) := by
 unfold znx
 rw [if_pos (by omega), if_pos (by omega), zoq a k hk, List.map_append, List.map_cons, List.map_nil, zop]
 congr 2
 by_cases h0 : k = 0
 ·subst h0; rfl
 ·rw [if_neg h0, if_neg]
  intro e
  rw [List.map_eq_nil_iff, List.take_eq_nil_iff] at e
  rcases e with e | e
  ·exact h0 e
  ·subst e; simp at hk
theorem zos (a : List Nat) (t m k : Nat) (hk : k < a.length) (hm : 0 < m) (h : t + m ≤ k) : znx a (t : Int) m (k + 1) = znx a (t : Int) m k ++ ((if k = t + m then [] else [58]) ++ znt (a.getD k 0)) := by
 unfold znx
 rw [if_neg (by omega), if_neg (by omega), Int.toNat_natCast, zoq a k hk]
 have e : (a.take k ++ [a.getD k 0]).drop (t + m) = (a.take k).drop (t + m) ++ [a.getD k 0] := by
  rw [List.drop_append_of_le_length (by simp; omega)]
 rw [e, List.map_append, List.map_cons, List.map_nil, zop, List.append_assoc, List.cons_append, List.cons_append]
 congr 4
 by_cases h0 : k = t + m
 ·rw [if_pos h0, if_pos]
  rw [List.map_eq_nil_iff, List.drop_eq_nil_iff]
  simp; omega
 ·rw [if_neg h0, if_neg]
  intro e
  rw [List.map_eq_nil_iff, List.drop_eq_nil_iff] at e
  simp at e
  omega
theorem zot (a : List Nat) (t m : Nat) (hm : 0 < m) (h : t + m ≤ a.length) : znx a (t : Int) m (t + m) = znx a (t : Int) m t ++ [58, 58] := by
 unfold znx
 rw [if_neg (by omega), if_pos (by omega), Int.toNat_natCast]
 have e : (a.take (t + m)).drop (t + m) = [] := by rw [List.drop_eq_nil_iff]; simp; omega
 rw [e]
 simp [z1n]
theorem zou (a : List Nat) (t : Int) (m : Nat) (h : t < 0 ∨ 0 ≤ t) : znx a t m 0 = [] := by
 unfold znx
 rw [if_pos (by omega)]; rfl
theorem zov (a : List Nat) (ha : G16 a) (t : Int) (m k : Nat) (hk : k ≤ a.length) (h0 : 0 < k) (h : t < 0 ∨ (k : Int) ≤ t) : znx a t m k ≠ [] ∧ (znx a t m k).getLast? ≠ some 58 := by
 unfold znx
 rw [if_pos h]
 refine ⟨zn9 (ha.take k).cols ?_, zoa (ha.take k).cols⟩
 intro e
 rw [List.map_eq_nil_iff, List.take_eq_nil_iff] at e
 rcases e with e | e
 ·omega
 ·subst e; simp at hk; omega
theorem zow (l m : List UInt8) (h : m ≠ []) : (l ++ 58 :: 58 :: m).getLast? = m.getLast? := by
 rw [List.getLast?_append]
 cases m with
 | nil => exact absurd rfl h
 | cons c r =>
   rw [List.getLast?_cons_cons, List.getLast?_cons_cons]
   cases hx : (c :: r).getLast? with
   | none => rw [List.getLast?_eq_none_iff] at hx; cases hx
   | some y => rfl
theorem zox (a : List Nat) (t m : Nat) (hm : 0 < m) (h : t + m ≤ a.length) : znx a (t : Int) m (t + m) ≠ [] ∧ (znx a (t : Int) m (t + m)).getLast? = some 58 := by
 rw [zot a t m hm h]
 refine ⟨by simp, by simp [List.getLast?_append]⟩
theorem zoy (a : List Nat) (ha : G16 a) (t m k : Nat) (hk : k ≤ a.length) (hm : 0 < m) (h : t + m < k) : znx a (t : Int) m k ≠ [] ∧ (znx a (t : Int) m k).getLast? ≠ some 58 := by
 unfold znx
 rw [if_neg (by omega), Int.toNat_natCast]
 have hne : ((a.take k).drop (t + m)).map znt ≠ [] := by
  intro e
  rw [List.map_eq_nil_iff, List.drop_eq_nil_iff] at e
  simp at e; omega
 have hc := ((ha.take k).drop (t + m)).cols
 refine ⟨by simp, ?_⟩
 rw [zow _ _ (zn9 hc hne)]
 exact zoa hc
theorem zoz (P : List Nat) (h : G16 P) : (z1n 58 (P.map znt)).length ≤ 5 * P.length := by
 induction P with
 | nil => simp [z1n]
 | cons a r ih =>
   have h1 := (zoj a (h a (by simp))).2
   have ih := ih (fun x hx => h x (by simp [hx]))
   cases r with
   | nil => simp [z1n]; omega
   | cons b r =>
     simp only [List.map_cons] at ih ⊢
     rw [z1n]
     simp at ih ⊢
     omega
theorem zo0 (a : List Nat) (ha : G16 a) (t : Int) (m k : Nat) (hk : k ≤ 8) : (znx a t m k).length ≤ 82 := by
 unfold znx
 split
 ·have := zoz (a.take k) (ha.take k); simp only [List.length_take] at this; omega
 ·have h1 := zoz (a.take t.toNat) (ha.take _)
  have h2 := zoz ((a.take k).drop (t.toNat + m)) ((ha.take k).drop _)
  rw [List.length_append, List.length_cons, List.length_cons]
  rename_i hh
  simp only [List.length_take, List.length_drop] at h1 h2
  omega
theorem zo1 (l : List Nat) (q : Nat) (h : q ≤ znu l) (hq : q < l.length) (hz : l.getD q 0 = 0) : q + 1 ≤ znu l := by
 induction l generalizing q with
 | nil => simp at hq
 | cons x r ih =>
   unfold znu at h ih ⊢
   rw [List.takeWhile_cons] at h ⊢
   cases q with
   | zero =>
     have hx : x = 0 := by simpa using hz
     subst hx
     simp
   | succ q =>
     by_cases hx : (x == 0) = true
     ·rw [if_pos hx] at h ⊢
      have := ih q (by simpa using h) (by simpa using hq) (by simpa using hz)
      simp; omega
     ·rw [if_neg hx] at h
      simp at h
theorem zo2 (l : List Nat) (q : Nat) (h : q ≤ znu l) (hq : q = l.length ∨ (q < l.length ∧ l.getD q 0 ≠ 0)) : znu l = q := by
 induction l generalizing q with
 | nil => simp [znu] at h ⊢; omega
 | cons x r ih =>
   have hle := zn0 (x :: r)
   unfold znu at h ih hle ⊢
   rw [List.takeWhile_cons] at h hle ⊢
   by_cases hx : (x == 0) = true
   ·rw [if_pos hx] at h hle ⊢
    cases q with
    | zero =>
      rcases hq with hq | hq
      ·simp at hq
      ·exact absurd (by simpa using hx) hq.2
    | succ q =>
      have := ih q (by simpa using h) (by
       rcases hq with hq | hq
       ·exact .inl (by simpa using hq)
       ·exact .inr ⟨by simpa using hq.1, by simpa using hq.2⟩)
      simp only [List.length_cons]
      omega
   ·rw [if_neg hx] at h ⊢
    simp at h ⊢
    omega
end

section
open Go.RowKit
def zcx (p : UInt8 → Bool) (l : List UInt8) : List UInt8 := l.takeWhile fun b => !p b
def zcy (p : UInt8 → Bool) (l : List UInt8) : List UInt8 := l.dropWhile fun b => !p b
def isB (c : UInt8) (b : UInt8) : Bool := b == c
theorem zcz (p : UInt8 → Bool) (l : List UInt8) : zcx p l ++ zcy p l = l := List.takeWhile_append_dropWhile
theorem zc0 (p : UInt8 → Bool) : ∀ (l : List UInt8), ∀ b ∈ zcx p l, p b = false
 | [], b, h => by cases h
 | a :: l, b, h => by
   unfold zcx at h
   rw [List.takeWhile_cons] at h
   split at h
   ·rename_i ha
    rcases List.mem_cons.1 h with rfl | h
    ·simpa using ha
    ·exact zc0 p l b h
   ·cases h
theorem zc1 (p : UInt8 → Bool) : ∀ (l : List UInt8) (b : UInt8) (r : List UInt8), zcy p l = b :: r → p b = true
 | [], b, r, h => by cases h
 | a :: l, b, r, h => by
   unfold zcy at h
   rw [List.dropWhile_cons] at h
   split at h
   ·exact zc1 p l b r h
   ·rename_i ha
    injection h with h1 h2
    rw [← h1]
    simpa using ha
theorem zc2 {p : UInt8 → Bool} {l : List UInt8} (h : ∀ b ∈ l, p b = false) : zcx p l = l ∧ zcy p l = [] := by
 have h1 := zcz p l
 have h2 : zcy p l = [] := by
  cases hf : zcy p l with
  | nil => rfl
  | cons b r =>
    have := zc1 p l b r hf
    have hm : b ∈ l := by rw [← h1, hf]; simp
    rw [h b hm] at this
    cases this
 rw [h2, List.append_nil] at h1
 exact ⟨h1, h2⟩
theorem zc3 {p : UInt8 → Bool} {a b : List UInt8} (ha : ∀ x ∈ a, p x = false) (c : UInt8) (r : List UInt8) (hb : b = c :: r) (hc : p c = true) : zcx p (a ++ b) = a ∧ zcy p (a ++ b) = b := by
 subst hb
 induction a with
 | nil =>
   unfold zcx zcy
   rw [List.nil_append, List.takeWhile_cons, List.dropWhile_cons, if_neg (by rw [hc]; simp), if_neg (by rw [hc]; simp)]
   exact ⟨rfl, rfl⟩
 | cons x a ih =>
   have hx := ha x (by simp)
   obtain ⟨i1, i2⟩ := ih (fun y hy => ha y (by simp [hy]))
   unfold zcx zcy at *
   rw [List.cons_append, List.takeWhile_cons, List.dropWhile_cons, if_pos (by rw [hx]; rfl), if_pos (by rw [hx]; rfl), i1, i2]
   exact ⟨rfl, rfl⟩
theorem zc4 {c : UInt8} {l : List UInt8} : l.any (isB c) = true ↔ c ∈ l := by
 rw [List.any_eq_true]
 constructor
 ·rintro ⟨x, hx, h⟩
  have : x = c := by simpa [isB] using h
  rwa [← this]
 ·exact fun h => ⟨c, h, by simp [isB]⟩
theorem zc5 {p : UInt8 → Bool} {l : List UInt8} (h : l.any p = false) : ∀ b ∈ l, p b = false := by
 intro b hb
 cases hp : p b with
 | false => rfl
 | true =>
   have : l.any p = true := List.any_eq_true.2 ⟨b, hb, hp⟩
   rw [h] at this
   cases this
theorem zc6 {p : UInt8 → Bool} {l : List UInt8} (h : ∀ b ∈ l, p b = false) : l.any p = false := by
 cases ha : l.any p with
 | false => rfl
 | true =>
   obtain ⟨x, hx, hp⟩ := List.any_eq_true.1 ha
   rw [h x hx] at hp
   cases hp
theorem zc7 {p : UInt8 → Bool} {l : List UInt8} {b : UInt8} (h : b ∈ zcx p l) : b ∈ l := by
 rw [← zcz p l]
 exact List.mem_append_left _ h
theorem zc8 {p : UInt8 → Bool} {l : List UInt8} {b : UInt8} (h : b ∈ zcy p l) : b ∈ l := by
 rw [← zcz p l]
 exact List.mem_append_right _ h
theorem zc9 (c : UInt8) : ∀ l : List UInt8, (Lib.indexByte l c = -1 ∧ zcx (isB c) l = l ∧ zcy (isB c) l = []) ∨ ∃ r, zcy (isB c) l = c :: r ∧ Lib.indexByte l c = ((zcx (isB c) l).length : Int)
 | [] => .inl ⟨rfl, rfl, rfl⟩
 | b :: l => by
   by_cases hb : b = c
   ·subst hb
    right
    refine ⟨l, ?_, ?_⟩
    ·unfold zcy
     rw [List.dropWhile_cons, if_neg (by simp [isB])]
    ·have e : zcx (isB b) (b :: l) = [] := by
      unfold zcx
      rw [List.takeWhile_cons, if_neg (by simp [isB])]
     rw [e, Lib.indexByte, if_pos (by simp)]
     rfl
   ·have hb2 : (b == c) = false := by simpa using hb
    have e1 : zcx (isB c) (b :: l) = b :: zcx (isB c) l := by
     unfold zcx
     rw [List.takeWhile_cons, if_pos (by simp [isB, hb])]
    have e2 : zcy (isB c) (b :: l) = zcy (isB c) l := by
     unfold zcy
     rw [List.dropWhile_cons, if_pos (by simp [isB, hb])]
    rw [e1, e2]
    rcases zc9 c l with ⟨h1, h2, h3⟩ | ⟨r, h1, h2⟩
    ·left
     refine ⟨?_, by rw [h2], h3⟩
     rw [Lib.indexByte, hb2, h1]; rfl
    ·right
     refine ⟨r, h1, ?_⟩
     rw [Lib.indexByte, hb2, h2]
     have h4 : (((zcx (isB c) l).length : Int) == -1) = false := by
      rw [beq_eq_false_iff_ne]
      omega
     rw [h4]
     simp
end

end Go.Proofs.YtekaljeicfjkjaaGreatDoor
