/-
URLs in plain words: what parsing answers, the text, the upgrade, and their laws. No program.
-/
import Derived.Test.YtekaljeicfjkjaaGreatDoorB04
namespace Go.Proofs.YtekaljeicfjkjaaGreatDoor
section
open Go.RowKit
structure Uv where
 scheme : List UInt8
 user : List UInt8
 host : Hv
 port : Int
 rest : List UInt8
def uv0 : Uv := ⟨[], [], hv0, 0, []⟩
def z48 : List UInt8 := [104, 116, 116, 112]
def z49 : List UInt8 := [104, 116, 116, 112, 115]
def sWs : List UInt8 := [119, 115]
def z5a : List UInt8 := [119, 115, 115]
def z5b (s : List UInt8) : Bool := s == z48 || s == sWs
def z5c (s : List UInt8) : Int := if z5b s = true then 80 else if (s == z49 || s == z5a) = true then 443 else -1
def z5d (s : List UInt8) : Bool := z5b s || s == z49 || s == z5a
def z5e (s : List UInt8) : List UInt8 := if s == z48 then z49 else z5a
def z5f (b : UInt8) : Bool := decide (b.toNat ≤ 32) || b == 127
def z5g (b : UInt8) : Bool := (decide (97 ≤ b.toNat) && decide (b.toNat ≤ 122)) || (decide (65 ≤ b.toNat) && decide (b.toNat ≤ 90))
def z5h (b : UInt8) : Bool := (decide (48 ≤ b.toNat) && decide (b.toNat ≤ 57)) || b == 43 || b == 45 || b == 46
def z5i : List UInt8 → Bool
 | [] => false
 | b :: r => z5g b && r.all fun c => z5g c || z5h c
def z5j (b : UInt8) : Bool := b == 47 || b == 63 || b == 35
def z5k (l : List UInt8) : List UInt8 := ((zcy (isB 64) l.reverse).drop 1).reverse
def z5l (l : List UInt8) : List UInt8 := (zcx (isB 64) l.reverse).reverse
def z5m (d : List UInt8) (std : Int) : Option Int :=
 if d = [] then some (-1) else if d.all zbe = true then (if 65535 < zqd 10 0 d then none else if (zqd 10 0 d : Int) = std then some (-1) else some (zqd 10 0 d : Int)) else none
def z5n (a : List UInt8) : Option (List UInt8 × List UInt8) := match zcy (isB 93) a with
 | [] => none
 | _ :: [] => some (zcx (isB 93) a ++ [93], [])
 | _ :: c :: d => if c = 58 then some (zcx (isB 93) a ++ [93], d) else none
def z5o (a : List UInt8) : Option (List UInt8 × List UInt8) := if a.head? = some 91 then z5n a else some (zcx (isB 58) a, (zcy (isB 58) a).drop 1)
def z5p (r : List UInt8) : List UInt8 := if r.head? = some 47 then r else 47 :: r
def z5q (sch user rest n d : List UInt8) : Nat × Uv :=
 if (zhu n).1 = 0 then (match z5m d (z5c sch) with
  | none => (16, uv0)
  | some p => (0, ⟨sch, user, (zhu n).2, p, z5p rest⟩))
 else ((zhu n).1, uv0)
def z5r (sch auth rest : List UInt8) : Nat × Uv := match z5o (z5l auth) with
 | none => (4, uv0)
 | some q => z5q sch (z5k auth) rest q.1 q.2
def z5s (sch r : List UInt8) : Nat × Uv := if r.take 2 = [47, 47] then z5r sch (zcx z5j (r.drop 2)) (zcy z5j (r.drop 2)) else (4, uv0)
def z5t (l : List UInt8) : Nat × Uv :=
 if l.any z5f = true then (4, uv0)
 else if (l.any (isB 58) && z5i (zcx (isB 58) l)) = true then
  (if z5d (zbk (zcx (isB 58) l)) = true then z5s (zbk (zcx (isB 58) l)) ((zcy (isB 58) l).drop 1) else (0, ⟨zbk (zcx (isB 58) l), [], hv0, -1, (zcy (isB 58) l).drop 1⟩))
 else (15, uv0)
def z5u (l : List UInt8) : Nat × Uv := if 2048 < l.length then (3, uv0) else z5t l
def z5v (s : List UInt8) : List UInt8 := if s = [] then [] else s ++ [64]
def z5w (p : Int) : List UInt8 := if p = -1 then [] else 58 :: Lib.decDigits p.toNat
def z5x (u : Uv) : List UInt8 := if z5d u.scheme = true then u.scheme ++ 58 :: 47 :: 47 :: (z5v u.user ++ (zhx u.host ++ z5w u.port) ++ u.rest) else u.scheme ++ 58 :: u.rest
def upU (u : Uv) : Uv := if z5b u.scheme = true then ⟨z5e u.scheme, u.user, u.host, if u.port = 443 then -1 else u.port, u.rest⟩ else u
theorem z5y {l : List UInt8} (h : 64 ∉ l) : z5k l = [] ∧ z5l l = l := by
 have hh : ∀ b ∈ l.reverse, isB 64 b = false := by
  intro b hb
  have : b ≠ 64 := fun e => h (by rw [← e]; exact List.mem_reverse.1 hb)
  simpa [isB] using this
 obtain ⟨h1, h2⟩ := zc2 hh
 unfold z5k z5l
 rw [h1, h2]
 simp
theorem z5z {u a : List UInt8} (h : 64 ∉ a) : z5k (u ++ 64 :: a) = u ∧ z5l (u ++ 64 :: a) = a := by
 have hh : ∀ b ∈ a.reverse, isB 64 b = false := by
  intro b hb
  have : b ≠ 64 := fun e => h (by rw [← e]; exact List.mem_reverse.1 hb)
  simpa [isB] using this
 have e : (u ++ 64 :: a).reverse = a.reverse ++ 64 :: u.reverse := by simp
 obtain ⟨h1, h2⟩ := zc3 hh (b := 64 :: u.reverse) 64 u.reverse rfl (by simp [isB])
 unfold z5k z5l
 rw [e, h1, h2]
 simp
theorem z50 (l : List UInt8) : (64 ∉ l ∧ z5k l = [] ∧ z5l l = l) ∨ (l = z5k l ++ 64 :: z5l l ∧ 64 ∉ z5l l) := by
 have h1 := zcz (isB 64) l.reverse
 have h2 : 64 ∉ z5l l := by
  unfold z5l
  rw [List.mem_reverse]
  intro hm
  have := zc0 (isB 64) l.reverse 64 hm
  simp [isB] at this
 cases hf : zcy (isB 64) l.reverse with
 | nil =>
   left
   rw [hf, List.append_nil] at h1
   have e : z5l l = l := by unfold z5l; rw [h1, List.reverse_reverse]
   rw [e] at h2
   exact ⟨h2, (z5y h2).1, e⟩
 | cons b r =>
   right
   have hb : b = 64 := by simpa [isB] using zc1 (isB 64) _ b r hf
   have e : l = z5k l ++ 64 :: z5l l := by
    unfold z5k z5l
    rw [hf, List.drop_succ_cons, List.drop_zero]
    have := congrArg List.reverse h1
    rw [hf, hb, List.reverse_reverse] at this
    exact this.symm.trans (by simp)
   exact ⟨e, h2⟩
theorem z51 (b : UInt8) (h : (z5g b || z5h b) = true) : z5f b = false ∧ isB 58 b = false ∧ z5j b = false := by
 have key : ∀ n : Fin 256, (z5g (UInt8.ofNat n.val) || z5h (UInt8.ofNat n.val)) = true → z5f (UInt8.ofNat n.val) = false ∧ isB 58 (UInt8.ofNat n.val) = false ∧ z5j (UInt8.ofNat n.val) = false := by decide +kernel
 have := key ⟨b.toNat, b.toNat_lt⟩
 simp only [UInt8.ofNat_toNat] at this
 exact this h
theorem z52 (b : UInt8) : z5g (zbf b) = z5g b ∧ z5h (zbf b) = z5h b ∧ z5f (zbf b) = z5f b ∧ isB 58 (zbf b) = isB 58 b := by
 have key : ∀ n : Fin 256, z5g (zbf (UInt8.ofNat n.val)) = z5g (UInt8.ofNat n.val) ∧ z5h (zbf (UInt8.ofNat n.val)) = z5h (UInt8.ofNat n.val) ∧ z5f (zbf (UInt8.ofNat n.val)) = z5f (UInt8.ofNat n.val) ∧ isB 58 (zbf (UInt8.ofNat n.val)) = isB 58 (UInt8.ofNat n.val) := by decide +kernel
 have := key ⟨b.toNat, b.toNat_lt⟩
 simp only [UInt8.ofNat_toNat] at this
 exact this
theorem z53 {s : List UInt8} (h : z5i s = true) : ∀ b ∈ s, (z5g b || z5h b) = true := by
 cases s with
 | nil => cases h
 | cons a r =>
   unfold z5i at h
   rw [Bool.and_eq_true, List.all_eq_true] at h
   intro b hb
   rcases List.mem_cons.1 hb with rfl | hb
   ·rw [h.1]; rfl
   ·exact h.2 b hb
theorem z54 (s : List UInt8) : z5i (zbk s) = z5i s := by
 cases s with
 | nil => rfl
 | cons a r =>
   show (z5g (zbf a) && (r.map zbf).all _) = _
   rw [List.all_map, (z52 a).1]
   unfold z5i
   congr 2
   funext c
   show (z5g (zbf c) || z5h (zbf c)) = _
   rw [(z52 c).1, (z52 c).2.1]
def z55 (b : UInt8) : Prop := z5f b = false ∧ z5j b = false ∧ b ≠ 64
instance (b : UInt8) : Decidable (z55 b) := by unfold z55; infer_instance
theorem z56 (b : UInt8) (h : okN b.toNat = true) : z55 b ∧ b ≠ 58 ∧ b ≠ 91 ∧ b ≠ 93 := by
 have key : ∀ n : Fin 256, okN (UInt8.ofNat n.val).toNat = true → (z5f (UInt8.ofNat n.val) = false ∧ z5j (UInt8.ofNat n.val) = false ∧ UInt8.ofNat n.val ≠ 64) ∧ UInt8.ofNat n.val ≠ 58 ∧ UInt8.ofNat n.val ≠ 91 ∧ UInt8.ofNat n.val ≠ 93 := by decide +kernel
 have := key ⟨b.toNat, b.toNat_lt⟩
 simp only [UInt8.ofNat_toNat] at this
 exact this h
theorem z57 (b : UInt8) (h : 48 ≤ b.toNat ∧ b.toNat ≤ 57) : z55 b ∧ b ≠ 58 ∧ b ≠ 91 ∧ b ≠ 93 := by
 refine z56 b ?_
 unfold okN
 rw [decide_eq_true h.1, decide_eq_true h.2]
 simp
theorem z58 : ∀ d : Fin 16, (z5f (zda d.val) = false ∧ z5j (zda d.val) = false ∧ zda d.val ≠ 64) ∧ zda d.val ≠ 93 := by decide +kernel
theorem z59 {g : List Nat} (hg : G16 g) : ∀ b ∈ zny g, z55 b ∧ b ≠ 93 := by
 have h58 : z55 58 ∧ (58 : UInt8) ≠ 93 := ⟨⟨by decide, by decide, by decide⟩, by decide⟩
 have hj : ∀ P : List Nat, G16 P → ∀ b ∈ z1n 58 (P.map znt), z55 b ∧ b ≠ 93 := by
  intro P hP b hb
  rcases zhm 58 _ b hb with rfl | ⟨x, hx, hb⟩
  ·exact h58
  ·obtain ⟨v, hv, rfl⟩ := List.mem_map.1 hx
   have hv := hP v hv
   have := zdl (b := 16) (by omega) (by omega) (fun c => decide (z55 c ∧ c ≠ 93)) (fun d hd => by
    have h := z58 ⟨d, hd⟩
    exact decide_eq_true h) v (by omega)
   exact of_decide_eq_true (List.all_eq_true.1 this b hb)
 intro b hb
 unfold zny znx at hb
 split at hb
 ·exact hj _ (hg.take _) b hb
 ·rcases List.mem_append.1 hb with hb | hb
  ·exact hj _ (hg.take _) b hb
  ·rcases List.mem_cons.1 hb with rfl | hb
   ·exact h58
   rcases List.mem_cons.1 hb with rfl | hb
   ·exact h58
   ·exact hj _ ((hg.take _).drop _) b hb
theorem z6a {h : Hv} (hw : h.Wf) (hv : zhv h = true) : (∀ b ∈ zhx h, z55 b) ∧ zhx h ≠ [] ∧ (((zhx h).head? ≠ some 91 ∧ ∀ b ∈ zhx h, b ≠ 58) ∨ ∃ x, zhx h = 91 :: (x ++ [93]) ∧ ∀ b ∈ x, b ≠ 93) := by
 unfold zhx
 rw [if_pos hv]
 rcases zij hv with ⟨hn, he⟩ | he | he
 ·have hk : h.kind = 1 := by rw [he]; rfl
  unfold zhw
  rw [if_pos hk]
  have hb : ∀ b ∈ h.name, z55 b ∧ b ≠ 58 ∧ b ≠ 91 := by
   intro b hb
   rcases hn.bytes b hb with rfl | hb
   ·exact ⟨⟨by decide, by decide, by decide⟩, by decide, by decide⟩
   ·exact ⟨(z56 b hb).1, (z56 b hb).2.1, (z56 b hb).2.2.1⟩
  refine ⟨fun b h => (hb b h).1, hn.ne, .inl ⟨?_, fun b h => (hb b h).2.1⟩⟩
  intro hh
  cases hnm : h.name with
  | nil => exact hn.ne hnm
  | cons a r =>
    rw [hnm] at hh
    injection hh with hh
    exact (hb a (by rw [hnm]; simp)).2.2 hh
 ·have hk : h.kind = 2 := by rw [he]; rfl
  unfold zhw
  rw [if_neg (by omega), if_pos hk]
  have hb : ∀ b ∈ zqn h.v4, z55 b ∧ b ≠ 58 ∧ b ≠ 91 := by
   intro b hb
   rcases zid h.v4 b hb with rfl | hb
   ·exact ⟨⟨by decide, by decide, by decide⟩, by decide, by decide⟩
   ·exact ⟨(z57 b hb).1, (z57 b hb).2.1, (z57 b hb).2.2.1⟩
  have hne : zqn h.v4 ≠ [] := by
   unfold zqn
   intro e
   have := congrArg List.length e
   simp [z1n] at this
  refine ⟨fun b h => (hb b h).1, hne, .inl ⟨?_, fun b h => (hb b h).2.1⟩⟩
  intro hh
  cases hnm : zqn h.v4 with
  | nil => exact hne hnm
  | cons a r =>
    rw [hnm] at hh
    injection hh with hh
    exact (hb a (by rw [hnm]; simp)).2.2 hh
 ·have hk : h.kind = 3 := by rw [he]; rfl
  unfold zhw
  rw [if_neg (by omega), if_neg (by omega)]
  have hb := z59 hw.2.2
  refine ⟨?_, by simp, .inr ⟨zny h.v6, rfl, fun b h => (hb b h).2⟩⟩
  intro b h9
  rcases List.mem_cons.1 h9 with rfl | h9
  ·exact ⟨by decide, by decide, by decide⟩
  rcases List.mem_append.1 h9 with h9 | h9
  ·exact (hb b h9).1
  ·simp at h9
   subst h9
   exact ⟨by decide, by decide, by decide⟩
structure UGood (u : Uv) : Prop where
 sch : z5i u.scheme = true
 low : zbk u.scheme = u.scheme
 exu : ∀ b ∈ u.user, z5f b = false
 exr : ∀ b ∈ u.rest, z5f b = false
 wf : u.host.Wf
 spec : z5d u.scheme = true → zhv u.host = true ∧ (∀ b ∈ u.user, z5j b = false) ∧ u.rest.head? = some 47 ∧ (u.port = -1 ∨ (0 ≤ u.port ∧ u.port ≤ 65535 ∧ u.port ≠ z5c u.scheme))
 plain : z5d u.scheme = false → u.user = [] ∧ u.host = hv0 ∧ u.port = -1
theorem z6b {d : List UInt8} {std p : Int} (h : z5m d std = some p) : p = -1 ∨ (0 ≤ p ∧ p ≤ 65535 ∧ p ≠ std) := by
 unfold z5m at h
 split at h
 ·injection h with h
  exact .inl h.symm
 ·split at h
  ·split at h
   ·cases h
   ·rename_i h1
    split at h
    ·injection h with h
     exact .inl h.symm
    ·rename_i h2
     injection h with h
     subst h
     exact .inr ⟨by omega, by omega, h2⟩
  ·cases h
theorem z6c {sch user rest n d : List UInt8} {u : Uv} (h : z5q sch user rest n d = (0, u)) (hs : z5i sch = true) (hl : zbk sch = sch) (hsp : z5d sch = true) (hu : ∀ b ∈ user, z5f b = false ∧ z5j b = false) (hr : ∀ b ∈ rest, z5f b = false) : UGood u := by
 unfold z5q at h
 split at h
 ·rename_i h0
  split at h
  ·cases h
  ·rename_i p hp
   obtain ⟨_, rfl⟩ := Prod.mk.inj h
   obtain ⟨hw, hv⟩ := ziv n
   have hvv : zhv (zhu n).2 = true := by
    rcases hv with ⟨_, hv⟩ | ⟨hv, _⟩
    ·exact hv
    ·exact absurd h0 hv
   refine ⟨hs, hl, fun b hb => (hu b hb).1, ?_, hw, fun _ => ⟨hvv, fun b hb => (hu b hb).2, ?_, z6b hp⟩, fun h => ?_⟩
   ·intro b hb
    simp only [z5p] at hb
    split at hb
    ·exact hr b hb
    ·rcases List.mem_cons.1 hb with rfl | hb
     ·decide
     ·exact hr b hb
   ·simp only [z5p]
    split
    ·rename_i h; exact h
    ·rfl
   ·rw [show (Uv.mk sch user (zhu n).2 p (z5p rest)).scheme = sch from rfl, hsp] at h
    cases h
 ·rename_i h0
  exact absurd (Prod.mk.inj h).1 h0
theorem z6d {l : List UInt8} {b : UInt8} (h : b ∈ z5k l) : b ∈ l := by
 rcases z50 l with ⟨_, h1, _⟩ | ⟨h1, _⟩
 ·rw [h1] at h; cases h
 ·rw [h1]; exact List.mem_append_left _ h
theorem z6e {l : List UInt8} {u : Uv} (h : z5t l = (0, u)) : UGood u := by
 unfold z5t at h
 split at h
 ·cases h
 rename_i hx
 have hx : ∀ b ∈ l, z5f b = false := zc5 (by simpa using hx)
 split at h
 ·rename_i hs
  rw [Bool.and_eq_true] at hs
  have h1 := hs.2
  rw [← z54] at h1
  split at h
  ·rename_i hsp
   unfold z5s at h
   split at h
   ·unfold z5r at h
    split at h
    ·cases h
    ·refine z6c h h1 (zbo _) hsp ?_ ?_
     ·intro b hb
      have hb := z6d hb
      exact ⟨hx b (zc8 (List.mem_of_mem_drop (List.mem_of_mem_drop (zc7 hb)))), zc0 z5j _ b hb⟩
     ·intro b hb
      exact hx b (zc8 (List.mem_of_mem_drop (List.mem_of_mem_drop (zc8 hb))))
   ·cases h
  ·rename_i hsp
   obtain ⟨_, rfl⟩ := Prod.mk.inj h
   refine ⟨h1, zbo _, (fun b hb => by cases hb), ?_, ziu, fun h => absurd h hsp, fun _ => ⟨rfl, rfl, rfl⟩⟩
   intro b hb
   exact hx b (zc8 (List.mem_of_mem_drop hb))
 ·cases h
theorem z6f {p std : Int} (h : p = -1 ∨ (0 ≤ p ∧ p ≤ 65535 ∧ p ≠ std)) : z5m ((z5w p).drop 1) std = some p := by
 unfold z5w
 split
 ·rename_i h1
  subst h1
  rfl
 ·rename_i h1
  rcases h with h | ⟨h2, h3, h4⟩
  ·exact absurd h h1
  rw [List.drop_succ_cons, List.drop_zero]
  unfold z5m
  have e : (p.toNat : Int) = p := by omega
  rw [if_neg (z0u _), if_pos (z0t _), zqq, if_neg (by omega), e, if_neg h4]
theorem z6g {x : List UInt8} {p : Int} (h : (x.head? ≠ some 91 ∧ ∀ b ∈ x, b ≠ 58) ∨ ∃ y, x = 91 :: (y ++ [93]) ∧ ∀ b ∈ y, b ≠ 93) (hne : x ≠ []) : z5o (x ++ z5w p) = some (x, (z5w p).drop 1) := by
 unfold z5o
 rcases h with ⟨h1, h2⟩ | ⟨y, rfl, h2⟩
 ·have hh : (x ++ z5w p).head? ≠ some 91 := by
   cases x with
   | nil => exact absurd rfl hne
   | cons a r => exact h1
  rw [if_neg hh]
  have h3 : ∀ b ∈ x, isB 58 b = false := fun b hb => by simpa [isB] using h2 b hb
  unfold z5w
  split
  ·rw [List.append_nil, (zc2 h3).1, (zc2 h3).2]
  ·obtain ⟨e1, e2⟩ := zc3 h3 (b := 58 :: Lib.decDigits p.toNat) 58 _ rfl (by simp [isB])
   rw [e1, e2]
 ·rw [if_pos (by rfl)]
  unfold z5n
  have e : 91 :: (y ++ [93]) ++ z5w p = (91 :: y) ++ 93 :: z5w p := by simp
  have h3 : ∀ b ∈ 91 :: y, isB 93 b = false := by
   intro b hb
   rcases List.mem_cons.1 hb with rfl | hb
   ·decide
   ·simpa [isB] using h2 b hb
  obtain ⟨e1, e2⟩ := zc3 h3 (b := 93 :: z5w p) 93 _ rfl (by simp [isB])
  rw [e, e1, e2]
  by_cases hp : p = -1
  ·rw [show z5w p = [] by unfold z5w; rw [if_pos hp]]
   rfl
  ·rw [show z5w p = 58 :: Lib.decDigits p.toNat by unfold z5w; rw [if_neg hp]]
   rfl
theorem z6h {u : Uv} (h : UGood u) : z5t (z5x u) = (0, u) := by
 obtain ⟨sch, user, host, port, rest⟩ := u
 have hs := z53 h.sch
 have h58 : ∀ b ∈ sch, isB 58 b = false := fun b hb => (z51 b (hs b hb)).2.1
 have hxs : ∀ b ∈ sch, z5f b = false := fun b hb => (z51 b (hs b hb)).1
 cases hsp : z5d sch with
 | true =>
   obtain ⟨hv, hu, hr, hp⟩ := h.spec hsp
   have hw := h.wf
   have hxu := h.exu
   have hxr := h.exr
   have hsc := h.sch
   have hlo := h.low
   simp only at hv hu hr hp hw hxu hxr hsc hlo
   obtain ⟨hb, hne, hc⟩ := z6a hw hv
   have hpt : ∀ b ∈ z5w port, z55 b := by
    unfold z5w
    split
    ·intro b hb; cases hb
    ·intro b hb
     rcases List.mem_cons.1 hb with rfl | hb
     ·exact ⟨by decide, by decide, by decide⟩
     ·exact (z57 b (zic _ b hb)).1
   have hA : ∀ b ∈ zhx host ++ z5w port, z55 b := fun b hb' => by
    rcases List.mem_append.1 hb' with h | h
    ·exact hb b h
    ·exact hpt b h
   obtain ⟨a, ha⟩ : ∃ a, a = zhx host ++ z5w port := ⟨_, rfl⟩
   have et : z5x ⟨sch, user, host, port, rest⟩ = sch ++ 58 :: 47 :: 47 :: (z5v user ++ a ++ rest) := by
    unfold z5x
    rw [if_pos hsp, ha]
   have hU : ∀ b ∈ z5v user, z5f b = false ∧ z5j b = false := by
    unfold z5v
    split
    ·intro b hb; cases hb
    ·intro b hb
     rcases List.mem_append.1 hb with h | h
     ·exact ⟨hxu b h, hu b h⟩
     ·simp at h
      subst h
      exact ⟨by decide, by decide⟩
   rw [et]
   have hE : (sch ++ 58 :: 47 :: 47 :: (z5v user ++ a ++ rest)).any z5f = false := by
    refine zc6 fun b hb => ?_
    rcases List.mem_append.1 hb with h | h
    ·exact hxs b h
    rcases List.mem_cons.1 h with rfl | h
    ·decide
    rcases List.mem_cons.1 h with rfl | h
    ·decide
    rcases List.mem_cons.1 h with rfl | h
    ·decide
    rcases List.mem_append.1 h with h | h
    ·rcases List.mem_append.1 h with h | h
     ·exact (hU b h).1
     ·rw [ha] at h; exact (hA b h).1
    ·exact hxr b h
   unfold z5t
   rw [if_neg (by rw [hE]; simp)]
   obtain ⟨e1, e2⟩ := zc3 h58 (b := 58 :: 47 :: 47 :: (z5v user ++ a ++ rest)) 58 _ rfl (by decide)
   rw [e1, e2, if_pos (by rw [Bool.and_eq_true]; exact ⟨zc4.2 (by simp), hsc⟩), hlo, if_pos hsp]
   unfold z5s
   rw [if_pos (by rfl)]
   have hend : ∀ b ∈ z5v user ++ a, z5j b = false := fun b hb => by
    rcases List.mem_append.1 hb with h | h
    ·exact (hU b h).2
    ·rw [ha] at h; exact (hA b h).2.1
   have hrc : ∃ r, rest = 47 :: r := by
    cases rest with
    | nil => cases hr
    | cons c r =>
      injection hr with hr
      exact ⟨r, by rw [hr]⟩
   obtain ⟨r, hrr⟩ := hrc
   obtain ⟨e3, e4⟩ := zc3 hend (b := rest) 47 r hrr (by decide)
   rw [show (List.drop 1 (58 :: 47 :: 47 :: (z5v user ++ a ++ rest))).drop 2 = z5v user ++ a ++ rest from rfl, e3, e4]
   have h64 : 64 ∉ a := fun hm => by rw [ha] at hm; exact (hA 64 hm).2.2 rfl
   have eU : z5k (z5v user ++ a) = user ∧ z5l (z5v user ++ a) = a := by
    unfold z5v
    split
    ·rename_i h0
     rw [List.nil_append, h0]
     exact z5y h64
    ·rw [List.append_assoc]
     exact z5z h64
   unfold z5r
   rw [eU.1, eU.2, ha, z6g hc hne]
   simp only
   unfold z5q
   rw [zin hw hv (by have : (zny host.v6).length ≤ 82 := zo0 host.v6 hw.2.2 _ _ 8 (Nat.le_refl _); omega), z6f hp]
   simp only [if_true]
   have : z5p rest = rest := by unfold z5p; rw [if_pos hr]
   rw [this]
 | false =>
   obtain ⟨h1, h2, h3⟩ := h.plain hsp
   have hxr := h.exr
   have hsc := h.sch
   have hlo := h.low
   simp only at h1 h2 h3 hxr hsc hlo
   have et : z5x ⟨sch, user, host, port, rest⟩ = sch ++ 58 :: rest := by
    unfold z5x
    rw [if_neg (by rw [hsp]; simp)]
   rw [et]
   have hE : (sch ++ 58 :: rest).any z5f = false := by
    refine zc6 fun b hb => ?_
    rcases List.mem_append.1 hb with h | h
    ·exact hxs b h
    rcases List.mem_cons.1 h with rfl | h
    ·decide
    ·exact hxr b h
   unfold z5t
   rw [if_neg (by rw [hE]; simp)]
   obtain ⟨e1, e2⟩ := zc3 h58 (b := 58 :: rest) 58 _ rfl (by decide)
   rw [e1, e2, if_pos (by rw [Bool.and_eq_true]; exact ⟨zc4.2 (by simp), hsc⟩), hlo, if_neg (by rw [hsp]; simp), h1, h2, h3]
   rfl
theorem z6i {s : List UInt8} (h : z5b s = true) : s = z48 ∨ s = sWs := by
 unfold z5b at h
 simpa using h
theorem z6j : ∀ s, z5b s = true → z5i (z5e s) = true ∧ zbk (z5e s) = z5e s ∧ z5d s = true ∧ z5d (z5e s) = true ∧ z5b (z5e s) = false ∧ z5c (z5e s) = 443 ∧ z5c s = 80 := by
 intro s h
 rcases z6i h with rfl | rfl <;> decide +kernel
end

end Go.Proofs.YtekaljeicfjkjaaGreatDoor
