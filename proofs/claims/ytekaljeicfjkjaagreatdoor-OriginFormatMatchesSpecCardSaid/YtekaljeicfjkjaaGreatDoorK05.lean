/-
URLs in plain words: what parsing answers, the text, the upgrade, and their laws. No program.
-/
import Derived.Test.YtekaljeicfjkjaaGreatDoorK04
namespace Go.Proofs.YtekaljeicfjkjaaGreatDoor
section
open Go.RowKit
set_option maxHeartbeats 16000000
structure Uv where
 scheme : List UInt8
 user : List UInt8
 host : Hv
 port : Int
 rest : List UInt8
def uv0 : Uv := ⟨[], [], hv0, 0, []⟩
def z6n : List UInt8 := [104, 116, 116, 112]
def z6o : List UInt8 := [104, 116, 116, 112, 115]
def sWs : List UInt8 := [119, 115]
def z6p : List UInt8 := [119, 115, 115]
def z6q (s : List UInt8) : Bool := s == z6n || s == sWs
def z6r (s : List UInt8) : Int := if z6q s = true then 80 else if (s == z6o || s == z6p) = true then 443 else -1
def z6s (s : List UInt8) : Bool := z6q s || s == z6o || s == z6p
def z6t (s : List UInt8) : List UInt8 := if s == z6n then z6o else z6p
def z6u (b : UInt8) : Bool := decide (b.toNat <= 32) || b == 127
def z6v (b : UInt8) : Bool := (decide (97 <= b.toNat) && decide (b.toNat <= 122)) || (decide (65 <= b.toNat) && decide (b.toNat <= 90))
def z6w (b : UInt8) : Bool := (decide (48 <= b.toNat) && decide (b.toNat <= 57)) || b == 43 || b == 45 || b == 46
def z6x : List UInt8 -> Bool
 | [] => false
 | b :: r => z6v b && r.all fun c => z6v c || z6w c
def z6y (b : UInt8) : Bool := b == 47 || b == 63 || b == 35
def z6z (l : List UInt8) : List UInt8 := ((zcy (isB 64) l.reverse).drop 1).reverse
def z60 (l : List UInt8) : List UInt8 := (zcx (isB 64) l.reverse).reverse
def z61 (d : List UInt8) (std : Int) : Option Int :=
 if d = [] then some (-1) else if d.all zbe = true then (if 65535 < zqf 10 0 d then none else if (zqf 10 0 d : Int) = std then some (-1) else some (zqf 10 0 d : Int)) else none
def z62 (a : List UInt8) : Option (List UInt8 × List UInt8) := match zcy (isB 93) a with
 | [] => none
 | _ :: [] => some (zcx (isB 93) a ++ [93], [])
 | _ :: c :: d => if c = 58 then some (zcx (isB 93) a ++ [93], d) else none
def z63 (a : List UInt8) : Option (List UInt8 × List UInt8) := if a.head? = some 91 then z62 a else some (zcx (isB 58) a, (zcy (isB 58) a).drop 1)
def z64 (r : List UInt8) : List UInt8 := if r.head? = some 47 then r else 47 :: r
def z65 (sch user rest n d : List UInt8) : Nat × Uv :=
 if (zhw n).1 = 0 then (match z61 d (z6r sch) with
  | none => (16, uv0)
  | some p => (0, ⟨sch, user, (zhw n).2, p, z64 rest⟩))
 else ((zhw n).1, uv0)
def z66 (sch auth rest : List UInt8) : Nat × Uv := match z63 (z60 auth) with
 | none => (4, uv0)
 | some q => z65 sch (z6z auth) rest q.1 q.2
def z67 (sch r : List UInt8) : Nat × Uv := if r.take 2 = [47, 47] then z66 sch (zcx z6y (r.drop 2)) (zcy z6y (r.drop 2)) else (4, uv0)
def z68 (l : List UInt8) : Nat × Uv :=
 if l.any z6u = true then (4, uv0)
 else if (l.any (isB 58) && z6x (zcx (isB 58) l)) = true then
  (if z6s (zbk (zcx (isB 58) l)) = true then z67 (zbk (zcx (isB 58) l)) ((zcy (isB 58) l).drop 1) else (0, ⟨zbk (zcx (isB 58) l), [], hv0, -1, (zcy (isB 58) l).drop 1⟩))
 else (15, uv0)
def z69 (l : List UInt8) : Nat × Uv := if 2048 < l.length then (3, uv0) else z68 l
def z7a (s : List UInt8) : List UInt8 := if s = [] then [] else s ++ [64]
def z7b (p : Int) : List UInt8 := if p = -1 then [] else 58 :: Lib.decDigits p.toNat
def z7c (u : Uv) : List UInt8 := if z6s u.scheme = true then u.scheme ++ 58 :: 47 :: 47 :: (z7a u.user ++ (zhz u.host ++ z7b u.port) ++ u.rest) else u.scheme ++ 58 :: u.rest
theorem z7d {l : List UInt8} (h : 64 ∉ l) : z6z l = [] /\ z60 l = l := by
 have hh : ∀ b ∈ l.reverse, isB 64 b = false := by
  intro b hb
  have : b ≠ 64 := fun e => h (by rw [<- e]; exact List.mem_reverse.1 hb)
  simpa [isB] using this
 obtain ⟨h1, h2⟩ := zc2 hh
 unfold z6z z60
 rw [h1, h2]
 simp
theorem z7e {u a : List UInt8} (h : 64 ∉ a) : z6z (u ++ 64 :: a) = u /\ z60 (u ++ 64 :: a) = a := by
 have hh : ∀ b ∈ a.reverse, isB 64 b = false := by
  intro b hb
  have : b ≠ 64 := fun e => h (by rw [<- e]; exact List.mem_reverse.1 hb)
  simpa [isB] using this
 have e : (u ++ 64 :: a).reverse = a.reverse ++ 64 :: u.reverse := by simp
 obtain ⟨h1, h2⟩ := zc3 hh (b := 64 :: u.reverse) 64 u.reverse rfl (by simp [isB])
 unfold z6z z60
 rw [e, h1, h2]
 simp
theorem z7f (l : List UInt8) : (64 ∉ l /\ z6z l = [] /\ z60 l = l) \/ (l = z6z l ++ 64 :: z60 l /\ 64 ∉ z60 l) := by
 have h1 := zcz (isB 64) l.reverse
 have h2 : 64 ∉ z60 l := by
  unfold z60
  rw [List.mem_reverse]
  intro hm
  have := zc0 (isB 64) l.reverse 64 hm
  simp [isB] at this
 cases hf : zcy (isB 64) l.reverse with
 | nil =>
   left
   rw [hf, List.append_nil] at h1
   have e : z60 l = l := by unfold z60; rw [h1, List.reverse_reverse]
   rw [e] at h2
   exact ⟨h2, (z7d h2).1, e⟩
 | cons b r =>
   right
   have hb : b = 64 := by simpa [isB] using zc1 (isB 64) _ b r hf
   have e : l = z6z l ++ 64 :: z60 l := by
    unfold z6z z60
    rw [hf, List.drop_succ_cons, List.drop_zero]
    have := congrArg List.reverse h1
    rw [hf, hb, List.reverse_reverse] at this
    exact this.symm.trans (by simp)
   exact ⟨e, h2⟩
theorem z7g (b : UInt8) (h : (z6v b || z6w b) = true) : z6u b = false /\ isB 58 b = false /\ z6y b = false := by
 have key : ∀ n : Fin 256, (z6v (UInt8.ofNat n.val) || z6w (UInt8.ofNat n.val)) = true -> z6u (UInt8.ofNat n.val) = false /\ isB 58 (UInt8.ofNat n.val) = false /\ z6y (UInt8.ofNat n.val) = false := by decide +kernel
 have := key ⟨b.toNat, b.toNat_lt⟩
 simp only [UInt8.ofNat_toNat] at this
 exact this h
theorem z7h (b : UInt8) : z6v (zbf b) = z6v b /\ z6w (zbf b) = z6w b /\ z6u (zbf b) = z6u b /\ isB 58 (zbf b) = isB 58 b := by
 have key : ∀ n : Fin 256, z6v (zbf (UInt8.ofNat n.val)) = z6v (UInt8.ofNat n.val) /\ z6w (zbf (UInt8.ofNat n.val)) = z6w (UInt8.ofNat n.val) /\ z6u (zbf (UInt8.ofNat n.val)) = z6u (UInt8.ofNat n.val) /\ isB 58 (zbf (UInt8.ofNat n.val)) = isB 58 (UInt8.ofNat n.val) := by decide +kernel
 have := key ⟨b.toNat, b.toNat_lt⟩
 simp only [UInt8.ofNat_toNat] at this
 exact this
theorem z7i {s : List UInt8} (h : z6x s = true) : ∀ b ∈ s, (z6v b || z6w b) = true := by
 cases s with
 | nil => cases h
 | cons a r =>
   unfold z6x at h
   rw [Bool.and_eq_true, List.all_eq_true] at h
   intro b hb
   rcases List.mem_cons.1 hb with rfl | hb
   ·rw [h.1]; rfl
   ·exact h.2 b hb
theorem z7j (s : List UInt8) : z6x (zbk s) = z6x s := by
 cases s with
 | nil => rfl
 | cons a r =>
   show (z6v (zbf a) && (r.map zbf).all _) = _
   rw [List.all_map, (z7h a).1]
   unfold z6x
   congr 2
   funext c
   show (z6v (zbf c) || z6w (zbf c)) = _
   rw [(z7h c).1, (z7h c).2.1]
def z7k (b : UInt8) : Prop := z6u b = false /\ z6y b = false /\ b ≠ 64
instance (b : UInt8) : Decidable (z7k b) := by unfold z7k; infer_instance
theorem z7l (b : UInt8) (h : okN b.toNat = true) : z7k b /\ b ≠ 58 /\ b ≠ 91 /\ b ≠ 93 := by
 have key : ∀ n : Fin 256, okN (UInt8.ofNat n.val).toNat = true -> (z6u (UInt8.ofNat n.val) = false /\ z6y (UInt8.ofNat n.val) = false /\ UInt8.ofNat n.val ≠ 64) /\ UInt8.ofNat n.val ≠ 58 /\ UInt8.ofNat n.val ≠ 91 /\ UInt8.ofNat n.val ≠ 93 := by decide +kernel
 have := key ⟨b.toNat, b.toNat_lt⟩
 simp only [UInt8.ofNat_toNat] at this
 exact this h
theorem z7m (b : UInt8) (h : 48 <= b.toNat /\ b.toNat <= 57) : z7k b /\ b ≠ 58 /\ b ≠ 91 /\ b ≠ 93 := by
 refine z7l b ?_
 unfold okN
 rw [jT h.1, jT h.2]
 simp
theorem z7n : ∀ d : Fin 16, (z6u (zda d.val) = false /\ z6y (zda d.val) = false /\ zda d.val ≠ 64) /\ zda d.val ≠ 93 := by decide +kernel
theorem z7o {g : List Nat} (hg : G16 g) : ∀ b ∈ zn0 g, z7k b /\ b ≠ 93 := by
 have h58 : z7k 58 /\ (58 : UInt8) ≠ 93 := ⟨⟨by decide, by decide, by decide⟩, by decide⟩
 have hj : ∀ P : List Nat, G16 P -> ∀ b ∈ z3k 58 (P.map znv), z7k b /\ b ≠ 93 := by
  intro P hP b hb
  rcases zho 58 _ b hb with rfl | ⟨x, hx, hb⟩
  ·exact h58
  ·obtain ⟨v, hv, rfl⟩ := List.mem_map.1 hx
   have hv := hP v hv
   have := zdl (b := 16) (by omega) (by omega) (fun c => decide (z7k c /\ c ≠ 93)) (fun d hd => by
    have h := z7n ⟨d, hd⟩
    exact jT h) v (by omega)
   exact of_decide_eq_true (List.all_eq_true.1 this b hb)
 intro b hb
 unfold zn0 znz at hb
 split at hb
 ·exact hj _ (hg.take _) b hb
 ·rcases List.mem_append.1 hb with hb | hb
  ·exact hj _ (hg.take _) b hb
  ·rcases List.mem_cons.1 hb with rfl | hb
   ·exact h58
   rcases List.mem_cons.1 hb with rfl | hb
   ·exact h58
   ·exact hj _ ((hg.take _).drop _) b hb
theorem z7p {h : Hv} (hw : h.Wf) (hv : zhx h = true) : (∀ b ∈ zhz h, z7k b) /\ zhz h ≠ [] /\ (((zhz h).head? ≠ some 91 /\ ∀ b ∈ zhz h, b ≠ 58) \/ ∃ x, zhz h = 91 :: (x ++ [93]) /\ ∀ b ∈ x, b ≠ 93) := by
 unfold zhz
 rw [if_pos hv]
 rcases zil hv with ⟨hn, he⟩ | he | he
 ·have hk : h.kind = 1 := by rw [he]; rfl
  unfold zhy
  rw [if_pos hk]
  have hb : ∀ b ∈ h.name, z7k b /\ b ≠ 58 /\ b ≠ 91 := by
   intro b hb
   rcases hn.bytes b hb with rfl | hb
   ·exact ⟨⟨by decide, by decide, by decide⟩, by decide, by decide⟩
   ·exact ⟨(z7l b hb).1, (z7l b hb).2.1, (z7l b hb).2.2.1⟩
  refine ⟨fun b h => (hb b h).1, hn.ne, .inl ⟨?_, fun b h => (hb b h).2.1⟩⟩
  intro hh
  cases hnm : h.name with
  | nil => exact hn.ne hnm
  | cons a r =>
    rw [hnm] at hh
    injection hh with hh
    exact (hb a (by rw [hnm]; simp)).2.2 hh
 ·have hk : h.kind = 2 := by rw [he]; rfl
  unfold zhy
  rw [if_neg (by omega), if_pos hk]
  have hb : ∀ b ∈ zqp h.v4, z7k b /\ b ≠ 58 /\ b ≠ 91 := by
   intro b hb
   rcases zif h.v4 b hb with rfl | hb
   ·exact ⟨⟨by decide, by decide, by decide⟩, by decide, by decide⟩
   ·exact ⟨(z7m b hb).1, (z7m b hb).2.1, (z7m b hb).2.2.1⟩
  have hne : zqp h.v4 ≠ [] := by
   unfold zqp
   intro e
   have := congrArg List.length e
   simp [z3k] at this
  refine ⟨fun b h => (hb b h).1, hne, .inl ⟨?_, fun b h => (hb b h).2.1⟩⟩
  intro hh
  cases hnm : zqp h.v4 with
  | nil => exact hne hnm
  | cons a r =>
    rw [hnm] at hh
    injection hh with hh
    exact (hb a (by rw [hnm]; simp)).2.2 hh
 ·have hk : h.kind = 3 := by rw [he]; rfl
  unfold zhy
  rw [if_neg (by omega), if_neg (by omega)]
  have hb := z7o hw.2.2
  refine ⟨?_, by simp, .inr ⟨zn0 h.v6, rfl, fun b h => (hb b h).2⟩⟩
  intro b h9
  rcases List.mem_cons.1 h9 with rfl | h9
  ·exact ⟨by decide, by decide, by decide⟩
  rcases List.mem_append.1 h9 with h9 | h9
  ·exact (hb b h9).1
  ·simp at h9
   subst h9
   exact ⟨by decide, by decide, by decide⟩
structure UGood (u : Uv) : Prop where
 sch : z6x u.scheme = true
 low : zbk u.scheme = u.scheme
 exu : ∀ b ∈ u.user, z6u b = false
 exr : ∀ b ∈ u.rest, z6u b = false
 wf : u.host.Wf
 spec : z6s u.scheme = true -> zhx u.host = true /\ (∀ b ∈ u.user, z6y b = false) /\ u.rest.head? = some 47 /\ (u.port = -1 \/ (0 <= u.port /\ u.port <= 65535 /\ u.port ≠ z6r u.scheme))
 plain : z6s u.scheme = false -> u.user = [] /\ u.host = hv0 /\ u.port = -1
theorem z7q {d : List UInt8} {std p : Int} (h : z61 d std = some p) : p = -1 \/ (0 <= p /\ p <= 65535 /\ p ≠ std) := by
 unfold z61 at h
 split at h
 ·injection h with h
  exact .inl h.symm
 ·split at h
  ·split at h
   ·cases h
   ·rename_i h1
    split at h
    ·injection h with h
     exact .inl h.symm
    ·rename_i h2
     injection h with h
     subst h
     exact .inr ⟨by omega, by omega, h2⟩
  ·cases h
theorem z7r {sch user rest n d : List UInt8} {u : Uv} (h : z65 sch user rest n d = (0, u)) (hs : z6x sch = true) (hl : zbk sch = sch) (hsp : z6s sch = true) (hu : ∀ b ∈ user, z6u b = false /\ z6y b = false) (hr : ∀ b ∈ rest, z6u b = false) : UGood u := by
 unfold z65 at h
 split at h
 ·rename_i h0
  split at h
  ·cases h
  ·rename_i p hp
   obtain ⟨_, rfl⟩ := Prod.mk.inj h
   obtain ⟨hw, hv⟩ := zix n
   have hvv : zhx (zhw n).2 = true := by
    rcases hv with ⟨_, hv⟩ | ⟨hv, _⟩
    ·exact hv
    ·exact absurd h0 hv
   refine ⟨hs, hl, fun b hb => (hu b hb).1, ?_, hw, fun _ => ⟨hvv, fun b hb => (hu b hb).2, ?_, z7q hp⟩, fun h => ?_⟩
   ·intro b hb
    simp only [z64] at hb
    split at hb
    ·exact hr b hb
    ·rcases List.mem_cons.1 hb with rfl | hb
     ·decide
     ·exact hr b hb
   ·simp only [z64]
    split
    ·rename_i h; exact h
    ·rfl
   ·rw [show (Uv.mk sch user (zhw n).2 p (z64 rest)).scheme = sch from rfl, hsp] at h
    cases h
 ·rename_i h0
  exact absurd (Prod.mk.inj h).1 h0
theorem z7s {l : List UInt8} {b : UInt8} (h : b ∈ z6z l) : b ∈ l := by
 rcases z7f l with ⟨_, h1, _⟩ | ⟨h1, _⟩
 ·rw [h1] at h; cases h
 ·rw [h1]; exact List.mem_append_left _ h
theorem z7t {l : List UInt8} {u : Uv} (h : z68 l = (0, u)) : UGood u := by
 unfold z68 at h
 split at h
 ·cases h
 rename_i hx
 have hx : ∀ b ∈ l, z6u b = false := zc5 (by simpa using hx)
 split at h
 ·rename_i hs
  rw [Bool.and_eq_true] at hs
  have h1 := hs.2
  rw [<- z7j] at h1
  split at h
  ·rename_i hsp
   unfold z67 at h
   split at h
   ·unfold z66 at h
    split at h
    ·cases h
    ·refine z7r h h1 (zbo _) hsp ?_ ?_
     ·intro b hb
      have hb := z7s hb
      exact ⟨hx b (zc8 (List.mem_of_mem_drop (List.mem_of_mem_drop (zc7 hb)))), zc0 z6y _ b hb⟩
     ·intro b hb
      exact hx b (zc8 (List.mem_of_mem_drop (List.mem_of_mem_drop (zc8 hb))))
   ·cases h
  ·rename_i hsp
   obtain ⟨_, rfl⟩ := Prod.mk.inj h
   refine ⟨h1, zbo _, (fun b hb => by cases hb), ?_, ziw, fun h => absurd h hsp, fun _ => ⟨rfl, rfl, rfl⟩⟩
   intro b hb
   exact hx b (zc8 (List.mem_of_mem_drop hb))
 ·cases h
theorem z7u {p std : Int} (h : p = -1 \/ (0 <= p /\ p <= 65535 /\ p ≠ std)) : z61 ((z7b p).drop 1) std = some p := by
 unfold z7b
 split
 ·rename_i h1
  subst h1
  rfl
 ·rename_i h1
  rcases h with h | ⟨h2, h3, h4⟩
  ·exact absurd h h1
  rw [List.drop_succ_cons, List.drop_zero]
  unfold z61
  have e : (p.toNat : Int) = p := by omega
  rw [if_neg (z2r _), if_pos (z2q _), zqs, if_neg (by omega), e, if_neg h4]
theorem z7v {x : List UInt8} {p : Int} (h : (x.head? ≠ some 91 /\ ∀ b ∈ x, b ≠ 58) \/ ∃ y, x = 91 :: (y ++ [93]) /\ ∀ b ∈ y, b ≠ 93) (hne : x ≠ []) : z63 (x ++ z7b p) = some (x, (z7b p).drop 1) := by
 unfold z63
 rcases h with ⟨h1, h2⟩ | ⟨y, rfl, h2⟩
 ·have hh : (x ++ z7b p).head? ≠ some 91 := by
   cases x with
   | nil => exact absurd rfl hne
   | cons a r => exact h1
  rw [if_neg hh]
  have h3 : ∀ b ∈ x, isB 58 b = false := fun b hb => by simpa [isB] using h2 b hb
  unfold z7b
  split
  ·rw [List.append_nil, (zc2 h3).1, (zc2 h3).2]
  ·obtain ⟨e1, e2⟩ := zc3 h3 (b := 58 :: Lib.decDigits p.toNat) 58 _ rfl (by simp [isB])
   rw [e1, e2]
 ·rw [if_pos (by rfl)]
  unfold z62
  have e : 91 :: (y ++ [93]) ++ z7b p = (91 :: y) ++ 93 :: z7b p := by simp
  have h3 : ∀ b ∈ 91 :: y, isB 93 b = false := by
   intro b hb
   rcases List.mem_cons.1 hb with rfl | hb
   ·decide
   ·simpa [isB] using h2 b hb
  obtain ⟨e1, e2⟩ := zc3 h3 (b := 93 :: z7b p) 93 _ rfl (by simp [isB])
  rw [e, e1, e2]
  by_cases hp : p = -1
  ·rw [show z7b p = [] by unfold z7b; rw [if_pos hp]]
   rfl
  ·rw [show z7b p = 58 :: Lib.decDigits p.toNat by unfold z7b; rw [if_neg hp]]
   rfl
theorem z7w {u : Uv} (h : UGood u) : z68 (z7c u) = (0, u) := by
 obtain ⟨sch, user, host, port, rest⟩ := u
 have hs := z7i h.sch
 have h58 : ∀ b ∈ sch, isB 58 b = false := fun b hb => (z7g b (hs b hb)).2.1
 have hxs : ∀ b ∈ sch, z6u b = false := fun b hb => (z7g b (hs b hb)).1
 cases hsp : z6s sch with
 | true =>
   obtain ⟨hv, hu, hr, hp⟩ := h.spec hsp
   have hw := h.wf
   have hxu := h.exu
   have hxr := h.exr
   have hsc := h.sch
   have hlo := h.low
   simp only at hv hu hr hp hw hxu hxr hsc hlo
   obtain ⟨hb, hne, hc⟩ := z7p hw hv
   have hpt : ∀ b ∈ z7b port, z7k b := by
    unfold z7b
    split
    ·intro b hb; cases hb
    ·intro b hb
     rcases List.mem_cons.1 hb with rfl | hb
     ·exact ⟨by decide, by decide, by decide⟩
     ·exact (z7m b (zie _ b hb)).1
   have hA : ∀ b ∈ zhz host ++ z7b port, z7k b := fun b hb' => by
    rcases List.mem_append.1 hb' with h | h
    ·exact hb b h
    ·exact hpt b h
   obtain ⟨a, ha⟩ : ∃ a, a = zhz host ++ z7b port := ⟨_, rfl⟩
   have et : z7c ⟨sch, user, host, port, rest⟩ = sch ++ 58 :: 47 :: 47 :: (z7a user ++ a ++ rest) := by
    unfold z7c
    rw [if_pos hsp, ha]
   have hU : ∀ b ∈ z7a user, z6u b = false /\ z6y b = false := by
    unfold z7a
    split
    ·intro b hb; cases hb
    ·intro b hb
     rcases List.mem_append.1 hb with h | h
     ·exact ⟨hxu b h, hu b h⟩
     ·simp at h
      subst h
      exact ⟨by decide, by decide⟩
   rw [et]
   have hE : (sch ++ 58 :: 47 :: 47 :: (z7a user ++ a ++ rest)).any z6u = false := by
    refine zc6 fun b hb => ?_
    rcases List.mem_append.1 hb with h | h
    ·exact hxs b h
    rcases List.mem_cons.1 h with rfl | h
    ·decide
    rcases List.mem_cons.1 h with rfl | h
    ·decide
    rcases List.mem_cons.1 h with rfl | h
    ·decide
    rcases List.mem_append.1 h with h | h
    ·rcases List.mem_append.1 h with h | h
     ·exact (hU b h).1
     ·rw [ha] at h; exact (hA b h).1
    ·exact hxr b h
   unfold z68
   rw [if_neg (by rw [hE]; simp)]
   obtain ⟨e1, e2⟩ := zc3 h58 (b := 58 :: 47 :: 47 :: (z7a user ++ a ++ rest)) 58 _ rfl (by decide)
   rw [e1, e2, if_pos (by rw [Bool.and_eq_true]; exact ⟨zc4.2 (by simp), hsc⟩), hlo, if_pos hsp]
   unfold z67
   rw [if_pos (by rfl)]
   have hend : ∀ b ∈ z7a user ++ a, z6y b = false := fun b hb => by
    rcases List.mem_append.1 hb with h | h
    ·exact (hU b h).2
    ·rw [ha] at h; exact (hA b h).2.1
   have hrc : ∃ r, rest = 47 :: r := by
    cases rest with
    | nil => cases hr
    | cons c r =>
      injection hr with hr
      exact ⟨r, by rw [hr]⟩
   obtain ⟨r, hrr⟩ := hrc
   obtain ⟨e3, e4⟩ := zc3 hend (b := rest) 47 r hrr (by decide)
   rw [show (List.drop 1 (58 :: 47 :: 47 :: (z7a user ++ a ++ rest))).drop 2 = z7a user ++ a ++ rest from rfl, e3, e4]
   have h64 : 64 ∉ a := fun hm => by rw [ha] at hm; exact (hA 64 hm).2.2 rfl
   have eU : z6z (z7a user ++ a) = user /\ z60 (z7a user ++ a) = a := by
    unfold z7a
    split
    ·rename_i h0
     rw [List.nil_append, h0]
     exact z7d h64
    ·rw [List.append_assoc]
     exact z7e h64
   unfold z66
   rw [eU.1, eU.2, ha, z7v hc hne]
   simp only
   unfold z65
   rw [ziq hw hv (by have : (zn0 host.v6).length <= 82 := zo2 host.v6 hw.2.2 _ _ 8 jH; omega), z7u hp]
   simp only [if_true]
   have : z64 rest = rest := by unfold z64; rw [if_pos hr]
   rw [this]
 | false =>
   obtain ⟨h1, h2, h3⟩ := h.plain hsp
   have hxr := h.exr
   have hsc := h.sch
   have hlo := h.low
   simp only at h1 h2 h3 hxr hsc hlo
   have et : z7c ⟨sch, user, host, port, rest⟩ = sch ++ 58 :: rest := by
    unfold z7c
    rw [if_neg (by rw [hsp]; simp)]
   rw [et]
   have hE : (sch ++ 58 :: rest).any z6u = false := by
    refine zc6 fun b hb => ?_
    rcases List.mem_append.1 hb with h | h
    ·exact hxs b h
    rcases List.mem_cons.1 h with rfl | h
    ·decide
    ·exact hxr b h
   unfold z68
   rw [if_neg (by rw [hE]; simp)]
   obtain ⟨e1, e2⟩ := zc3 h58 (b := 58 :: rest) 58 _ rfl (by decide)
   rw [e1, e2, if_pos (by rw [Bool.and_eq_true]; exact ⟨zc4.2 (by simp), hsc⟩), hlo, if_neg (by rw [hsp]; simp), h1, h2, h3]
   rfl
end

end Go.Proofs.YtekaljeicfjkjaaGreatDoor
