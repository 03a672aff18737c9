/-
URLs in plain words: what parsing answers, the text, the upgrade, and their laws. No program.
-/
import Derived.Test.YtekaljeicfjkjaaGreatDoorV04
namespace Go.Proofs.YtekaljeicfjkjaaGreatDoor
section
open Go.RowKit
set_option maxHeartbeats 16000000
structure Uv where
 scheme : List UInt8
 user : List UInt8
 host : Hv
 port : Int
 rest : List UInt8
def uv0 : Uv := ⟨[], [], hv0, 0, []⟩
def z6q : List UInt8 := [104, 116, 116, 112]
def z6r : List UInt8 := [104, 116, 116, 112, 115]
def sWs : List UInt8 := [119, 115]
def z6s : List UInt8 := [119, 115, 115]
def z6t (s : List UInt8) : Bool := s == z6q || s == sWs
def z6u (s : List UInt8) : Int := if z6t s = true then 80 else if (s == z6r || s == z6s) = true then 443 else -1
def z6v (s : List UInt8) : Bool := z6t s || s == z6r || s == z6s
def z6w (s : List UInt8) : List UInt8 := if s == z6q then z6r else z6s
def z6x (b : UInt8) : Bool := decide (b.toNat <= 32) || b == 127
def z6y (b : UInt8) : Bool := (decide (97 <= b.toNat) && decide (b.toNat <= 122)) || (decide (65 <= b.toNat) && decide (b.toNat <= 90))
def z6z (b : UInt8) : Bool := (decide (48 <= b.toNat) && decide (b.toNat <= 57)) || b == 43 || b == 45 || b == 46
def z60 : List UInt8 -> Bool
 | [] => false
 | b :: r => z6y b && r.all fun c => z6y c || z6z c
def z61 (b : UInt8) : Bool := b == 47 || b == 63 || b == 35
def z62 (l : List UInt8) : List UInt8 := ((zcy (isB 64) l.reverse).drop 1).reverse
def z63 (l : List UInt8) : List UInt8 := (zcx (isB 64) l.reverse).reverse
def z64 (d : List UInt8) (std : Int) : Option Int :=
 if d = [] then some (-1) else if d.all zbe = true then (if 65535 < zqi 10 0 d then none else if (zqi 10 0 d : Int) = std then some (-1) else some (zqi 10 0 d : Int)) else none
def z65 (a : List UInt8) : Option (List UInt8 × List UInt8) := match zcy (isB 93) a with
 | [] => none
 | _ :: [] => some (zcx (isB 93) a ++ [93], [])
 | _ :: c :: d => if c = 58 then some (zcx (isB 93) a ++ [93], d) else none
def z66 (a : List UInt8) : Option (List UInt8 × List UInt8) := if a.head? = some 91 then z65 a else some (zcx (isB 58) a, (zcy (isB 58) a).drop 1)
def z67 (r : List UInt8) : List UInt8 := if r.head? = some 47 then r else 47 :: r
def z68 (sch user rest n d : List UInt8) : Nat × Uv :=
 if (zhw n).1 = 0 then (match z64 d (z6u sch) with
  | none => (16, uv0)
  | some p => (0, ⟨sch, user, (zhw n).2, p, z67 rest⟩))
 else ((zhw n).1, uv0)
def z69 (sch auth rest : List UInt8) : Nat × Uv := match z66 (z63 auth) with
 | none => (4, uv0)
 | some q => z68 sch (z62 auth) rest q.1 q.2
def z7a (sch r : List UInt8) : Nat × Uv := if r.take 2 = [47, 47] then z69 sch (zcx z61 (r.drop 2)) (zcy z61 (r.drop 2)) else (4, uv0)
def z7b (l : List UInt8) : Nat × Uv :=
 if l.any z6x = true then (4, uv0)
 else if (l.any (isB 58) && z60 (zcx (isB 58) l)) = true then
  (if z6v (zbk (zcx (isB 58) l)) = true then z7a (zbk (zcx (isB 58) l)) ((zcy (isB 58) l).drop 1) else (0, ⟨zbk (zcx (isB 58) l), [], hv0, -1, (zcy (isB 58) l).drop 1⟩))
 else (15, uv0)
def z7c (l : List UInt8) : Nat × Uv := if 2048 < l.length then (3, uv0) else z7b l
def z7d (s : List UInt8) : List UInt8 := if s = [] then [] else s ++ [64]
def z7e (p : Int) : List UInt8 := if p = -1 then [] else 58 :: Lib.decDigits p.toNat
def z7f (u : Uv) : List UInt8 := if z6v u.scheme = true then u.scheme ++ 58 :: 47 :: 47 :: (z7d u.user ++ (zhz u.host ++ z7e u.port) ++ u.rest) else u.scheme ++ 58 :: u.rest
theorem z7g {l : List UInt8} (h : 64 ∉ l) : z62 l = [] /\ z63 l = l := by
 have hh : ∀ b ∈ l.reverse, isB 64 b = false := by
  intro b hb
  have : b ≠ 64 := fun e => h (by rw [<- e]; exact List.mem_reverse.1 hb)
  simpa [isB] using this
 obtain ⟨h1, h2⟩ := zc2 hh
 unfold z62 z63
 rw [h1, h2]
 simp
theorem z7h {u a : List UInt8} (h : 64 ∉ a) : z62 (u ++ 64 :: a) = u /\ z63 (u ++ 64 :: a) = a := by
 have hh : ∀ b ∈ a.reverse, isB 64 b = false := by
  intro b hb
  have : b ≠ 64 := fun e => h (by rw [<- e]; exact List.mem_reverse.1 hb)
  simpa [isB] using this
 have e : (u ++ 64 :: a).reverse = a.reverse ++ 64 :: u.reverse := by simp
 obtain ⟨h1, h2⟩ := zc3 hh (b := 64 :: u.reverse) 64 u.reverse rfl (by simp [isB])
 unfold z62 z63
 rw [e, h1, h2]
 simp
theorem z7i (l : List UInt8) : (64 ∉ l /\ z62 l = [] /\ z63 l = l) \/ (l = z62 l ++ 64 :: z63 l /\ 64 ∉ z63 l) := by
 have h1 := zcz (isB 64) l.reverse
 have h2 : 64 ∉ z63 l := by
  unfold z63
  rw [List.mem_reverse]
  intro hm
  have := zc0 (isB 64) l.reverse 64 hm
  simp [isB] at this
 cases hf : zcy (isB 64) l.reverse with
 | nil =>
   left
   rw [hf, List.append_nil] at h1
   have e : z63 l = l := by unfold z63; rw [h1, List.reverse_reverse]
   rw [e] at h2
   exact ⟨h2, (z7g h2).1, e⟩
 | cons b r =>
   right
   have hb : b = 64 := by simpa [isB] using zc1 (isB 64) _ b r hf
   have e : l = z62 l ++ 64 :: z63 l := by
    unfold z62 z63
    rw [hf, List.drop_succ_cons, List.drop_zero]
    have := congrArg List.reverse h1
    rw [hf, hb, List.reverse_reverse] at this
    exact this.symm.trans (by simp)
   exact ⟨e, h2⟩
theorem z7j (b : UInt8) (h : (z6y b || z6z b) = true) : z6x b = false /\ isB 58 b = false /\ z61 b = false := by
 have key : ∀ n : Fin 256, (z6y (UInt8.ofNat n.val) || z6z (UInt8.ofNat n.val)) = true -> z6x (UInt8.ofNat n.val) = false /\ isB 58 (UInt8.ofNat n.val) = false /\ z61 (UInt8.ofNat n.val) = false := by decide +kernel
 have := key ⟨b.toNat, b.toNat_lt⟩
 simp only [UInt8.ofNat_toNat] at this
 exact this h
theorem z7k (b : UInt8) : z6y (zbf b) = z6y b /\ z6z (zbf b) = z6z b /\ z6x (zbf b) = z6x b /\ isB 58 (zbf b) = isB 58 b := by
 have key : ∀ n : Fin 256, z6y (zbf (UInt8.ofNat n.val)) = z6y (UInt8.ofNat n.val) /\ z6z (zbf (UInt8.ofNat n.val)) = z6z (UInt8.ofNat n.val) /\ z6x (zbf (UInt8.ofNat n.val)) = z6x (UInt8.ofNat n.val) /\ isB 58 (zbf (UInt8.ofNat n.val)) = isB 58 (UInt8.ofNat n.val) := by decide +kernel
 have := key ⟨b.toNat, b.toNat_lt⟩
 simp only [UInt8.ofNat_toNat] at this
 exact this
theorem z7l {s : List UInt8} (h : z60 s = true) : ∀ b ∈ s, (z6y b || z6z b) = true := by
 cases s with
 | nil => cases h
 | cons a r =>
   unfold z60 at h
   rw [Bool.and_eq_true, List.all_eq_true] at h
   intro b hb
   rcases List.mem_cons.1 hb with rfl | hb
   ·rw [h.1]; rfl
   ·exact h.2 b hb
theorem z7m (s : List UInt8) : z60 (zbk s) = z60 s := by
 cases s with
 | nil => rfl
 | cons a r =>
   show (z6y (zbf a) && (r.map zbf).all _) = _
   rw [List.all_map, (z7k a).1]
   unfold z60
   congr 2
   funext c
   show (z6y (zbf c) || z6z (zbf c)) = _
   rw [(z7k c).1, (z7k c).2.1]
def z7n (b : UInt8) : Prop := z6x b = false /\ z61 b = false /\ b ≠ 64
instance (b : UInt8) : Decidable (z7n b) := by unfold z7n; infer_instance
theorem z7o (b : UInt8) (h : okN b.toNat = true) : z7n b /\ b ≠ 58 /\ b ≠ 91 /\ b ≠ 93 := by
 have key : ∀ n : Fin 256, okN (UInt8.ofNat n.val).toNat = true -> (z6x (UInt8.ofNat n.val) = false /\ z61 (UInt8.ofNat n.val) = false /\ UInt8.ofNat n.val ≠ 64) /\ UInt8.ofNat n.val ≠ 58 /\ UInt8.ofNat n.val ≠ 91 /\ UInt8.ofNat n.val ≠ 93 := by decide +kernel
 have := key ⟨b.toNat, b.toNat_lt⟩
 simp only [UInt8.ofNat_toNat] at this
 exact this h
theorem z7p (b : UInt8) (h : 48 <= b.toNat /\ b.toNat <= 57) : z7n b /\ b ≠ 58 /\ b ≠ 91 /\ b ≠ 93 := by
 refine z7o b ?_
 unfold okN
 rw [jT h.1, jT h.2]
 simp
theorem z7q : ∀ d : Fin 16, (z6x (zda d.val) = false /\ z61 (zda d.val) = false /\ zda d.val ≠ 64) /\ zda d.val ≠ 93 := by decide +kernel
theorem z7r {g : List Nat} (hg : G16 g) : ∀ b ∈ zn3 g, z7n b /\ b ≠ 93 := by
 have h58 : z7n 58 /\ (58 : UInt8) ≠ 93 := ⟨⟨by decide, by decide, by decide⟩, by decide⟩
 have hj : ∀ P : List Nat, G16 P -> ∀ b ∈ z3n 58 (P.map zny), z7n b /\ b ≠ 93 := by
  intro P hP b hb
  rcases zho 58 _ b hb with rfl | ⟨x, hx, hb⟩
  ·exact h58
  ·obtain ⟨v, hv, rfl⟩ := List.mem_map.1 hx
   have hv := hP v hv
   have := zdl (b := 16) (by omega) (by omega) (fun c => decide (z7n c /\ c ≠ 93)) (fun d hd => by
    have h := z7q ⟨d, hd⟩
    exact jT h) v (by omega)
   exact of_decide_eq_true (List.all_eq_true.1 this b hb)
 intro b hb
 unfold zn3 zn2 at hb
 split at hb
 ·exact hj _ (hg.take _) b hb
 ·rcases List.mem_append.1 hb with hb | hb
  ·exact hj _ (hg.take _) b hb
  ·rcases List.mem_cons.1 hb with rfl | hb
   ·exact h58
   rcases List.mem_cons.1 hb with rfl | hb
   ·exact h58
   ·exact hj _ ((hg.take _).drop _) b hb
theorem z7s {h : Hv} (hw : h.Wf) (hv : zhx h = true) : (∀ b ∈ zhz h, z7n b) /\ zhz h ≠ [] /\ (((zhz h).head? ≠ some 91 /\ ∀ b ∈ zhz h, b ≠ 58) \/ ∃ x, zhz h = 91 :: (x ++ [93]) /\ ∀ b ∈ x, b ≠ 93) := by
 unfold zhz
 rw [if_pos hv]
 rcases zil hv with ⟨hn, he⟩ | he | he
 ·have hk : h.kind = 1 := by rw [he]; rfl
  unfold zhy
  rw [if_pos hk]
  have hb : ∀ b ∈ h.name, z7n b /\ b ≠ 58 /\ b ≠ 91 := by
   intro b hb
   rcases hn.bytes b hb with rfl | hb
   ·exact ⟨⟨by decide, by decide, by decide⟩, by decide, by decide⟩
   ·exact ⟨(z7o b hb).1, (z7o b hb).2.1, (z7o b hb).2.2.1⟩
  refine ⟨fun b h => (hb b h).1, hn.ne, .inl ⟨?_, fun b h => (hb b h).2.1⟩⟩
  intro hh
  cases hnm : h.name with
  | nil => exact hn.ne hnm
  | cons a r =>
    rw [hnm] at hh
    injection hh with hh
    exact (hb a (by rw [hnm]; simp)).2.2 hh
 ·have hk : h.kind = 2 := by rw [he]; rfl
  unfold zhy
  rw [if_neg (by omega), if_pos hk]
  have hb : ∀ b ∈ zqs h.v4, z7n b /\ b ≠ 58 /\ b ≠ 91 := by
   intro b hb
   rcases zif h.v4 b hb with rfl | hb
   ·exact ⟨⟨by decide, by decide, by decide⟩, by decide, by decide⟩
   ·exact ⟨(z7p b hb).1, (z7p b hb).2.1, (z7p b hb).2.2.1⟩
  have hne : zqs h.v4 ≠ [] := by
   unfold zqs
   intro e
   have := congrArg List.length e
   simp [z3n] at this
  refine ⟨fun b h => (hb b h).1, hne, .inl ⟨?_, fun b h => (hb b h).2.1⟩⟩
  intro hh
  cases hnm : zqs h.v4 with
  | nil => exact hne hnm
  | cons a r =>
    rw [hnm] at hh
    injection hh with hh
    exact (hb a (by rw [hnm]; simp)).2.2 hh
 ·have hk : h.kind = 3 := by rw [he]; rfl
  unfold zhy
  rw [if_neg (by omega), if_neg (by omega)]
  have hb := z7r hw.2.2
  refine ⟨?_, by simp, .inr ⟨zn3 h.v6, rfl, fun b h => (hb b h).2⟩⟩
  intro b h9
  rcases List.mem_cons.1 h9 with rfl | h9
  ·exact ⟨by decide, by decide, by decide⟩
  rcases List.mem_append.1 h9 with h9 | h9
  ·exact (hb b h9).1
  ·simp at h9
   subst h9
   exact ⟨by decide, by decide, by decide⟩
structure UGood (u : Uv) : Prop where
 sch : z60 u.scheme = true
 low : zbk u.scheme = u.scheme
 exu : ∀ b ∈ u.user, z6x b = false
 exr : ∀ b ∈ u.rest, z6x b = false
 wf : u.host.Wf
 spec : z6v u.scheme = true -> zhx u.host = true /\ (∀ b ∈ u.user, z61 b = false) /\ u.rest.head? = some 47 /\ (u.port = -1 \/ (0 <= u.port /\ u.port <= 65535 /\ u.port ≠ z6u u.scheme))
 plain : z6v u.scheme = false -> u.user = [] /\ u.host = hv0 /\ u.port = -1
theorem z7t {d : List UInt8} {std p : Int} (h : z64 d std = some p) : p = -1 \/ (0 <= p /\ p <= 65535 /\ p ≠ std) := by
 unfold z64 at h
 split at h
 ·injection h with h
  exact .inl h.symm
 ·split at h
  ·split at h
   ·cases h
   ·rename_i h1
    split at h
    ·injection h with h
     exact .inl h.symm
    ·rename_i h2
     injection h with h
     subst h
     exact .inr ⟨by omega, by omega, h2⟩
  ·cases h
theorem z7u {sch user rest n d : List UInt8} {u : Uv} (h : z68 sch user rest n d = (0, u)) (hs : z60 sch = true) (hl : zbk sch = sch) (hsp : z6v sch = true) (hu : ∀ b ∈ user, z6x b = false /\ z61 b = false) (hr : ∀ b ∈ rest, z6x b = false) : UGood u := by
 unfold z68 at h
 split at h
 ·rename_i h0
  split at h
  ·cases h
  ·rename_i p hp
   obtain ⟨_, rfl⟩ := Prod.mk.inj h
   obtain ⟨hw, hv⟩ := zix n
   have hvv : zhx (zhw n).2 = true := by
    rcases hv with ⟨_, hv⟩ | ⟨hv, _⟩
    ·exact hv
    ·exact absurd h0 hv
   refine ⟨hs, hl, fun b hb => (hu b hb).1, ?_, hw, fun _ => ⟨hvv, fun b hb => (hu b hb).2, ?_, z7t hp⟩, fun h => ?_⟩
   ·intro b hb
    simp only [z67] at hb
    split at hb
    ·exact hr b hb
    ·rcases List.mem_cons.1 hb with rfl | hb
     ·decide
     ·exact hr b hb
   ·simp only [z67]
    split
    ·rename_i h; exact h
    ·rfl
   ·rw [show (Uv.mk sch user (zhw n).2 p (z67 rest)).scheme = sch from rfl, hsp] at h
    cases h
 ·rename_i h0
  exact absurd (Prod.mk.inj h).1 h0
theorem z7v {l : List UInt8} {b : UInt8} (h : b ∈ z62 l) : b ∈ l := by
 rcases z7i l with ⟨_, h1, _⟩ | ⟨h1, _⟩
 ·rw [h1] at h; cases h
 ·rw [h1]; exact List.mem_append_left _ h
theorem z7w {l : List UInt8} {u : Uv} (h : z7b l = (0, u)) : UGood u := by
 unfold z7b at h
 split at h
 ·cases h
 rename_i hx
 have hx : ∀ b ∈ l, z6x b = false := zc5 (by simpa using hx)
 split at h
 ·rename_i hs
  rw [Bool.and_eq_true] at hs
  have h1 := hs.2
  rw [<- z7m] at h1
  split at h
  ·rename_i hsp
   unfold z7a at h
   split at h
   ·unfold z69 at h
    split at h
    ·cases h
    ·refine z7u h h1 (zbo _) hsp ?_ ?_
     ·intro b hb
      have hb := z7v hb
      exact ⟨hx b (zc8 (List.mem_of_mem_drop (List.mem_of_mem_drop (zc7 hb)))), zc0 z61 _ b hb⟩
     ·intro b hb
      exact hx b (zc8 (List.mem_of_mem_drop (List.mem_of_mem_drop (zc8 hb))))
   ·cases h
  ·rename_i hsp
   obtain ⟨_, rfl⟩ := Prod.mk.inj h
   refine ⟨h1, zbo _, (fun b hb => by cases hb), ?_, ziw, fun h => absurd h hsp, fun _ => ⟨rfl, rfl, rfl⟩⟩
   intro b hb
   exact hx b (zc8 (List.mem_of_mem_drop hb))
 ·cases h
theorem z7x {p std : Int} (h : p = -1 \/ (0 <= p /\ p <= 65535 /\ p ≠ std)) : z64 ((z7e p).drop 1) std = some p := by
 unfold z7e
 split
 ·rename_i h1
  subst h1
  rfl
 ·rename_i h1
  rcases h with h | ⟨h2, h3, h4⟩
  ·exact absurd h h1
  rw [List.drop_succ_cons, List.drop_zero]
  unfold z64
  have e : (p.toNat : Int) = p := by omega
  rw [if_neg (z2u _), if_pos (z2t _), zqv, if_neg (by omega), e, if_neg h4]
theorem z7y {x : List UInt8} {p : Int} (h : (x.head? ≠ some 91 /\ ∀ b ∈ x, b ≠ 58) \/ ∃ y, x = 91 :: (y ++ [93]) /\ ∀ b ∈ y, b ≠ 93) (hne : x ≠ []) : z66 (x ++ z7e p) = some (x, (z7e p).drop 1) := by
 unfold z66
 rcases h with ⟨h1, h2⟩ | ⟨y, rfl, h2⟩
 ·have hh : (x ++ z7e p).head? ≠ some 91 := by
   cases x with
   | nil => exact absurd rfl hne
   | cons a r => exact h1
  rw [if_neg hh]
  have h3 : ∀ b ∈ x, isB 58 b = false := fun b hb => by simpa [isB] using h2 b hb
  unfold z7e
  split
  ·rw [List.append_nil, (zc2 h3).1, (zc2 h3).2]
  ·obtain ⟨e1, e2⟩ := zc3 h3 (b := 58 :: Lib.decDigits p.toNat) 58 _ rfl (by simp [isB])
   rw [e1, e2]
 ·rw [if_pos (by rfl)]
  unfold z65
  have e : 91 :: (y ++ [93]) ++ z7e p = (91 :: y) ++ 93 :: z7e p := by simp
  have h3 : ∀ b ∈ 91 :: y, isB 93 b = false := by
   intro b hb
   rcases List.mem_cons.1 hb with rfl | hb
   ·decide
   ·simpa [isB] using h2 b hb
  obtain ⟨e1, e2⟩ := zc3 h3 (b := 93 :: z7e p) 93 _ rfl (by simp [isB])
  rw [e, e1, e2]
  by_cases hp : p = -1
  ·rw [show z7e p = [] by unfold z7e; rw [if_pos hp]]
   rfl
  ·rw [show z7e p = 58 :: Lib.decDigits p.toNat by unfold z7e; rw [if_neg hp]]
   rfl
theorem z7z {u : Uv} (h : UGood u) : z7b (z7f u) = (0, u) := by
 obtain ⟨sch, user, host, port, rest⟩ := u
 have hs := z7l h.sch
 have h58 : ∀ b ∈ sch, isB 58 b = false := fun b hb => (z7j b (hs b hb)).2.1
 have hxs : ∀ b ∈ sch, z6x b = false := fun b hb => (z7j b (hs b hb)).1
 cases hsp : z6v sch with
 | true =>
   obtain ⟨hv, hu, hr, hp⟩ := h.spec hsp
   have hw := h.wf
   have hxu := h.exu
   have hxr := h.exr
   have hsc := h.sch
   have hlo := h.low
   simp only at hv hu hr hp hw hxu hxr hsc hlo
   obtain ⟨hb, hne, hc⟩ := z7s hw hv
   have hpt : ∀ b ∈ z7e port, z7n b := by
    unfold z7e
    split
    ·intro b hb; cases hb
    ·intro b hb
     rcases List.mem_cons.1 hb with rfl | hb
     ·exact ⟨by decide, by decide, by decide⟩
     ·exact (z7p b (zie _ b hb)).1
   have hA : ∀ b ∈ zhz host ++ z7e port, z7n b := fun b hb' => by
    rcases List.mem_append.1 hb' with h | h
    ·exact hb b h
    ·exact hpt b h
   obtain ⟨a, ha⟩ : ∃ a, a = zhz host ++ z7e port := ⟨_, rfl⟩
   have et : z7f ⟨sch, user, host, port, rest⟩ = sch ++ 58 :: 47 :: 47 :: (z7d user ++ a ++ rest) := by
    unfold z7f
    rw [if_pos hsp, ha]
   have hU : ∀ b ∈ z7d user, z6x b = false /\ z61 b = false := by
    unfold z7d
    split
    ·intro b hb; cases hb
    ·intro b hb
     rcases List.mem_append.1 hb with h | h
     ·exact ⟨hxu b h, hu b h⟩
     ·simp at h
      subst h
      exact ⟨by decide, by decide⟩
   rw [et]
   have hE : (sch ++ 58 :: 47 :: 47 :: (z7d user ++ a ++ rest)).any z6x = false := by
    refine zc6 fun b hb => ?_
    rcases List.mem_append.1 hb with h | h
    ·exact hxs b h
    rcases List.mem_cons.1 h with rfl | h
    ·decide
    rcases List.mem_cons.1 h with rfl | h
    ·decide
    rcases List.mem_cons.1 h with rfl | h
    ·decide
    rcases List.mem_append.1 h with h | h
    ·rcases List.mem_append.1 h with h | h
     ·exact (hU b h).1
     ·rw [ha] at h; exact (hA b h).1
    ·exact hxr b h
   unfold z7b
   rw [if_neg (by rw [hE]; simp)]
   obtain ⟨e1, e2⟩ := zc3 h58 (b := 58 :: 47 :: 47 :: (z7d user ++ a ++ rest)) 58 _ rfl (by decide)
   rw [e1, e2, if_pos (by rw [Bool.and_eq_true]; exact ⟨zc4.2 (by simp), hsc⟩), hlo, if_pos hsp]
   unfold z7a
   rw [if_pos (by rfl)]
   have hend : ∀ b ∈ z7d user ++ a, z61 b = false := fun b hb => by
    rcases List.mem_append.1 hb with h | h
    ·exact (hU b h).2
    ·rw [ha] at h; exact (hA b h).2.1
   have hrc : ∃ r, rest = 47 :: r := by
    cases rest with
    | nil => cases hr
    | cons c r =>
      injection hr with hr
      exact ⟨r, by rw [hr]⟩
   obtain ⟨r, hrr⟩ := hrc
   obtain ⟨e3, e4⟩ := zc3 hend (b := rest) 47 r hrr (by decide)
   rw [show (List.drop 1 (58 :: 47 :: 47 :: (z7d user ++ a ++ rest))).drop 2 = z7d user ++ a ++ rest from rfl, e3, e4]
   have h64 : 64 ∉ a := fun hm => by rw [ha] at hm; exact (hA 64 hm).2.2 rfl
   have eU : z62 (z7d user ++ a) = user /\ z63 (z7d user ++ a) = a := by
    unfold z7d
    split
    ·rename_i h0
     rw [List.nil_append, h0]
     exact z7g h64
    ·rw [List.append_assoc]
     exact z7h h64
   unfold z69
   rw [eU.1, eU.2, ha, z7y hc hne]
   simp only
   unfold z68
   rw [ziq hw hv (by have : (zn3 host.v6).length <= 82 := zo5 host.v6 hw.2.2 _ _ 8 jH; omega), z7x hp]
   simp only [if_true]
   have : z67 rest = rest := by unfold z67; rw [if_pos hr]
   rw [this]
 | false =>
   obtain ⟨h1, h2, h3⟩ := h.plain hsp
   have hxr := h.exr
   have hsc := h.sch
   have hlo := h.low
   simp only at h1 h2 h3 hxr hsc hlo
   have et : z7f ⟨sch, user, host, port, rest⟩ = sch ++ 58 :: rest := by
    unfold z7f
    rw [if_neg (by rw [hsp]; simp)]
   rw [et]
   have hE : (sch ++ 58 :: rest).any z6x = false := by
    refine zc6 fun b hb => ?_
    rcases List.mem_append.1 hb with h | h
    ·exact hxs b h
    rcases List.mem_cons.1 h with rfl | h
    ·decide
    ·exact hxr b h
   unfold z7b
   rw [if_neg (by rw [hE]; simp)]
   obtain ⟨e1, e2⟩ := zc3 h58 (b := 58 :: rest) 58 _ rfl (by decide)
   rw [e1, e2, if_pos (by rw [Bool.and_eq_true]; exact ⟨zc4.2 (by simp), hsc⟩), hlo, if_neg (by rw [hsp]; simp), h1, h2, h3]
   rfl
end

end Go.Proofs.YtekaljeicfjkjaaGreatDoor
