/-
  The walk of PunycodeForm: it returns true.
-/
import Derived.Test.YtbhempoamdiiiaaPuW
import Derived.Deep.QuietTactic
import Derived.BigQuiet
namespace Go.Proofs.Ytbhempoamdiiiaa
open Go.RowKit

theorem form_at (P : List Nat) (k : Nat) (hk : k < P.length) (h : P[k] < 128) : (encB P)[(basicN (P.take k)).length]? = some (UInt8.ofNat P[k]) := by
  have e : basicN P = basicN (P.take k) ++ (P[k] :: basicN (P.drop (k + 1))) := by
    have e1 : P = P.take k ++ (P[k] :: P.drop (k + 1)) := by rw [List.getElem_cons_drop, List.take_append_drop]
    conv => lhs; rw [e1]
    unfold basicN
    rw [List.filter_append, List.filter_cons_of_pos (by simpa using h)]
  unfold encB
  rw [e, List.map_append, List.append_assoc, List.getElem?_append_right (by simp), List.length_map, Nat.sub_self]
  rfl
theorem form_hy (P : List Nat) (h : basicN P ≠ []) : (encB P)[(basicN P).length]? = some 45 := by
  unfold encB
  rw [if_neg h, List.getElem?_append_right (by simp), List.length_map, Nat.sub_self]
  rfl
def formAt (P : List Nat) : Nat := if basicN P = [] then 0 else (basicN P).length + 1
theorem form_dig (P : List Nat) (k : Nat) (b : UInt8) (h1 : formAt P ≤ k) (hb : (encB P)[k]? = some b) : (97 ≤ b.toNat ∧ b.toNat ≤ 122) ∨ (48 ≤ b.toNat ∧ b.toNat ≤ 57) := by
  have hm : b ∈ digsOf (encDs P) 72 (basicN P).length true := by
    unfold formAt at h1
    unfold encB at hb
    by_cases h : basicN P = []
    · rw [if_pos h, h] at hb
      rw [h]
      exact List.mem_of_getElem? hb
    · rw [if_neg h] at h1 hb
      rw [List.getElem?_append_right (by simp; omega), List.length_map, List.getElem?_append_right (by simp; omega)] at hb
      exact List.mem_of_getElem? hb
  obtain ⟨d, hd, rfl⟩ := digsOf_mem _ _ _ _ b hm
  exact digB_range ⟨d, hd⟩
theorem at_ls {X : ByteArray} {l : List UInt8} (h : ls X = l) {n : Nat} {b : UInt8} (hb : l[n]? = some b) : ∃ hn : n < X.size, X[n] = b := by
  have hn : n < X.size := by
    rw [← ls_length, h]
    exact (List.getElem?_eq_some_iff.1 hb).1
  refine ⟨hn, ?_⟩
  have := ls_get X n hn
  rw [h, hb] at this
  injection this with this
  exact this.symm

set_option maxRecDepth 20000 in
set_option maxHeartbeats 8000000 in
theorem walkPuForm (hE : PuEnc 9) (hD : PuDec 12) (A : Option Addr) (len cap : Nat) (w : World) (hIn : ∃ Z, InZ w w.heap.size A len cap Z) :
    Calls Try.prog 6 #[.slice A len cap] w (Yes w) := by
  obtain ⟨Z, hZ⟩ := hIn
  obtain rfl := hZ.len
  have c9 := awake12_any hE hD
  by_cases hlen : 60 < Z.length
  · have hd : decide ((60 : Int) < (Z.length : Int)) = true := decide_eq_true (by omega)
    go_enter Try.func6, Try.ntmps6
    go_wp2_with fail
    refine (c9 _).mono ?_
    rintro r w2 ⟨rfl, hb2⟩
    go_wp2
    go_ret
    exact ⟨rfl, hb2⟩
  · have hd : decide ((60 : Int) < (Z.length : Int)) = false := decide_eq_false (by omega)
    have cE := hE Z A Z.length cap _ w hZ (Nat.le_refl _) (by omega)
    have hh := hZ.has
    have HH := Lib.hid hh
    clear hZ
    by_cases hall : Z.all ptZ = true
    · obtain ⟨hP, hZP⟩ := all_pt hall
      obtain ⟨P, hPe⟩ : ∃ P, P = Z.map Int.toNat := ⟨_, rfl⟩
      rw [← hPe] at hP hZP
      have hel : encL Z = (0, encB P) := by unfold encL; rw [if_neg (by omega), if_pos hall, hPe]
      subst hZP
      rw [List.length_map] at hlen hd cE HH ⊢
      have hbl := encB_len hP (by omega)
      rw [hel] at cE
      obtain ⟨X, hX⟩ : ∃ X, X = bs (encB P) := ⟨_, rfl⟩
      rw [show ((0 : Nat), encB P).2 = encB P from rfl, show (((0 : Nat), encB P).1 : Nat) = 0 from rfl, ← hX] at cE
      have HX : Hid (ls X = encB P) := Lib.hid (by rw [hX, ls_bs])
      have hXs : X.size ≤ 800 := by rw [hX, bs_size]; omega
      have HP := Lib.hid hP
      clear hall hP hPe hel hbl hX hh
      go_enter Try.func6, Try.ntmps6
      go_wp2_with fail
      refine cE.mono ?_
      rintro r w2 ⟨rfl, hb2⟩
      go_wp2_with fail
      go_loopw [5, 6] (fun nv iv wr => ∃ (k n : Nat), k ≤ P.length ∧ iv = .int .i64 k ∧ nv = .int .i64 n ∧ n ≤ 60 ∧ Hid (n = (basicN (P.take k)).length) ∧ Below w.heap.size w wr) (fun _ iv _ => P.length - (intOf iv).toNat)
      case atStart => exact ⟨0, 0, Nat.zero_le _, rfl, rfl, by omega, Lib.hid rfl, hb2⟩
      case round =>
        obtain ⟨k, n, hk, rfl, rfl, hn, HN, hb⟩ := hrel
        by_cases hlt : k < P.length
        · have hkd : decide ((k : Int) < (P.length : Int)) = true := decide_eq_true (by omega)
          obtain ⟨b1, o1, rfl, l1, d1⟩ := HH.out.2 (by omega)
          have g1 := cell_zv HH.out hb (Nat.le_refl _) k hlt (by rw [List.length_map]; exact hlt)
          rw [List.getElem_map] at g1
          have hple := ptN_le (HP.out _ (List.getElem_mem hlt))
          have hbt := basicN_take P k hlt
          have hbl := basicN_len (P.take (k + 1))
          rw [List.length_take] at hbl
          have hfa := form_at P k hlt
          obtain ⟨p, hp⟩ : ∃ p, p = P[k] := ⟨_, rfl⟩
          rw [← hp] at g1 hple hbt hfa
          rw [← HN.out] at hfa
          clear d1 hp
          by_cases h128 : p < 128
          · obtain ⟨hnX, hXn⟩ := at_ls HX.out (hfa h128)
            have hpd : decide ((p : Int) < 128) = true := decide_eq_true (by omega)
            have hpN : decide (p < 128) = true := decide_eq_true h128
            rw [if_pos h128] at hbt
            have HN2 : Hid (n + 1 = (basicN (P.take (k + 1))).length) := by show _ = _; rw [hbt, List.length_append, ← HN.out]; rfl
            have hn2 : n + 1 ≤ 60 := by rw [HN2.out]; omega
            have hge : decide ((X.size : Int) ≤ (n : Int)) = false := decide_eq_false (by omega)
            have hgeN : decide (X.size ≤ n) = false := decide_eq_false (by omega)
            have hbyte : (X[n].toNat : Int) = (p : Int) := by rw [hXn, ofNat_toNat h128]
            have hne : ((X[n].toNat : Int) != (p : Int)) = false := by rw [hbyte]; simp
            have hnXi : (n : Int) < (X.size : Int) := by omega
            have hlti : (k : Int) < (P.length : Int) := by omega
            clear hbt hbl hfa hXn
            go_wp2
            go_quiet (fail)
            go_wp2
            go_roundw
            case rel => exact ⟨k + 1, n + 1, by omega, by go_num, by go_num, hn2, HN2, hb.trans (drewN_belI _ _ _)⟩
            case measure => simp [intOf]; omega
          · have hpd : decide ((p : Int) < 128) = false := decide_eq_false (by omega)
            have hpN : decide (p < 128) = false := decide_eq_false h128
            rw [if_neg h128, List.append_nil] at hbt
            have HN2 : Hid (n = (basicN (P.take (k + 1))).length) := by show _ = _; rw [hbt, ← HN.out]
            clear hbt hbl hfa
            go_wp2
            go_roundw
            case rel => exact ⟨k + 1, n, by omega, by go_num, rfl, hn, HN2, hb⟩
            case measure => simp [intOf]; omega
        · obtain rfl : k = P.length := by omega
          have hkd : decide ((P.length : Int) < (P.length : Int)) = false := by simp
          have hnb : n = (basicN P).length := by rw [HN.out, List.take_length]
          by_cases h0 : n = 0
          · subst h0
            have hnd : decide ((0 : Int) < ((0 : Nat) : Int)) = false := by simp
            have hm1 : 0 ≤ X.size := Nat.zero_le _
            have hfs : Hid (formAt P = 0) := by
              show _ = _
              unfold formAt
              rw [if_pos (List.eq_nil_of_length_eq_zero hnb.symm)]
            clear hnb
            go_wp2_with fail
            go_loop [7] (fun iv => ∃ k : Nat, 0 ≤ k ∧ k ≤ X.size ∧ iv = .int .i64 k) (fun iv => X.size - (intOf iv).toNat)
            case atStart => exact ⟨0, Nat.le_refl _, hm1, rfl⟩
            case round =>
              obtain ⟨k, hk1, hk2, rfl⟩ := hrel
              by_cases hlt2 : k < X.size
              · have hkd2 : decide ((k : Int) < (X.size : Int)) = true := decide_eq_true (by omega)
                have hb9 := form_dig P k X[k] (by rw [hfs.out]; exact hk1) (by rw [← HX.out, ls_get X k hlt2])
                by_cases hlet : 97 ≤ X[k].toNat ∧ X[k].toNat ≤ 122
                · have q1 : decide ((97 : Int) ≤ (X[k].toNat : Int)) = true := decide_eq_true (by omega)
                  have q2 : decide ((X[k].toNat : Int) ≤ 122) = true := decide_eq_true (by omega)
                  clear hb9
                  go_wp2
                  go_round
                  case rel => exact ⟨k + 1, by omega, by omega, by go_num⟩
                  case measure => simp [intOf]; omega
                · have q1 : decide ((97 : Int) ≤ (X[k].toNat : Int)) = false := decide_eq_false (by omega)
                  have q3 : decide ((48 : Int) ≤ (X[k].toNat : Int)) = true := decide_eq_true (by omega)
                  have q4 : decide ((X[k].toNat : Int) ≤ 57) = true := decide_eq_true (by omega)
                  clear hb9
                  go_wp2
                  go_round
                  case rel => exact ⟨k + 1, by omega, by omega, by go_num⟩
                  case measure => simp [intOf]; omega
              · obtain rfl : k = X.size := by omega
                have hkd2 : decide ((X.size : Int) < (X.size : Int)) = false := by simp
                go_wp2_with fail
                refine (c9 _).mono ?_
                rintro r w5 ⟨rfl, hb5⟩
                replace hb5 := hb.trans (hb5.mono hb.size)
                go_wp2
                go_ret
                exact ⟨rfl, hb5⟩
          · have hnd : decide ((0 : Int) < (n : Int)) = true := decide_eq_true (by omega)
            have hnN : decide (0 < n) = true := decide_eq_true (by omega)
            have hbne : basicN P ≠ [] := List.length_pos_iff.1 (by omega)
            have hhy := form_hy P hbne
            rw [← hnb] at hhy
            obtain ⟨hnX, hXn⟩ := at_ls HX.out hhy
            have hge : decide ((X.size : Int) ≤ (n : Int)) = false := decide_eq_false (by omega)
            have hgeN : decide (X.size ≤ n) = false := decide_eq_false (by omega)
            have hbyte : (X[n].toNat : Int) = 45 := by rw [hXn]; rfl
            have hne : ((X[n].toNat : Int) != 45) = false := by rw [hbyte]; rfl
            have hnXi : (n : Int) < (X.size : Int) := by omega
            have hm1 : n + 1 ≤ X.size := hnX
            have hfs : Hid (formAt P = n + 1) := by
              show _ = _
              unfold formAt
              rw [if_neg hbne, hnb]
            clear hnb hbne hhy hXn
            go_wp2_with fail
            go_loop [7] (fun iv => ∃ k : Nat, n + 1 ≤ k ∧ k ≤ X.size ∧ iv = .int .i64 k) (fun iv => X.size - (intOf iv).toNat)
            case atStart => exact ⟨n + 1, Nat.le_refl _, hm1, rfl⟩
            case round =>
              obtain ⟨k, hk1, hk2, rfl⟩ := hrel
              by_cases hlt2 : k < X.size
              · have hkd2 : decide ((k : Int) < (X.size : Int)) = true := decide_eq_true (by omega)
                have hb9 := form_dig P k X[k] (by rw [hfs.out]; exact hk1) (by rw [← HX.out, ls_get X k hlt2])
                by_cases hlet : 97 ≤ X[k].toNat ∧ X[k].toNat ≤ 122
                · have q1 : decide ((97 : Int) ≤ (X[k].toNat : Int)) = true := decide_eq_true (by omega)
                  have q2 : decide ((X[k].toNat : Int) ≤ 122) = true := decide_eq_true (by omega)
                  clear hb9
                  go_wp2
                  go_round
                  case rel => exact ⟨k + 1, by omega, by omega, by go_num⟩
                  case measure => simp [intOf]; omega
                · have q1 : decide ((97 : Int) ≤ (X[k].toNat : Int)) = false := decide_eq_false (by omega)
                  have q3 : decide ((48 : Int) ≤ (X[k].toNat : Int)) = true := decide_eq_true (by omega)
                  have q4 : decide ((X[k].toNat : Int) ≤ 57) = true := decide_eq_true (by omega)
                  clear hb9
                  go_wp2
                  go_round
                  case rel => exact ⟨k + 1, by omega, by omega, by go_num⟩
                  case measure => simp [intOf]; omega
              · obtain rfl : k = X.size := by omega
                have hkd2 : decide ((X.size : Int) < (X.size : Int)) = false := by simp
                go_wp2_with fail
                refine (c9 _).mono ?_
                rintro r w5 ⟨rfl, hb5⟩
                replace hb5 := hb.trans (hb5.mono hb.size)
                go_wp2
                go_ret
                exact ⟨rfl, hb5⟩
    · have hel : encL Z = (2, []) := by unfold encL; rw [if_neg (by omega), if_neg hall]
      rw [hel, show bs ((2 : Nat), ([] : List UInt8)).2 = ⟨#[]⟩ from rfl, show (((2 : Nat), ([] : List UInt8)).1 : Nat) = 2 from rfl] at cE
      clear hall hel
      go_enter Try.func6, Try.ntmps6
      go_wp2_with fail
      refine cE.mono ?_
      rintro r w2 ⟨rfl, hb2⟩
      go_wp2_with fail
      refine (c9 _).mono ?_
      rintro r w5 ⟨rfl, hb5⟩
      replace hb5 := hb2.trans (hb5.mono hb2.size)
      go_wp2
      go_ret
      exact ⟨rfl, hb5⟩

end Go.Proofs.Ytbhempoamdiiiaa
