/-
  Parse of package directive.
-/
import Derived.Test.YtpopkeidpohdiaaDoorDiB
import Derived.Deep.LoopGhost
import Derived.WalkMore
namespace Go.Proofs.YtpopkeidpohdiaaDoor
open Go.RowKit

def pz : Array Value := #[.string ⟨#[]⟩, .int .i64 0]
theorem zeroPs (w : World) : (zeroValue 46).run Tryd.prog w = .ok (.agg pz) w := (zero_of_info (P := Tryd.prog) (t := 46) (v := .agg pz) (n := 2) (by kernel_rfl)).1 w
theorem psSize : (Tryd.prog.info? 46).map (·.size) = some 2 := by kernel_rfl
theorem own_ne_psr {w : World} {base P n k : Nat} {s : ByteArray} {v : Value} {xs : List Value} (h : w.ownsRow base 39 3 v n xs) (hp : Psr w P s k) : v.ownBlock ≠ some P := by
  rcases h.2 with ⟨rfl, _⟩ | ⟨g, cap, cur, rfl, _, hg, _⟩
  · simp [Value.ownBlock]
  · intro e
    simp [Value.ownBlock] at e
    subst e
    have hp' : w.heap[g]? = _ := hp
    rw [hg] at hp'
    injection hp' with hp'
    injection hp' with _ hp' _
    exact absurd hp' (by decide)
/-- The state of Parse's loops. -/
structure PSt (w W : World) (P : Nat) (s : ByteArray) (k : Nat) (v : Value) (l : List Dv) : Prop where
  hp : Psr W P s k
  own : W.ownsRow w.heap.size 39 3 v l.length (dvv l)
  bel : Below w.heap.size w W
  le : w.heap.size ≤ P
theorem PSt.call {w W W' : World} {P k k' : Nat} {s : ByteArray} {v u : Value} {l : List Dv} {e : Ending} (h : PSt w W P s k v l) (hr : Reads18 P s W u k' e W') : PSt w W' P s k' v l :=
  ⟨hr.2.1, h.own.kept hr.2.2 (.inr (own_ne_psr h.own h.hp)), below_row h.bel hr.2.2 (Nat.le_refl _) h.le, h.le⟩
theorem PSt.drewN {w W : World} {P k : Nat} {s : ByteArray} {v : Value} {l : List Dv} (h : PSt w W P s k v l) (m : Nat) : PSt w (W.drewN m) P s k v l :=
  ⟨h.hp.drewN m, h.own.kept (grown_drewN W m (some P)) (.inr (own_ne_psr h.own h.hp)), h.bel.trans ⟨rfl, rfl, rfl, Nat.le_refl _, fun _ _ => rfl⟩, h.le⟩
theorem PSt.alloc {w W W' : World} {P k : Nat} {s : ByteArray} {v : Value} {l : List Dv} (h : PSt w W P s k v l) (hg : W.grownBy W' none) : PSt w W' P s k v l :=
  ⟨Row.grown0 h.hp hg, h.own.kept hg (by cases hv : v.ownBlock <;> simp), below_row0 h.bel hg (Nat.le_refl _), h.le⟩
theorem PSt.store {w W W' : World} {P k g : Nat} {s : ByteArray} {v : Value} {l : List Dv} (h : PSt w W P s k v l) (hg : W.grownBy W' (some g)) (hne : P ≠ g) (hv : v.ownBlock ≠ some g) (hle : w.heap.size ≤ g) : PSt w W' P s k v l :=
  ⟨Row.grown h.hp hg hne, h.own.kept hg (.inr hv), below_row h.bel hg (Nat.le_refl _) hle, h.le⟩
theorem PSt.app {w W W' : World} {P k : Nat} {s : ByteArray} {v v' : Value} {l l' : List Dv} (h : PSt w W P s k v l) (hg : W.grownBy W' v.ownBlock) (hown : W'.ownsRow w.heap.size 39 3 v' l'.length (dvv l')) (hb : Below w.heap.size w W') : PSt w W' P s k v' l' :=
  ⟨(hg.block P h.hp.lt (fun e => own_ne_psr h.own h.hp e.symm)).trans h.hp, hown, hb, h.le⟩
theorem PSt.lt {w W : World} {P k : Nat} {s : ByteArray} {v : Value} {l : List Dv} (h : PSt w W P s k v l) {g : Nat} (hg : W.heap.size ≤ g) : P ≠ g ∧ v.ownBlock ≠ some g ∧ w.heap.size ≤ g := by
  refine ⟨?_, ?_, Nat.le_trans h.bel.size hg⟩
  · have := Row.lt h.hp
    omega
  · intro e
    have := (h.own.lt g e).2
    omega
theorem PSt.form {w W : World} {P k : Nat} {s : ByteArray} {v : Value} {l : List Dv} (h : PSt w W P s k v l) : ∃ A c, v = .slice A l.length c := by
  obtain ⟨A, c, e, _⟩ := HasDv.of_own h.own
  exact ⟨A, c, e⟩

set_option maxRecDepth 20000 in
set_option maxHeartbeats 8000000 in
theorem dirParse_any (s : ByteArray) (hs : s.size ≤ 1000000) (w : World) :
    Calls Tryd.prog 10 #[.string s] w (DvsPost (dirL (ls s)).1 (dirL (ls s)).2 w) := by
  by_cases hbig : 4096 < s.size
  · have HX : Hid (dirL (ls s) = ([], 3)) := by
      show _ = _
      unfold dirL
      rw [ls_length, if_pos hbig]
    have hd : decide ((4096 : Int) < (s.size : Int)) = true := decide_eq_true (by omega)
    clear hbig
    go_enter Tryd.func10, Tryd.ntmps10
    go_wp2
    go_step3
    go_wp2
    first | go_ret2 | (rw [Exit.noGoto_ret]; go_ret2) | (go_step3; go_wp2; go_ret2)
    exact dvs_nil HX.out (Below.refl _ _)
  · have HX : Hid (dirL (ls s) = dirR (dl s 0) []) := by
      show _ = _
      unfold dirL dirR dl
      rw [ls_length, if_neg hbig, List.drop_zero, ls_length]
    have hd : decide ((4096 : Int) < (s.size : Int)) = false := decide_eq_false (by omega)
    obtain ⟨R, hR⟩ : ∃ R, R = dirL (ls s) := ⟨_, rfl⟩
    rw [← hR] at HX ⊢
    clear hbig hR
    go_enter Tryd.func10, Tryd.ntmps10
    go_wp2
    go_step3
    go_wp2_with (first
      | (refine wpList_alloc_arr _ rfl 5 rfl _ rfl pz zeroPs ?_; intro W2 P hP2 hl2 hR2 hG2)
      | (refine wpList_store_arr _ rfl rfl _ _ _ rfl P (by exact rfl) #[.string s, .int .i64 0] (by exact rfl) _ _ hR2 psSize rfl (by simp [Value.oneCell']) ?_
         intro W3 hR3 hG3
         have hS : PSt w W3 P s 0 (.slice none 0 0) [] := ⟨hR3, World.ownsRow_nil _ _ _ _, below_row (below_row0 (Below.refl _ _) hG2 (Nat.le_refl _)) hG3 (Nat.le_refl _) hP2, hP2⟩))
    have HS := Lib.hid hS
    clear hS hR2 hG2 hl2 hR3 hG3
    go_simp
    go_step3
    go_wp2
    go_loopg [4, 6, 7] (s.size + 1) (fun g v x6 x7 wr => ∃ (k : Nat) (l : List Dv), k ≤ s.size ∧ g = s.size + 1 - k ∧ l.length ≤ 32 ∧ Hid (PSt w wr P s k v l) ∧ Hid (R = dirR (dl s k) l))
    case atStart => exact ⟨0, [], Nat.zero_le _, rfl, by simp, HS, HX⟩
    case round =>
      obtain ⟨k, l, hk, hg, hl, HS, HR⟩ := hrel
      have HG := Lib.hid hg
      have ce := fun W hW => ended_any s k P W hW
      clear hg
      by_cases he : k = s.size
      · have e1 : ((k : Int) == (s.size : Int)) = true := by simp; omega
        rw [e1] at ce
        have HE : Hid (R = (l, 0)) := by
          show _ = _
          rw [HR.out, dirR_end l (by rw [dl_end s k (by omega)]; rfl)]
        clear he
        go_wp2_with fail
        refine (ce _ HS.out.hp).mono ?_
        rintro e wa ⟨rfl, ma, rfl⟩
        have HS := Lib.hid (HS.out.drewN ma)
        go_wp2
        first | go_ret2 | (rw [Exit.noGoto_ret]; go_ret2) | (go_step3; go_wp2; go_ret2)
        exact dvs_own HE.out HS.out.own HS.out.bel
      · have hlt : k < s.size := by omega
        have e1 : ((k : Int) == (s.size : Int)) = false := by simp; omega
        rw [e1] at ce
        clear he
        go_wp2_with fail
        refine (ce _ HS.out.hp).mono ?_
        rintro e wa ⟨rfl, ma, rfl⟩
        have HS := Lib.hid (HS.out.drewN ma)
        go_wp2
        obtain ⟨go, rfl⟩ : ∃ go : Nat, go = gk := ⟨_, rfl⟩
        have HGO : Hid (go = s.size + 1 - k) := HG
        clear HG ce
        go_loopg [] (s.size + 1 - k) (fun g wr => ∃ (j : Nat), k ≤ j ∧ j ≤ s.size ∧ g = s.size + 1 - j ∧ Hid (PSt w wr P s j u4 l) ∧ Hid (R = dirR (dl s j) l))
        case atStart => exact ⟨k, Nat.le_refl _, hk, rfl, HS, HR⟩
        case round =>
          obtain ⟨j, hkj, hj, hg, HS, HR⟩ := hrel
          have HG := Lib.hid hg
          have ce := fun W hW => ended_any s j P W hW
          clear hg
          by_cases hje : j = s.size
          · have e1 : ((j : Int) == (s.size : Int)) = true := by simp; omega
            rw [e1] at ce
            go_wp2_with fail
            refine (ce _ HS.out.hp).mono ?_
            rintro e wa ⟨rfl, ma, rfl⟩
            have HS := Lib.hid (HS.out.drewN ma)
            go_wp2
            go_roundg (s.size + 1 - j)
            case rel => exact ⟨j, l, hj, by omega, hl, HS, HR⟩
            case measure => have := HGO.out; omega
          · have hltj : j < s.size := by omega
            have e1 : ((j : Int) == (s.size : Int)) = false := by simp; omega
            rw [e1] at ce
            clear hje
            have hd := dl_cons s j hltj
            by_cases h59 : s[j] = 59
            · have cs := fun W hW => skip_yes s j P 59 W hW hs hltj h59
              have HN : Hid (R = dirR (dl s (j + 1)) l) := by
                show _ = _
                rw [HR.out]
                refine dirR_semi l ?_
                rw [hd, h59]
                exact skL_head (by decide +kernel)
              clear hd h59
              go_wp2_with fail
              refine (ce _ HS.out.hp).mono ?_
              rintro e wa ⟨rfl, ma, rfl⟩
              have HS := Lib.hid (HS.out.drewN ma)
              go_wp2_with fail
              refine (cs _ HS.out.hp).mono ?_
              intro e wb hb
              have HS := Lib.hid (HS.out.call hb)
              obtain ⟨rfl, _, _⟩ := hb
              go_wp2
              go_roundg (s.size - j)
              case rel => exact ⟨j + 1, l, hltj, by omega, hl, HS, HN⟩
              case measure => have := HGO.out; omega
            · have cs := fun W hW => skip_no s j P 59 W hW hs hj (fun _ => h59)
              cases hbl : blankU s[j] with
              | true =>
                have cb := fun W hW => skipBlank_yes s j P W hW hs hltj hbl
                have HN : Hid (R = dirR (dl s (j + 1)) l) := by
                  show _ = _
                  rw [HR.out, dirR_sk, dirR_sk (dl s (j + 1)), hd]
                  unfold skL
                  rw [List.dropWhile_cons, hbl, if_pos rfl]
                clear hd h59 hbl
                go_wp2_with fail
                refine (ce _ HS.out.hp).mono ?_
                rintro e wa ⟨rfl, ma, rfl⟩
                have HS := Lib.hid (HS.out.drewN ma)
                go_wp2_with fail
                refine (cs _ HS.out.hp).mono ?_
                intro e wb hb
                have HS := Lib.hid (HS.out.call hb)
                obtain ⟨rfl, _, _⟩ := hb
                go_wp2_with fail
                refine (cb _ HS.out.hp).mono ?_
                intro e wb hb
                have HS := Lib.hid (HS.out.call hb)
                obtain ⟨rfl, _, _⟩ := hb
                go_wp2
                go_roundg (s.size - j)
                case rel => exact ⟨j + 1, by omega, hltj, by omega, HS, HN⟩
                case measure => rw [HG.out]; omega
              | false =>
                have cb := fun W hW => skipBlank_no s j P W hW hs hj (fun _ => hbl)
                have hsk : skL (dl s j) = s[j] :: dl s (j + 1) := by rw [hd]; exact skL_head hbl
                obtain ⟨A, c, rfl⟩ := HS.out.form
                by_cases h32 : l.length = 32
                · have e32 : ((l.length : Int) == 32) = true := by rw [h32]; rfl
                  have HE : Hid (R = ([], 3)) := by
                    show _ = _
                    rw [HR.out, dirR_full l hsk h59 h32]
                  clear hd h59 hbl hsk h32
                  go_wp2_with fail
                  refine (ce _ HS.out.hp).mono ?_
                  rintro e wa ⟨rfl, ma, rfl⟩
                  have HS := Lib.hid (HS.out.drewN ma)
                  go_wp2_with fail
                  refine (cs _ HS.out.hp).mono ?_
                  intro e wb hb
                  have HS := Lib.hid (HS.out.call hb)
                  obtain ⟨rfl, _, _⟩ := hb
                  go_wp2_with fail
                  refine (cb _ HS.out.hp).mono ?_
                  intro e wb hb
                  have HS := Lib.hid (HS.out.call hb)
                  obtain ⟨rfl, _, _⟩ := hb
                  go_wp2
                  first | go_ret2 | (rw [Exit.noGoto_ret]; go_ret2)
                  exact dvs_nil HE.out HS.out.bel
                · have e32 : ((l.length : Int) == 32) = false := by simp; omega
                  have cm := fun W hW => element_m s j P W hW hs hj
                  unfold ElR at cm
                  have hl31 : l.length ≤ 31 := by omega
                  cases hel : elemR (dl s j) with
                  | none =>
                    have HE : Hid (R = ([], 4)) := by
                      show _ = _
                      rw [HR.out, dirR_bad l hsk h59 h32 (by rw [← hd]; exact hel)]
                    rw [hel] at cm
                    clear hd h59 hbl hsk h32 hel
                    go_wp2_with fail
                    refine (ce _ HS.out.hp).mono ?_
                    rintro e wa ⟨rfl, ma, rfl⟩
                    have HS := Lib.hid (HS.out.drewN ma)
                    go_wp2_with fail
                    refine (cs _ HS.out.hp).mono ?_
                    intro e wb hb
                    have HS := Lib.hid (HS.out.call hb)
                    obtain ⟨rfl, _, _⟩ := hb
                    go_wp2_with fail
                    refine (cb _ HS.out.hp).mono ?_
                    intro e wb hb
                    have HS := Lib.hid (HS.out.call hb)
                    obtain ⟨rfl, _, _⟩ := hb
                    go_wp2_with fail
                    refine (cm _ HS.out.hp).mono ?_
                    rintro e wb ⟨n, hb⟩
                    have HS := Lib.hid (HS.out.call hb)
                    obtain ⟨rfl, _, _⟩ := hb
                    go_wp2_with (first
                      | (refine wpList_alloc_arr _ rfl 6 rfl _ rfl dz zeroDv ?_
                         intro W6 g6 hg6 hl6 hR6 hG6
                         have hlt6 := HS.out.lt hg6
                         have HS := Lib.hid (HS.out.alloc hG6))
                      | (refine wpList_store_dv rfl rfl _ _ rfl g6 (by exact rfl) ⟨#[]⟩ ⟨#[]⟩ false (by exact rfl) _ _ _ hR6 ?_
                         intro w7 hr6 hG7
                         have HS := Lib.hid (HS.out.store hG7 hlt6.1 hlt6.2.1 hlt6.2.2)))
                    first | go_ret2 | (rw [Exit.noGoto_ret]; go_ret2)
                    exact dvs_nil HE.out HS.out.bel
                  | some p =>
                    obtain ⟨d, t⟩ := p
                    have HE : Hid (R = dirR t (l ++ [d])) := by
                      show _ = _
                      rw [HR.out, dirR_elem l hsk h59 h32 (by rw [← hd]; exact hel)]
                    rw [hel] at cm
                    clear hd h59 hbl hsk h32 hel
                    go_wp2_with fail
                    refine (ce _ HS.out.hp).mono ?_
                    rintro e wa ⟨rfl, ma, rfl⟩
                    have HS := Lib.hid (HS.out.drewN ma)
                    go_wp2_with fail
                    refine (cs _ HS.out.hp).mono ?_
                    intro e wb hb
                    have HS := Lib.hid (HS.out.call hb)
                    obtain ⟨rfl, _, _⟩ := hb
                    go_wp2_with fail
                    refine (cb _ HS.out.hp).mono ?_
                    intro e wb hb
                    have HS := Lib.hid (HS.out.call hb)
                    obtain ⟨rfl, _, _⟩ := hb
                    go_wp2_with fail
                    refine (cm _ HS.out.hp).mono ?_
                    rintro e wb ⟨n, hn1, hn2, hnt, hb⟩
                    have HN : Hid (R = dirR (dl s n) (l ++ [d])) := by
                      show _ = _
                      rw [HE.out, hnt]
                    have HS := Lib.hid (HS.out.call hb)
                    obtain ⟨rfl, _, _⟩ := hb
                    clear hnt
                    go_wp2_with (first
                      | (refine wpList_alloc_arr _ rfl 6 rfl _ rfl dz zeroDv ?_
                         intro W6 g6 hg6 hl6 hR6 hG6
                         have hlt6 := HS.out.lt hg6
                         have HS := Lib.hid (HS.out.alloc hG6))
                      | (refine wpList_store_dv rfl rfl _ _ rfl g6 (by exact rfl) (bs d.name) (bs d.value) d.has (by exact rfl) _ _ _ hR6 ?_
                         intro w7 hr6 hG7
                         have HS := Lib.hid (HS.out.store hG7 hlt6.1 hlt6.2.1 hlt6.2.2))
                      | refine wpList_load_dv (by rfl) _ rfl g6 (by exact rfl) _ _ _ hr6 ?_
                      | (at_builtin
                         refine wpList_app_dv w7 rfl _ _ (by exact rfl) w.heap.size d _ l.length l (by exact rfl) HS.out.own (by exact rfl) (by omega) HS.out.bel (Nat.le_refl _) ?_
                         intro v2 w2 hown2 hb2 hgr
                         have hl1 : (l ++ [d]).length = l.length + 1 := by simp
                         have HS := Lib.hid (HS.out.app (l' := l ++ [d]) hgr (by rw [hl1]; exact hown2) hb2)))
                    go_roundg (s.size + 1 - n)
                    case rel => exact ⟨n, l ++ [d], hn2, by omega, by simp; omega, HS, HN⟩
                    case measure => have := HGO.out; omega

end Go.Proofs.YtpopkeidpohdiaaDoor
