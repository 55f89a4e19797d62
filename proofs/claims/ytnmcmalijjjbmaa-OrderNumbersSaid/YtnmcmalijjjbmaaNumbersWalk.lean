/-
  The walk of the law OrderNumbers: it answers true and writes nothing that was there, whatever list of numbers it is given. No condition.
-/
import Derived.Test.YtnmcmalijjjbmaaAllN
import Derived.Test.YtnmcmalijjjbmaaListN
import Derived.Test.YtnmcmalijjjbmaaFindN
import Derived.Test.YtnmcmalijjjbmaaAtS
import Derived.Test.YtnmcmalijjjbmaaKit4
import Derived.BigGuardPart
namespace Go.Proofs.Ytnmcmalijjjbmaa
set_option linter.unusedVariables false
open Go.RowKit
theorem list_allN (w : World) (b : Nat) (ys : List Int) (hz : ys.length ≤ 1000000) (h : SetN w b ys) :
    Calls Try.prog 28 #[.func (.func 61) #[] #[.pointer (some ⟨w.heap.size, 0, none⟩)]] (w.alloc (.cells #[.pointer (some ⟨b, 0, none⟩)] 46)) (ListOutN (w.alloc (.cells #[.pointer (some ⟨b, 0, none⟩)] 46)) ys) :=
  callsIn_wide.1 (list_inN Fence.wide 3 trivial rfl (by omega) 61 _ trivial (enters_of Try.func61 (by kernel_rfl) rfl) ys hz _ _ (Below.refl _ _)
    (all_stopsN Fence.wide rfl (3 - 1) trivial trivial rfl w.heap.size b ys _ (new_at rfl) (IsSet.mono h (by go_grown))))
def ListedN (w : World) (ys : List Int) (e : Ending) (w2 : World) : Prop :=
  ∃ v, e = .returned v ∧ Below w.heap.size w w2 ∧ ((v = .slice none 0 0 ∧ ys = []) ∨ ∃ g cap, v = .slice (some ⟨g, 0, none⟩) ys.length cap ∧ g < w2.heap.size ∧ ∀ i (h : i < ys.length), w2.cell? ⟨g, i, none⟩ = some (.int .i64 ys[i]))
theorem listedN (w : World) (b : Nat) (ys : List Int) (hz : ys.length ≤ 1000000) (h : SetN w b ys) :
    Calls Try.prog 28 #[.func (.func 61) #[] #[.pointer (some ⟨w.heap.size, 0, none⟩)]] (w.alloc (.cells #[.pointer (some ⟨b, 0, none⟩)] 46)) (ListedN w ys) := by
  refine (list_allN w b ys hz h).mono ?_
  rintro e w2 ⟨v, rfl, hown, hnil, hb⟩
  have hB : Below w.heap.size w (w.alloc (.cells #[.pointer (some ⟨b, 0, none⟩)] 46)) := by go_grown
  refine ⟨v, rfl, hB.trans (hb.mono hB.size), ?_⟩
  rcases owns_cells hown with ⟨h1, h2⟩ | ⟨g, cap, h1, h2, h3, h4, h5⟩
  · exact .inl ⟨h1, hnil.1 h1⟩
  · exact .inr ⟨g, cap, h1, h3, fun i hi => h5 i _ (by rw [List.getElem?_map, List.getElem?_eq_getElem hi]; rfl)⟩
theorem look_in (zs : List Int) {i : Nat} (h : i < zs.length) : look cmpI zs[i] (insAll cmpI [] zs) = some zs[i] := by
  apply look_of_has (fun a b => cmpI_eq)
  rw [has_insAll cmpI_cmp, any_cmpI]
  have : (zs.any fun y => y == zs[i]) = true := List.any_eq_true.2 ⟨zs[i], List.getElem_mem h, by simp⟩
  rw [this]; simp
set_option maxRecDepth 100000 in
set_option maxHeartbeats 8000000 in
theorem numbers_walk (w : World) (b off cap : Nat) (zs : List Int) (hb : b < w.heap.size) (hz : zs.length ≤ 100) (hc : ∀ j (h : j < zs.length), w.cell? ⟨b, off + j, none⟩ = some (.int .i64 zs[j])) :
    Calls Try.prog 4 #[.slice (some ⟨b, off, none⟩) zs.length cap] w fun e w' => e = .returned (.bool true) ∧ Below w.heap.size w w' := by
  have hnew := (new_nilN w).mono (R' := fun e w1 => ∃ b1, e = .returned (.pointer (some ⟨b1, 0, none⟩)) ∧ w.heap.size ≤ b1 ∧ Below w.heap.size w w1 ∧ Hid (SetN w1 b1 (insAll cmpI [] (zs.take 0)))) (fun e w1 h => h)
  have Hnew := Lib.hid hnew
  have Hc := Lib.hid hc
  have hd100 : decide (100 < (zs.length : Int)) = false := by simp; omega
  have hput := fun (wr : World) (b1 : Nat) (x : Int) (ys : List Int) h1 h2 => put_anyN wr b1 x ys h1 h2
  have Hput := Lib.hid hput
  clear hnew hc hput
  go_enter Try.func4, Try.ntmps4
  go_wp2_with (go_at_call 26; refine Hnew.out.mono ?_; rintro e w1 ⟨b1, rfl, hb1, hw1, hs1⟩)
  go_loopw [4] (fun i wr => ∃ k : Nat, k ≤ zs.length ∧ i = .int .i64 k ∧ Below w.heap.size w wr ∧ Hid (SetN wr b1 (insAll cmpI [] (zs.take k)))) (fun i _ => zs.length - (intOf i).toNat)
  case atStart => exact ⟨0, Nat.zero_le _, rfl, hw1, hs1⟩
  case round =>
    obtain ⟨k, hk, rfl, hbw, hsw⟩ := hrel
    by_cases hlt : k < zs.length
    · have ck := (hbw.cell (p := ⟨b, off + k, none⟩) hb).trans (Hc.out k hlt)
      obtain ⟨x, hx⟩ : ∃ x, x = zs[k] := ⟨_, rfl⟩
      rw [← hx] at ck
      have HX := Lib.hid hx
      clear hx
      obtain ⟨wo, rfl⟩ : ∃ wo : World, wo = wr := ⟨_, rfl⟩
      go_wp2_with fail
      go_loopw [5, 6] (fun s j wr => ∃ m : Nat, m ≤ k ∧ j = .int .i64 m ∧ s = .bool ((zs.take m).any fun y => y == x) ∧ Below wo.heap.size wo wr) (fun _ j _ => k - (intOf j).toNat)
      case atStart => exact ⟨0, Nat.zero_le _, rfl, by simp, Below.refl _ _⟩
      case round =>
        obtain ⟨m, hm, rfl, rfl, hbi⟩ := hrel
        by_cases hmk : m < k
        · have hmz : m < zs.length := by omega
          have cm := ((hbw.trans (hbi.mono hbw.size)).cell (p := ⟨b, off + m, none⟩) hb).trans (Hc.out m hmz)
          have ck2 := ((hbw.trans (hbi.mono hbw.size)).cell (p := ⟨b, off + k, none⟩) hb).trans (Hc.out k hlt)
          rw [← HX.out] at ck2
          have hnext := any_take_succ (fun y => y == x) zs hmz
          obtain ⟨y, hy⟩ : ∃ y, y = zs[m] := ⟨_, rfl⟩
          rw [← hy] at cm hnext
          have HN := Lib.hid hnext
          clear hnext hy
          generalize (zs.take m).any (fun y => y == x) = sb at HN
          have hmi : (m : Int) < (zs.length : Int) := by omega
          have hki : (k : Int) < (zs.length : Int) := by omega
          cases sb with
          | true =>
            go_wp2_with fail
            go_quiet (fail)
            go_wp2_with fail
            go_roundw
            case rel => exact ⟨m + 1, by omega, by go_num, by rw [HN.out]; rfl, bdN _ hbi⟩
            case measure => simp [intOf]; omega
          | false =>
            go_wp2_with fail
            go_quiet (fail)
            go_wp2_with fail
            go_roundw
            case rel => exact ⟨m + 1, by omega, by go_num, by rw [HN.out]; simp, bdN _ hbi⟩
            case measure => simp [intOf]; omega
        · obtain rfl : m = k := by omega
          have hset := IsSet.mono hsw.out hbi
          have ck2 := ((hbw.trans (hbi.mono hbw.size)).cell (p := ⟨b, off + m, none⟩) hb).trans (Hc.out m hlt)
          rw [← HX.out] at ck2
          have hlen := insAll_length cmpI (zs.take m) []
          have hlen2 : (zs.take m).length ≤ m := List.length_take_le _ _
          have hh : has cmpI x (insAll cmpI [] (zs.take m)) = (zs.take m).any fun y => y == x := by
            rw [has_insAll cmpI_cmp, any_cmpI]; rfl
          have hnext : insAll cmpI [] (zs.take (m + 1)) = ins cmpI x (insAll cmpI [] (zs.take m)) := by
            rw [List.take_succ_eq_append_getElem hlt, insAll_snoc, HX.out]
          have hp := Hput.out wr b1 x _ hset (by simp at hlen; omega)
          unfold PutOutN at hp
          rw [hh] at hp
          have HN := Lib.hid hnext
          have hbw2 := hbw.trans (hbi.mono hbw.size)
          clear hnext hset hlen hlen2 hh
          generalize (zs.take m).any (fun y => y == x) = sb at hp
          have HP := Lib.hid hp
          clear hp
          cases sb with
          | true =>
            go_wp2_with (go_at_call 27; refine HP.out.mono ?_; rintro e w2 ⟨rfl, hg2, hs2⟩)
            go_roundw
            case rel => exact ⟨m + 1, by omega, by go_num, hbw2.trans (belowg hg2 hbw2.size hb1), by rw [HN.out]; exact hs2⟩
            case measure => simp [intOf]; omega
          | false =>
            go_wp2_with (go_at_call 27; refine HP.out.mono ?_; rintro e w2 ⟨rfl, hg2, hs2⟩)
            go_roundw
            case rel => exact ⟨m + 1, by omega, by go_num, hbw2.trans (belowg hg2 hbw2.size hb1), by rw [HN.out]; exact hs2⟩
            case measure => simp [intOf]; omega
    · obtain rfl : k = zs.length := by omega
      rw [List.take_length] at hsw
      have hlook := fun (k : Nat) (h : k < zs.length) => look_in zs h
      have hsorted : Sorted cmpI (insAll cmpI [] zs) := insAll_sorted cmpI_cmp zs [] List.Pairwise.nil
      have hyl := insAll_length cmpI zs []
      simp only [List.length_nil, Nat.zero_add] at hyl
      have Hlook := Lib.hid hlook
      have Hsort := Lib.hid hsorted
      clear hlook hsorted
      generalize insAll cmpI [] zs = ys at Hlook hsw Hsort hyl
      have hset := hsw
      have hlist := listedN wr b1 ys (by omega) hsw.out
      have Hlist := Lib.hid hlist
      clear hlist hsw
      obtain ⟨wo, rfl⟩ : ∃ wo : World, wo = wr := ⟨_, rfl⟩
      go_wp2_with (first | (go_at_call 29; refine (all_anyN wo b1).mono ?_; rintro e w2 ⟨rfl, rfl⟩) | (go_at_call 28; refine Hlist.out.mono ?_; unfold ListedN; rintro e w3 ⟨v, rfl, hb3, (⟨rfl, rfl⟩ | ⟨g, gcap, rfl, hg3, hcg⟩)⟩))
      · go_loopw [8] (fun i wr => i = .int .i64 0 ∧ wr = w3) (fun _ _ => 0)
        case atStart => exact ⟨rfl, rfl⟩
        case round =>
          obtain ⟨rfl, rfl⟩ := hrel
          go_wp2_with fail
          go_loopw [11] (fun i wr => ∃ k : Nat, k ≤ zs.length ∧ i = .int .i64 k ∧ Below wo.heap.size wo wr) (fun i _ => zs.length - (intOf i).toNat)
          case atStart => exact ⟨0, Nat.zero_le _, rfl, hb3⟩
          case round =>
            obtain ⟨k, hk, rfl, hbk⟩ := hrel
            by_cases hlt : k < zs.length
            · have ck := fun w' (h : Below wo.heap.size wo w') => ((hbw.trans (h.mono hbw.size)).cell (p := ⟨b, off + k, none⟩) hb).trans (Hc.out k hlt)
              have hgt := get_setN zs[k] wr b1 ([] : List Int) (IsSet.mono hset.out hbk)
              rw [Hlook.out k hlt] at hgt
              have c1 := ck wr hbk
              generalize zs[k] = x at hgt c1 ck
              have hgt2 := hgt.mono (R' := fun e w' => e = .returned (.tuple #[.int .i64 x, .bool true]) ∧ Below wr.heap.size wr w') (fun e w' h => ⟨h.2, h.1⟩)
              have Hgt := Lib.hid hgt2
              have Hck := Lib.hid ck
              clear hgt hgt2 ck
              go_wp2_with (go_at_call 31; refine Hgt.out.mono ?_; rintro e w5 ⟨rfl, hb5⟩; have hbk5 := hbk.trans (hb5.mono hbk.size); have c5 := Hck.out _ hbk5)
              go_roundw
              case rel => exact ⟨k + 1, by omega, by go_num, hbk5⟩
              case measure => simp [intOf]; omega
            · obtain rfl : k = zs.length := by omega
              have hl := len_setN wr b1 ([] : List Int) (IsSet.mono hset.out hbk)
              have Hl := Lib.hid hl
              clear hl
              go_wp2_with (first | (go_at_call 32; refine Hl.out.mono ?_; rintro e w5 ⟨rfl, rfl⟩) | (go_at_call 12; refine (wakes_any _).mono ?_; rintro e w6 ⟨rfl, hb6⟩))
              go_ret
              exact ⟨rfl, (hbw.trans (hbk.mono hbw.size)).trans (hb6.mono (hbw.trans (hbk.mono hbw.size)).size)⟩
      · have Hcg := Lib.hid hcg
        clear hcg
        go_loopw [8] (fun i wr => ∃ k : Nat, k ≤ ys.length ∧ i = .int .i64 k ∧ Below w3.heap.size w3 wr) (fun i _ => ys.length - (intOf i).toNat)
        case atStart => exact ⟨0, Nat.zero_le _, rfl, Below.refl _ _⟩
        case round =>
          obtain ⟨k, hk, rfl, hbk⟩ := hrel
          by_cases hlt : k < ys.length
          · have hbwk := hb3.trans (hbk.mono hb3.size)
            have ck := fun w' (h : Below w3.heap.size w3 w') => (h.cell (p := ⟨g, k, none⟩) hg3).trans (Hcg.out k hlt)
            have hpl := place_setN ys[k] wr b1 ys (IsSet.mono hset.out hbwk) (by omega)
            rw [place_self cmpI_cmp Hsort.out hlt, has_self cmpI_cmp hlt] at hpl
            have hpl2 := hpl.mono (R' := fun e w' => e = .returned (.tuple #[.int .i64 k, .bool true]) ∧ Below wr.heap.size wr w') (fun e w' h => ⟨h.2, h.1⟩)
            have Hpl := Lib.hid hpl2
            have hki : (k : Int) < (ys.length : Int) := by omega
            have c1 := ck wr hbk
            clear hpl hpl2
            by_cases hk0 : k = 0
            · subst hk0
              generalize ys[0] = x at Hpl ck c1
              have Hck := Lib.hid ck
              clear ck
              go_wp2_with (go_at_call 30; refine Hpl.out.mono ?_; rintro e w5 ⟨rfl, hb5⟩; have hbk5 := hbk.trans (hb5.mono hbk.size); have c5 := Hck.out _ hbk5)
              go_quiet (fail)
              go_wp2_with fail
              go_roundw
              case rel => exact ⟨1, by omega, by go_num, bdN _ hbk5⟩
              case measure => simp [intOf]; omega
            · have ck0 := fun w' (h : Below w3.heap.size w3 w') => (h.cell (p := ⟨g, k - 1, none⟩) hg3).trans (Hcg.out (k - 1) (by omega))
              have hlt2 : ys[k - 1] < ys[k] := by
                have hcmp := sorted_step Hsort.out (i := k - 1) (by omega)
                simp only [show k - 1 + 1 = k by omega] at hcmp
                unfold cmpI at hcmp; split at hcmp <;> (try split at hcmp) <;> omega
              generalize ys[k - 1] = y at ck0 hlt2
              generalize ys[k] = x at Hpl ck c1 hlt2
              have Hck := Lib.hid ck
              have Hck0 := Lib.hid ck0
              have hk1 : 1 ≤ (k : Int) := by omega
              have hkp : 0 < (k : Int) := by omega
              have hk2 : (k : Int) - 1 < (ys.length : Int) := by omega
              have hk3 : 0 ≤ (k : Int) - 1 := by omega
              have hkd : decide (0 < k) = true := by simp; omega
              have hkn : 0 < k := by omega
              have hld : decide (x ≤ y) = false := by simpa using hlt2
              clear ck ck0
              go_wp2_with (go_at_call 30; refine Hpl.out.mono ?_; rintro e w5 ⟨rfl, hb5⟩; have hbk5 := hbk.trans (hb5.mono hbk.size); have c5 := Hck.out _ hbk5; have c6 := Hck0.out _ hbk5)
              go_quiet (fail)
              go_wp2_with fail
              go_roundw
              case rel => exact ⟨k + 1, by omega, by go_num, bdN _ hbk5⟩
              case measure => simp [intOf]; omega
          · obtain rfl : k = ys.length := by omega
            have hb3k := hb3.trans (hbk.mono hb3.size)
            go_wp2_with fail
            go_loopw [11] (fun i wr => ∃ k : Nat, k ≤ zs.length ∧ i = .int .i64 k ∧ Below wo.heap.size wo wr) (fun i _ => zs.length - (intOf i).toNat)
            case atStart => exact ⟨0, Nat.zero_le _, rfl, hb3k⟩
            case round =>
              obtain ⟨k, hk, rfl, hbk⟩ := hrel
              by_cases hlt : k < zs.length
              · have ck := fun w' (h : Below wo.heap.size wo w') => ((hbw.trans (h.mono hbw.size)).cell (p := ⟨b, off + k, none⟩) hb).trans (Hc.out k hlt)
                have hgt := get_setN zs[k] wr b1 ys (IsSet.mono hset.out hbk)
                rw [Hlook.out k hlt] at hgt
                have c1 := ck wr hbk
                generalize zs[k] = x at hgt c1 ck
                have hgt2 := hgt.mono (R' := fun e w' => e = .returned (.tuple #[.int .i64 x, .bool true]) ∧ Below wr.heap.size wr w') (fun e w' h => ⟨h.2, h.1⟩)
                have Hgt := Lib.hid hgt2
                have Hck := Lib.hid ck
                clear hgt hgt2 ck
                go_wp2_with (go_at_call 31; refine Hgt.out.mono ?_; rintro e w5 ⟨rfl, hb5⟩; have hbk5 := hbk.trans (hb5.mono hbk.size); have c5 := Hck.out _ hbk5)
                go_roundw
                case rel => exact ⟨k + 1, by omega, by go_num, hbk5⟩
                case measure => simp [intOf]; omega
              · obtain rfl : k = zs.length := by omega
                have hl := len_setN wr b1 ys (IsSet.mono hset.out hbk)
                have Hl := Lib.hid hl
                clear hl
                go_wp2_with (first | (go_at_call 32; refine Hl.out.mono ?_; rintro e w5 ⟨rfl, rfl⟩) | (go_at_call 12; refine (wakes_any _).mono ?_; rintro e w6 ⟨rfl, hb6⟩))
                go_ret
                exact ⟨rfl, (hbw.trans (hbk.mono hbw.size)).trans (hb6.mono (hbw.trans (hbk.mono hbw.size)).size)⟩
set_option maxRecDepth 100000 in
set_option maxHeartbeats 4000000 in
theorem numbers_empty (w : World) (a : Option Addr) (cap : Nat) : Calls Try.prog 4 #[.slice a 0 cap] w fun e w' => e = .returned (.bool true) ∧ Below w.heap.size w w' := by
  have hnew := (new_nilN w).mono (R' := fun e w1 => ∃ b1, e = .returned (.pointer (some ⟨b1, 0, none⟩)) ∧ w.heap.size ≤ b1 ∧ Below w.heap.size w w1 ∧ Hid (SetN w1 b1 [])) (fun e w1 h => h)
  have Hnew := Lib.hid hnew
  have hlist := fun (wr : World) (b1 : Nat) h => listedN wr b1 [] (by simp) h
  have Hlist := Lib.hid hlist
  clear hnew hlist
  go_enter Try.func4, Try.ntmps4
  go_wp2_with (go_at_call 26; refine Hnew.out.mono ?_; rintro e w1 ⟨b1, rfl, hb1, hw1, hs1⟩)
  go_loopw [4] (fun i wr => i = .int .i64 0 ∧ wr = w1) (fun _ _ => 0)
  case atStart => exact ⟨rfl, rfl⟩
  case round =>
    obtain ⟨rfl, rfl⟩ := hrel
    go_wp2_with (first | (go_at_call 29; refine (all_anyN wr b1).mono ?_; rintro e w2 ⟨rfl, rfl⟩) | (go_at_call 28; refine (Hlist.out wr b1 hs1.out).mono ?_; unfold ListedN; rintro e w3 ⟨v, rfl, hb3, (⟨rfl, -⟩ | ⟨g, gcap, rfl, hg3, -⟩)⟩))
    all_goals
      go_loopw [8] (fun i wr => i = .int .i64 0 ∧ wr = w3) (fun _ _ => 0)
      case atStart => exact ⟨rfl, rfl⟩
      case round =>
        obtain ⟨rfl, rfl⟩ := hrel
        go_wp2_with fail
        go_loopw [11] (fun i wr' => i = .int .i64 0 ∧ wr' = wr) (fun _ _ => 0)
        case atStart => exact ⟨rfl, rfl⟩
        case round =>
          obtain ⟨rfl, rfl⟩ := hrel
          have hl := len_setN _ b1 [] (IsSet.mono hs1.out hb3)
          have Hl := Lib.hid hl
          clear hl
          go_wp2_with (first | (go_at_call 32; refine Hl.out.mono ?_; rintro e w5 ⟨rfl, rfl⟩) | (go_at_call 12; refine (wakes_any _).mono ?_; rintro e w6 ⟨rfl, hb6⟩))
          go_ret
          exact ⟨rfl, (hw1.trans (hb3.mono hw1.size)).trans (hb6.mono (hw1.trans (hb3.mono hw1.size)).size)⟩
theorem numbers_long (w : World) (a : Option Addr) (len cap : Nat) (h : 100 < len) (hm : len ≤ maxLen) : Calls Try.prog 4 #[.slice a len cap] w fun e w' => e = .returned (.bool true) ∧ Below w.heap.size w w' := by
  unfold maxLen at hm
  have hd100 : decide (100 < (len : Int)) = true := by simp; omega
  go_enter Try.func4, Try.ntmps4
  go_wp2_with (go_at_call 12; refine (wakes_any _).mono ?_; rintro e w6 ⟨rfl, hb6⟩)
  go_ret
  exact ⟨rfl, hb6⟩
end Go.Proofs.Ytnmcmalijjjbmaa
