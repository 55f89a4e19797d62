/-
  Walks over package sym: Put of a table. No condition but a bound on the list's length.
-/
import Derived.Test.YtlledodigmkdjaaGreatDoorSymUnk
import Derived.Test.YtlledodigmkdjaaGreatDoorAllRS
import Derived.Test.YtlledodigmkdjaaGreatDoorAllS
import Derived.Test.YtlledodigmkdjaaGreatDoorKitOwn
import Derived.WalkKit
import Derived.OwnWalkIn
import Derived.TacticsInMore
import Derived.LoopNIn
import Derived.LoopIn
namespace Go.Proofs.YtlledodigmkdjaaGreatDoor
set_option linter.unusedVariables false
open Go.RowKit Go.Shelf
attribute [local go_sem] Oper.semAt_some
theorem mem_newMs {xs : List Sy} {y : Sy} : ∀ (l acc : List Sy), y ∈ l.foldl (newStep xs) acc → y ∈ acc ∨ (y ∈ l ∧ has cmpY y xs = false)
  | [], acc, h => .inl h
  | x :: l, acc, h => by
    rcases mem_newMs l _ h with h1 | ⟨h1, h2⟩
    · unfold newStep at h1
      split at h1
      · exact .inl h1
      · rename_i hn
        rcases mem_ins h1 with rfl | h1
        · exact .inr ⟨List.mem_cons_self, by simpa using hn⟩
        · exact .inl h1
    · exact .inr ⟨List.mem_cons_of_mem _ h1, h2⟩
theorem newMs_mem {xs l : List Sy} {y : Sy} (h : y ∈ newMs xs l) : y ∈ l ∧ has cmpY y xs = false := by
  rcases mem_newMs l [] h with h | h
  · exact absurd h (by simp)
  · exact h
theorem newMs_length (xs l : List Sy) : (newMs xs l).length ≤ l.length := by
  have := newMs_len xs l []
  simp only [List.length_nil, Nat.zero_add] at this
  exact this
theorem fresh_mem {xs M pre post : List Sy} {x : Sy} (hs : Sorted cmpY M) (h : M = pre ++ x :: post) (hx : has cmpY x xs = false) : has cmpY x (insAll cmpY xs pre) = false := by
  rw [has_insAll cmpY_cmp, hx, Bool.false_or]
  rw [h] at hs
  have h1 := (sorted_mid hs).2.2.1
  simp only [List.any_eq_false, beq_iff_eq]
  intro y hy e
  have h2 := h1 y hy
  have h3 := cmpY_cmp.flip x y
  omega
/-- What Put answers, and what is known behind it. -/
def putE (room : Int) (xs l : List Sy) : Int := if l.all validY = false then 9 else if room < xs.length + (newMs xs l).length then 20 else 0
def putXs (room : Int) (xs l : List Sy) : List Sy := if putE room xs l = 0 then insAll cmpY xs (newMs xs l) else xs
def PutTOut (w : World) (b sb mb ms : Nat) (room : Int) (xs l : List Sy) (e : Ending) (w' : World) : Prop :=
  e = .returned (.int .i64 (putE room xs l)) ∧ Touch (TabTouch sb ms) w w' ∧ ∃ ys', TabAt w' b sb mb ms room (putXs room xs l) ys'
theorem touch_own {β : Type} {A : Nat → Prop} {w : World} {B : Nat} (hB : w.heap.size ≤ B) : OwnFrom B (fun (_ : β) W => Touch A w W) := fun _ X Y row hs hg hr =>
  ⟨hg.os.trans hs.os, hg.tape.trans hs.tape, hg.output.trans hs.output, Nat.le_trans hs.size hg.size, fun k hk hn => (hg.block k (Nat.lt_of_lt_of_le hk hs.size) (fun e => by have := (hr k e.symm).1; omega)).trans (hs.block k hk hn)⟩
theorem tab_own {β : Type} (b sb mb ms : Nat) (room : Int) (f : β → List Sy) : Own (fun (s : β) W => ∃ ys', TabAt W b sb mb ms room (f s) ys') := by
  rintro s X Y row ⟨ys', h⟩ hg hrow
  exact ⟨ys', ⟨kept_block h.cells hg hrow, set_own encS 113 87 cmpY sb (fun _ : Unit => f s) () X Y row h.known hg hrow, ⟨kept_block h.map.1 hg hrow, set_own encC 134 110 cmpC ms (fun _ : Unit => ys') () X Y row h.map.2 hg hrow⟩, h.agree, h.small, h.all, h.len, h.top⟩⟩
theorem KeepsFrom.ofTouch {A : Nat → Prop} {B : Nat} {W W' : World} (h : Touch A W W') (hA : ∀ k, A k → k < B) : KeepsFrom B W W' :=
  ⟨h.size, fun k o hk hx _ => (h.block k (Array.getElem?_eq_some_iff.1 hx).1 (fun ha => by have := hA k ha; omega)).trans hx⟩
theorem KN.ofTouch {A : Nat → Prop} {t : TypeId} {W W' : World} (h : Touch A W W') (hA : ∀ k, A k → ∀ c u f, W.heap[k]? = some (.cells c u f) → u ≠ t) : KN t W W' := fun k c f hk =>
  (h.block k (heap_lt hk) (fun ha => hA k ha c t f hk rfl)).trans hk
theorem TabAt.kn {W : World} {b sb mb ms : Nat} {room : Int} {xs : List Sy} {ys : List Pc} (h : TabAt W b sb mb ms room xs ys) : ∀ k, TabTouch sb ms k → ∀ c u f, W.heap[k]? = some (.cells c u f) → u ≠ 113 := by
  rintro k (rfl | rfl) c u f hc
  · rw [set_type h.known hc]; decide
  · rw [set_type h.map.2 hc]; decide
set_option maxRecDepth 100000 in
set_option maxHeartbeats 4000000 in
theorem put_tab (w : World) (b sb mb ms : Nat) (room : Int) (xs : List Sy) (ys : List Pc) (a : Option Addr) (cap : Nat) (l : List Sy) (h : TabAt w b sb mb ms room xs ys) (he : Elts w a l) (hz : l.length ≤ 1000000) :
    Calls Tryz.prog 19 #[.pointer (some ⟨b, 0, none⟩), .slice a l.length cap] w (PutTOut w b sb mb ms room xs l) := by
  have hbad : ∀ w', Below w.heap.size w w' → l.all validY = false → PutTOut w b sb mb ms room xs l (.returned (.int .i64 9)) w' := fun w' hb ha => by
    have e : putE room xs l = 9 := by unfold putE; rw [if_pos ha]
    exact ⟨by rw [e], Touch.ofBelow hb, ys, by unfold putXs; rw [if_neg (by rw [e]; decide)]; exact h.mono hb⟩
  have hfull : ∀ w', Below w.heap.size w w' → l.all validY = true → room < xs.length + (newMs xs l).length → PutTOut w b sb mb ms room xs l (.returned (.int .i64 20)) w' := fun w' hb ha hr => by
    have e : putE room xs l = 20 := by unfold putE; rw [if_neg (by rw [ha]; decide), if_pos hr]
    exact ⟨by rw [e], Touch.ofBelow hb, ys, by unfold putXs; rw [if_neg (by rw [e]; decide)]; exact h.mono hb⟩
  have hunk := fun w' (hq : Below w.heap.size w w') => unk_tab w' b sb mb ms room xs ys a cap l (h.mono hq) (he.mono hq) hz
  have hlen := fun w' (hq : Below w.heap.size w w') => len_tab w' b sb mb ms room xs ys (h.mono hq)
  have hroom : ∀ w', Below w.heap.size w w' → w'.cell? ⟨b, 2, none⟩ = some (.int .i64 room) := fun w' hq => by rw [cells_of (h.cells.mono hq)]; rfl
  have Hbad := Lib.hid hbad
  have Hfull := Lib.hid hfull
  have Hunk := Lib.hid hunk
  have Hlen := Lib.hid hlen
  have Hroom := Lib.hid hroom
  have Hel := Lib.hid he
  have HT := Lib.hid h
  clear hbad hfull hunk hlen hroom he h
  obtain ⟨W1, hW1⟩ : ∃ W1, W1 = w.alloc (.cells #[.pointer (some ⟨b, 0, none⟩)] 31) := ⟨_, rfl⟩
  have hB : Below w.heap.size w W1 := by rw [hW1]; go_grown
  have hx : W1.heap[w.heap.size]? = some (.cells #[.pointer (some ⟨b, 0, none⟩)] 31 (0, 0)) := by rw [hW1]; exact new_at rfl
  have HB := Lib.hid hB
  have HX := Lib.hid hx
  have HW := Lib.hid hW1
  clear hB hx hW1
  refine callsIn_wide.1 (callsIn_of_wp_marks (n := 3) Tryz.func19 rfl trivial (wpIn_wide.2 ?_) rfl)
  simp only [Tryz.ntmps19, List.size_toArray, List.length_cons, List.length_nil, Nat.reduceAdd, Nat.reduceSub, Array.replicate_succ, Array.replicate_zero, List.push_toArray, List.append_toArray, List.nil_append, List.cons_append]
  go_wp2_with fail
  rw [← HW.out]
  go_loopw [11] (fun i wr => ∃ k : Nat, k ≤ l.length ∧ i = .int .i64 k ∧ Below W1.heap.size W1 wr ∧ Hid ((l.take k).all validY = true)) (fun i _ => l.length - (intOf i).toNat)
  case atStart => exact ⟨0, Nat.zero_le _, rfl, Below.refl _ _, Lib.hid rfl⟩
  case round =>
    obtain ⟨k, hk, rfl, hbw, hall⟩ := hrel
    by_cases hlt : k < l.length
    · have HBW := Lib.hid (HB.out.trans (hbw.mono HB.out.size))
      have HBX := Lib.hid hbw
      clear hbw
      obtain ⟨bb, off, rfl, hcell⟩ := Hel.out.at hlt
      obtain ⟨c0, c1, c2⟩ := hcell wr HBW.out
      have htk : (l.take (k + 1)).all validY = ((l.take k).all validY && validY l[k]) := by
        rw [List.take_succ_eq_append_getElem hlt, List.all_append]; simp
      have hmem : l[k] ∈ l := List.getElem_mem hlt
      obtain ⟨x, hx⟩ : ∃ x, x = l[k] := ⟨_, rfl⟩
      rw [← hx] at c0 c1 c2 htk hmem
      rw [hall.out, Bool.true_and] at htk
      have HK := Lib.hid htk
      have HM := Lib.hid hmem
      clear hx hcell htk hmem
      have HA : Hid (Below wr.heap.size wr (wr.alloc (.cells #[.int .i64 x.k, .string x.t, .int .i64 x.n] 23))) := Lib.hid ((Below.refl _ _).alloc (Nat.le_refl _) _)
      cases hv : validY x with
      | false =>
        have HL : Hid (l.all validY = false) := Lib.hid (by
          rw [List.all_eq_false]
          exact ⟨x, HM.out, by rw [hv]; decide⟩)
        go_wp2_with (go_at_call 9; refine (valid_all x _).mono ?_; rintro e w2 ⟨rfl, h2⟩; rw [hv]; have H2 := Lib.hid (HA.out.trans (h2.mono HA.out.size)); clear h2)
        refine ⟨_, results_tmp rfl _ _ _, ?_⟩
        exact Hbad.out _ (HBW.out.trans (H2.out.mono HBW.out.size)) HL.out
      | true =>
        go_wp2_with (go_at_call 9; refine (valid_all x _).mono ?_; rintro e w2 ⟨rfl, h2⟩; rw [hv]; have H2 := Lib.hid (HA.out.trans (h2.mono HA.out.size)); clear h2)
        go_roundw
        case rel => exact ⟨k + 1, by omega, by go_num, HBX.out.trans (H2.out.mono HBX.out.size), Lib.hid (by rw [HK.out, hv])⟩
        case measure => simp [intOf]; omega
    · obtain rfl : k = l.length := by omega
      have HAll : Hid (l.all validY = true) := Lib.hid (by have := hall.out; rwa [List.take_length] at this)
      have HBW := Lib.hid (HB.out.trans (hbw.mono HB.out.size))
      have hbx := (hbw.block _ (heap_lt HX.out)).trans HX.out
      have HBX := Lib.hid hbx
      have c2 := cells_of hbx 0
      simp at c2
      clear hbw hbx hall
      obtain ⟨wo, hwo⟩ : ∃ wo : World, wo = wr := ⟨_, rfl⟩
      rw [← hwo] at HBW HBX c2 ⊢
      clear hwo
      go_wp2_with (go_at_call 45; refine (Hunk.out _ HBW.out).mono ?_; unfold UnkOut; rintro e w3 ⟨m, rfl, hm, hb3, hset⟩)
      have hxl := HT.out.len
      have hml : (newMs xs l).length ≤ 1000000 := by have := newMs_length xs l; omega
      have hsz3 := hb3.size
      have hwlt := heap_lt HBX.out
      have HBX3 := Lib.hid ((hb3.block _ hwlt).trans HBX.out)
      have HB3 := Lib.hid (HBW.out.trans (hb3.mono HBW.out.size))
      have cr := Hroom.out _ HB3.out
      have c23 := cells_of HBX3.out 0
      simp at c23
      have Hl := Lib.hid (fun w' (hq : Below w3.heap.size w3 w') => Hlen.out w' (HB3.out.trans (hq.mono HB3.out.size)))
      have Hm := Lib.hid (fun w' (hq : Below w3.heap.size w3 w') => len_setS w' m (newMs xs l) (IsSet.mono hset hq))
      obtain ⟨M, hM⟩ : ∃ M, M = newMs xs l := ⟨_, rfl⟩
      rw [← hM] at Hm hml hset
      have HSet := Lib.hid hset
      have Hmw : Hid (w.heap.size ≤ m) := Lib.hid (Nat.le_trans HBW.out.size hm)
      clear c2 hb3 hset hwlt hm
      by_cases hr : room < xs.length + M.length
      · have hd : decide (room < (xs.length : Int) + (M.length : Int)) = true := by simp [hr]
        have HF : Hid (∀ w', Below w.heap.size w w' → PutTOut w b sb mb ms room xs l (.returned (.int .i64 20)) w') := Lib.hid (fun w' hb => Hfull.out w' hb HAll.out (by rw [← hM]; exact hr))
        clear hM hr
        go_quiet (first | (go_at_call 27; exact Calls.quiet_of_same ((Hl.out _ (bdN _ (Below.refl _ _))).mono fun _ _ h => ⟨h.1, h.2.symm⟩)) | (go_at_call 46; exact Calls.quiet_of_same ((Hm.out _ (bdN _ (Below.refl _ _))).mono fun _ _ h => ⟨h.1, h.2.symm⟩)))
        go_wp2_with fail
        refine ⟨_, results_tmp rfl _ _ _, ?_⟩
        exact HF.out _ (bdN _ HB3.out)
      · have hd : decide (room < (xs.length : Int) + (M.length : Int)) = false := by simp; omega
        have hfin : ∀ w', Touch (TabTouch sb ms) w w' → (∃ ys', TabAt w' b sb mb ms room (insAll cmpY xs M) ys') → PutTOut w b sb mb ms room xs l (.returned (.int .i64 0)) w' := fun w' h1 h2 => by
          have e : putE room xs l = 0 := by unfold putE; rw [if_neg (by rw [HAll.out]; decide), if_neg (by rw [← hM]; exact hr)]
          refine ⟨by rw [e], h1, ?_⟩
          unfold putXs
          rw [if_pos e, ← hM]
          exact h2
        have hmem : ∀ y ∈ M, validY y = true ∧ has cmpY y xs = false := fun y hy => by
          have h1 := newMs_mem (by rw [← hM]; exact hy)
          exact ⟨List.all_eq_true.1 HAll.out y h1.1, h1.2⟩
        have Hfin := Lib.hid hfin
        have Hmem := Lib.hid hmem
        have HR := Lib.hid hr
        clear hM hr hfin hmem
        go_quiet (first | (go_at_call 27; exact Calls.quiet_of_same ((Hl.out _ (bdN _ (Below.refl _ _))).mono fun _ _ h => ⟨h.1, h.2.symm⟩)) | (go_at_call 46; exact Calls.quiet_of_same ((Hm.out _ (bdN _ (Below.refl _ _))).mono fun _ _ h => ⟨h.1, h.2.symm⟩)))
        have HB3 := Lib.hid (bdN nq HB3.out)
        have HBX3 : Hid ((w3.drewN nq).heap[w.heap.size]? = _) := Lib.hid HBX3.out
        have HSet : Hid (SetS (w3.drewN nq) m M) := Lib.hid (IsSet.mono HSet.out (bdN nq (Below.refl _ _)))
        generalize w3.drewN nq = w4 at HB3 HBX3 HSet ⊢
        clear c23 cr Hl Hm hd
        go_wp2_with (go_at_call 47; refine (all_anyS _ m).mono ?_; rintro e w5 ⟨rfl, rfl⟩)
        obtain ⟨W5, hW5⟩ : ∃ W5, W5 = w4.alloc (.cells #[.pointer (some ⟨m, 0, none⟩)] 67) := ⟨_, rfl⟩
        have b45 : Below w4.heap.size w4 W5 := by rw [hW5]; go_grown
        have hcap : W5.heap[w4.heap.size]? = some (.cells #[.pointer (some ⟨m, 0, none⟩)] 67 (0, 0)) := by rw [hW5]; exact new_at rfl
        have hset5 : SetS W5 m M := IsSet.mono HSet.out b45
        have hsrt : Sorted cmpY M := by obtain ⟨_, _, -, -, -, h⟩ := hset5; exact h
        have hb5 : Below w.heap.size w W5 := HB3.out.trans (b45.mono HB3.out.size)
        have hbx5 := (b45.block _ (heap_lt HBX3.out)).trans HBX3.out
        have htab5 := HT.out.mono hb5
        have hsbw := IsSet.lt HT.out.known
        have hmsw := IsSet.lt HT.out.map.2
        have hw45 := HB3.out.size
        rw [← hW5]
        clear hW5
        have HSrt := Lib.hid hsrt
        have HXL := Lib.hid hxl
        have HTop := Lib.hid HT.out.top
        refine (wpIn_wide (n := 3)).1 ?_
        refine wpIn_rangeFunc_over rfl rfl (gf := 61) (lb := #[.pointer (some ⟨w4.heap.size, 0, none⟩)]) rfl trivial (enters_of Tryz.func61 (by kernel_rfl) rfl)
          (all_overS Fence.wide rfl 2 trivial trivial rfl w4.heap.size m M W5 hcap hset5 (fun pre x => ∃ post, M = pre ++ x :: post) (fun a x b h => ⟨b, h⟩)) (fun h k => KN.trans h k) (fun W l o o' _ h hc _ => KN.put _ W l o o' h hc) (Below.refl _ _) (fun _ => rfl)
          (fun pre V => Touch (TabTouch sb ms) w V ∧ (V.heap[w.heap.size]? = some (.cells #[.pointer (some ⟨b, 0, none⟩)] 31 (0, 0)) ∧ ∃ ys', TabAt V b sb mb ms room (insAll cmpY xs pre) ys')) (fun _ _ _ => False)
          (OwnFrom.and (touch_own hb5.size) (Own.from (own_and (cells_own _ _ _) (tab_own b sb mb ms room (fun pre => insAll cmpY xs pre))) _)) (fun _ _ _ _ _ hs _ _ => hs) ⟨Touch.ofBelow hb5, hbx5, ys, htab5⟩
          (fun (x : Sy) a' (V : World) => ∃ Bx, V.heap[Bx]? = some (Obj.cells #[.int .i64 x.k, .string x.t, .int .i64 x.n] 23 (0, 0)) ∧ a' = { tmps := #[.pointer (some ⟨b, 0, none⟩), .slice a l.length cap, .pointer (some ⟨w.heap.size, 0, none⟩), undef, u4, undef, u6, .pointer (some ⟨m, 0, none⟩), .pointer (some ⟨Bx, 0, none⟩), .slice a l.length cap, .int .i64 l.length, .int .i64 l.length, .bool false, u13, u14, u15, u16, u17, u18, .pointer (some ⟨b, 0, none⟩), .slice a l.length cap, .pointer (some ⟨m, 0, none⟩), .pointer (some ⟨b, 0, none⟩), .int .i64 xs.length, .pointer (some ⟨m, 0, none⟩), .int .i64 M.length, .int .i64 ((xs.length : Int) + (M.length : Int)), .pointer (some ⟨b, 0, none⟩), .pointer (some ⟨b, 0, none⟩), .pointer (some ⟨b, 2, none⟩), .int .i64 room, .bool false, .pointer (some ⟨m, 0, none⟩), .func (.func 61) #[] #[.pointer (some ⟨w4.heap.size, 0, none⟩)], .agg #[.int .i64 x.k, .string x.t, .int .i64 x.n], undef, undef, undef], defers := [] })
          (fun x a' => by
            rintro s X Y row ⟨Bx, h2, h3⟩ hg hrow
            exact ⟨Bx, kept_block h2 hg (fun r e => (hrow r e).2), h3⟩) ?assign ?body ?done ?stop
        case assign =>
          rintro l pre x V K ⟨hg, hbx, hT⟩ hK
          gi_wp2
          have hA := (Below.refl V.heap.size V).alloc (Nat.le_refl _) (.cells #[.int .i64 x.k, .string x.t, .int .i64 x.n] 23)
          obtain ⟨ys', hT⟩ := hT
          exact hK _ _ ((KeepsOthers.alloc _ _).from _) (KN.below hA) ⟨hg.trans (Touch.ofBelow hA), (hA.block _ (heap_lt hbx)).trans hbx, ys', hT.mono hA⟩ ⟨V.heap.size, new_at rfl, rfl⟩
        case body =>
          rintro l' pre x a' V hl ⟨r, hr⟩ ⟨hg, hbx, ys', hT⟩ ⟨Bx, hx, rfl⟩ ⟨post, hp⟩
          have hxm := Hmem.out x (by rw [hp]; simp)
          have hne := fresh_mem HSrt.out hp hxm.2
          have hlenI := insAll_length cmpY pre xs
          have hpl : pre.length < M.length := by rw [hp]; simp
          have h4 : (insAll cmpY xs pre).length < 4096 := by
            have h1 := HR.out
            have h2 := HTop.out
            omega
          have h32 := valid_size hxm.1
          have hadd := CallsIn.inRound l' (callsIn_wide (n := 3 - 1 - 1 - 1).2 (add_tab V b sb mb ms room x (insAll cmpY xs pre) ys' hT hxm.1 (by omega) hne h4))
          have cu : V.cell? ⟨w.heap.size, 0, none⟩ = some (.pointer (some ⟨b, 0, none⟩)) := by rw [cells_of hbx]; rfl
          obtain ⟨x0, x1, x2, -, -, -, -⟩ := box_cells hx (Below.refl _ _)
          have Hadd := Lib.hid hadd
          have Hg := Lib.hid hg
          have Hbx := Lib.hid hbx
          have HTV := Lib.hid hT
          clear hadd hg hbx hT hx hp hne hxm hlenI hpl h4 h32 hr
          gi_wp2_with (refine ⟨trivial, ?_⟩; gi_at_call 48; refine Hadd.out.mono ?_; rintro e w2 ⟨rfl, hout⟩)
          exact ⟨KeepsFrom.ofTouch hout.1 (fun k hk => by rcases hk with rfl | rfl <;> (have := hb5.size; omega)), KN.ofTouch hout.1 HTV.out.kn, Hg.out.trans hout.1, (hout.1.block w.heap.size (heap_lt Hbx.out) (by rintro (h | h) <;> omega)).trans Hbx.out, by rw [insAll_snoc]; exact hout.2⟩
        case done =>
          rintro D zs V hD rfl ⟨hg, hbx, hT⟩ hK
          go_wp2_with fail
          refine ⟨by simp, .inl ⟨_, _, rfl, run_takeDeferred hK, ?_⟩⟩
          refine ⟨_, results_tmp rfl _ _ _, ?_⟩
          exact Hfin.out _ ((touch_own (β := Unit) (B := W5.heap.size) hb5.size).putObj (s := ()) _ hg hD hK rfl) ((tab_own b sb mb ms room (fun _ : Unit => insAll cmpY xs zs)).putObj (s := ()) _ hT hK rfl)
        case stop =>
          rintro D c pre W _ _ h _
          exact h.elim
end Go.Proofs.YtlledodigmkdjaaGreatDoor
