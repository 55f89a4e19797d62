/-
  The walk of the law SymClones. No condition but a bound on the lengths.
-/
import Derived.Test.YtlledodigmkdjaaGreatDoorSymClone
import Derived.Test.YtlledodigmkdjaaGreatDoorSymMost
import Derived.Test.YtlledodigmkdjaaGreatDoorSymWakes
import Derived.Test.YtlledodigmkdjaaGreatDoorOwnsS
import Derived.Deep.RegionWith
import Derived.BigRegion
namespace Go.Proofs.YtlledodigmkdjaaGreatDoor
set_option linter.unusedVariables false
open Go.RowKit
theorem cell_same {w w' : World} {b o : Nat} (h : w'.heap[b]? = w.heap[b]?) : w'.cell? ⟨b, o, none⟩ = w.cell? ⟨b, o, none⟩ := by
  unfold World.cell?
  simp only [h]
theorem Elts.touch {A : Nat → Prop} {w w' : World} {a : Option Addr} {l : List Sy} (h : Elts w a l) (hg : Touch A w w') (hA : ∀ b off, a = some ⟨b, off, none⟩ → ¬ A b) : Elts w' a l := fun k hk => by
  obtain ⟨b, off, h1, h2, h3⟩ := h k hk
  exact ⟨b, off, h1, Nat.lt_of_lt_of_le h2 hg.size, fun j c hc => (cell_same (hg.block b h2 (hA b off h1))).trans (h3 j c hc)⟩
theorem elts_of_owns {w : World} {base : Nat} {e : TypeId} {v : Value} {ys : List Sy} (h : w.ownsRow base e 3 v ys.length (ys.flatMap encS)) : ∃ a cap, v = .slice a ys.length cap ∧ Elts w a ys ∧ ∀ b off, a = some ⟨b, off, none⟩ → base ≤ b ∧ b < w.heap.size := by
  rcases owns_cells h with ⟨h1, h2⟩ | ⟨g, cap, h1, h2, h3, h4, h5⟩
  · exact ⟨none, 0, by rw [h1, h2], fun k hk => absurd hk (by omega), fun b off e => by cases e⟩
  · refine ⟨_, cap, h1, fun k hk => ⟨g, 0, rfl, h3, fun j c hc => ?_⟩, fun b off e => by cases e; exact ⟨h2, h3⟩⟩
    have hj : j < 3 := by
      have := (List.getElem?_eq_some_iff.1 hc).1
      simpa [encS] using this
    rw [Nat.zero_add]
    exact h5 _ c ((flat_encS ys k hk j hj).trans hc)
theorem all_tab (w : World) (b sb mb ms : Nat) (room : Int) (xs : List Sy) (ys : List Pc) (h : TabAt w b sb mb ms room xs ys) :
    Calls Tryz.prog 30 #[.pointer (some ⟨b, 0, none⟩)] w fun e w' => e = .returned (.func (.func 61) #[] #[.pointer (some ⟨w.heap.size, 0, none⟩)]) ∧ w' = w.alloc (.cells #[.pointer (some ⟨sb, 0, none⟩)] 67) := by
  have c0 : w.cell? ⟨b, 0, none⟩ = some (.pointer (some ⟨sb, 0, none⟩)) := by rw [cells_of h.cells]; rfl
  clear h
  go_enter Tryz.func30, Tryz.ntmps30
  go_wp2_with (go_at_call 47; refine (all_anyS _ sb).mono ?_; rintro e w' ⟨rfl, rfl⟩)
  go_ret
  exact ⟨rfl, rfl⟩
theorem fresh_touch (w : World) (b sb mb ms : Nat) (room : Int) (xs : List Sy) (ys : List Pc) (c : UInt8) (h : TabAt w b sb mb ms room xs ys) :
    Calls Tryz.prog 21 #[.pointer (some ⟨b, 0, none⟩), .int .u8 c.toNat] w fun e w' => ∃ v, e = .returned v ∧ Touch (TabTouch sb ms) w w' ∧ ∃ xs' ys', TabAt w' b sb mb ms room xs' ys' := by
  by_cases he : fresherr c room xs = 0
  · refine (fresh_good w b sb mb ms room xs ys c h he).mono ?_
    rintro e w' ⟨rfl, h1, ys', h2⟩
    exact ⟨_, rfl, h1, _, ys', h2⟩
  · refine (fresh_bad w b sb mb ms room xs ys c h he).mono ?_
    rintro e w' ⟨rfl, h1⟩
    exact ⟨_, rfl, Touch.ofBelow h1, xs, ys, h.mono h1⟩
theorem TabAt.apart {W W' : World} {b sb mb ms b' sb' mb' ms' : Nat} {room : Int} {xs xs' : List Sy} {ys ys' : List Pc} (h : TabAt W b' sb' mb' ms' room xs' ys') (h0 : TabAt W b sb mb ms room xs ys) (hg : Touch (TabTouch sb ms) W W') (n1 : ¬ TabTouch sb ms b') (n2 : ¬ TabTouch sb ms sb') (n3 : ¬ TabTouch sb ms mb') (n4 : ¬ TabTouch sb ms ms') : TabAt W' b' sb' mb' ms' room xs' ys' :=
  h.touch hg n1 n2 n3 n4 (by
    rintro k (rfl | rfl) c t f hc
    · rw [set_type h0.known hc]; exact ⟨by decide, by decide⟩
    · rw [set_type h0.map.2 hc]; exact ⟨by decide, by decide⟩)
theorem putXs_length (room : Int) (l : List Sy) : (putXs room [] l).length ≤ l.length := by
  unfold putXs
  split
  · have h1 := insAll_length cmpY (newMs [] l) []
    have h2 := newMs_length [] l
    simp only [List.length_nil] at h1
    omega
  · simp
set_option maxRecDepth 100000 in
set_option maxHeartbeats 4000000 in
theorem clones_walk (w : World) (a1 : Option Addr) (cap1 : Nat) (l1 : List Sy) (a2 : Option Addr) (cap2 : Nat) (l2 : List Sy) (h1 : Elts w a1 l1) (h2 : Elts w a2 l2) (m1 : l1.length ≤ maxLen) (m2 : l2.length ≤ maxLen) :
    Calls Tryz.prog 7 #[.slice a1 l1.length cap1, .slice a2 l2.length cap2] w fun e w' => e = .returned (.bool true) ∧ Below w.heap.size w w' := by
  unfold maxLen at m1 m2
  by_cases hl1 : 40 < l1.length
  · clear h1 h2
    go_enter Tryz.func7, Tryz.ntmps7
    go_wp2_with (go_at_call 8; refine (swakes_any _).mono ?_; rintro e w2 ⟨rfl, hb2⟩)
    go_ret
    exact ⟨rfl, hb2⟩
  · by_cases hl2 : 40 < l2.length
    · clear h1 h2
      go_enter Tryz.func7, Tryz.ntmps7
      go_wp2_with (go_at_call 8; refine (swakes_any _).mono ?_; rintro e w2 ⟨rfl, hb2⟩)
      go_ret
      exact ⟨rfl, hb2⟩
    · have H1 := Lib.hid h1
      have H2 := Lib.hid h2
      clear h1 h2
      go_enter Tryz.func7, Tryz.ntmps7
      go_wp2_with fail
      refine (new_tab w 200 (by decide) (by decide)).mono ?_
      unfold NewTOut
      rintro e w1 ⟨b, sb, mb, ms, rfl, hb1, ⟨q1, q2, q3, q4⟩, hT1⟩
      have HB1 := Lib.hid hb1
      have HT1 := Lib.hid hT1
      have HQ := Lib.hid (⟨q1, q2, q3, q4⟩ : w.heap.size ≤ sb ∧ sb < ms ∧ ms < mb ∧ mb < b)
      clear hb1 hT1 q1 q2 q3 q4
      go_wp2_with fail
      refine (put_tab w1 b sb mb ms 200 [] [] a1 cap1 l1 HT1.out (H1.out.mono HB1.out) (by omega)).mono ?_
      rintro e w2 ⟨rfl, hg2, ys2, hT2⟩
      have hx1 := putXs_length 200 l1
      generalize putXs 200 [] l1 = xs1 at hT2 hx1
      generalize putE 200 [] l1 = e1
      have hab : ∀ k, TabTouch sb ms k → w.heap.size ≤ k := fun k hk => by have := HQ.out; rcases hk with rfl | rfl <;> omega
      have hb2 : Below w.heap.size w w2 := HB1.out.trans (hg2.below HB1.out.size (fun k _ hk => hab k hk))
      have HAB := Lib.hid hab
      have HB2 := Lib.hid hb2
      have HT2 := Lib.hid hT2
      have hx40 : xs1.length ≤ 40 := by omega
      have hsb2 := IsSet.lt hT2.known
      have hms2 := IsSet.lt hT2.map.2
      clear hg2 hb2 hT2 hx1 HT1 hab
      go_wp2_with fail
      refine (all_tab w2 b sb mb ms 200 xs1 ys2 HT2.out).mono ?_
      rintro e w3 ⟨rfl, rfl⟩
      go_wp2_with fail
      refine (list_allS w2 sb xs1 (by omega) HT2.out.known).mono ?_
      rintro e w4 ⟨v, rfl, hrow, -, hb4⟩
      have hal : Below w2.heap.size w2 (w2.alloc (.cells #[.pointer (some ⟨sb, 0, none⟩)] 67)) := (Below.refl _ _).alloc (Nat.le_refl _) _
      have HB24 := Lib.hid (hal.trans (hb4.mono hal.size))
      obtain ⟨a3, cap3, rfl, he3, hp3⟩ := elts_of_owns hrow
      have HE3 := Lib.hid he3
      have HP3 : Hid (∀ b off, a3 = some ⟨b, off, none⟩ → w2.heap.size ≤ b ∧ b < w4.heap.size) := Lib.hid (fun b off e => ⟨Nat.le_trans hal.size (hp3 b off e).1, (hp3 b off e).2⟩)
      clear hrow hb4 hal he3 hp3
      go_wp2_with fail
      refine (clone_tab w4 b sb mb ms 200 xs1 ys2 (HT2.out.mono HB24.out)).mono ?_
      rintro e w5 ⟨b', sb', mb', ms', ysc, rfl, hb5, ⟨r1, r2, r3, r4⟩, hTc⟩
      have HB45 := Lib.hid hb5
      have HTc := Lib.hid hTc
      have HB25 := Lib.hid (HB24.out.trans (hb5.mono HB24.out.size))
      have HB5 := Lib.hid (HB2.out.trans (HB25.out.mono HB2.out.size))
      have HNc : Hid (¬ TabTouch sb ms b' ∧ ¬ TabTouch sb ms sb' ∧ ¬ TabTouch sb ms mb' ∧ ¬ TabTouch sb ms ms') := Lib.hid (by
        have := HB24.out.size
        unfold TabTouch
        omega)
      have HN3 : Hid (∀ b off, a3 = some ⟨b, off, none⟩ → ¬ TabTouch sb ms b) := Lib.hid (fun b off e => by
        have := HP3.out b off e
        unfold TabTouch
        omega)
      have HN3c : Hid (∀ b off, a3 = some ⟨b, off, none⟩ → ¬ TabTouch sb' ms' b) := Lib.hid (fun b off e => by
        have := HP3.out b off e
        unfold TabTouch
        omega)
      have HABc : Hid (∀ k, TabTouch sb' ms' k → w.heap.size ≤ k) := Lib.hid (fun k hk => by
        have := HB24.out.size
        have := HB2.out.size
        rcases hk with rfl | rfl <;> omega)
      clear hb5 hTc r1 r2 r3 r4
      go_wp2_with fail
      refine (put_tab w5 b sb mb ms 200 xs1 ys2 a2 cap2 l2 (HT2.out.mono HB25.out) (H2.out.mono HB5.out) (by omega)).mono ?_
      rintro e w6 ⟨rfl, hg6, ys6, hT6⟩
      have HTc6 := Lib.hid (HTc.out.apart (HT2.out.mono HB25.out) hg6 HNc.out.1 HNc.out.2.1 HNc.out.2.2.1 HNc.out.2.2.2)
      have HE6 := Lib.hid ((HE3.out.mono HB45.out).touch hg6 HN3.out)
      have HB6 := Lib.hid (HB5.out.trans (hg6.below HB5.out.size (fun k _ hk => HAB.out k hk)))
      have HT6 := Lib.hid hT6
      generalize putXs 200 xs1 l2 = xs6 at HT6
      generalize putE 200 xs1 l2 = e6
      clear hg6 hT6 HT2 HTc HE3 HB5 HB25 HB24
      go_wp2_with fail
      refine (fresh_touch w6 b sb mb ms 200 xs6 ys6 81 HT6.out).mono ?_
      rintro e w7 ⟨v7, rfl, hg7, -⟩
      have HTc7 := Lib.hid (HTc6.out.apart HT6.out hg7 HNc.out.1 HNc.out.2.1 HNc.out.2.2.1 HNc.out.2.2.2)
      have HE7 := Lib.hid (HE6.out.touch hg7 HN3.out)
      have HB7 := Lib.hid (HB6.out.trans (hg7.below HB6.out.size (fun k _ hk => HAB.out k hk)))
      clear hg7 HT6 HTc6 HE6 HB6
      go_wp2_with fail
      have hq81 : ((81 : UInt8).toNat : Int) = 81 := rfl
      have hcapQ : capB 81 = true := by decide
      obtain ⟨G, hG⟩ : ∃ G, G = great 81 xs1 := ⟨_, rfl⟩
      have hgb := great_bound 81 xs1 HTc7.out.all
      rw [← hG] at hgb
      have hmost := fun w' (h : Elts w' a3 xs1) => most_any w' a3 cap3 xs1 h (by omega)
      rw [← hG] at hmost
      have Hmost := Lib.hid hmost
      clear hmost
      by_cases hbig : 1048576 ≤ G
      · have hd : decide (1048576 ≤ G) = true := by simp [hbig]
        have he : fresherr 81 200 xs1 = 20 := by
          unfold fresherr
          rw [if_neg (by rw [hcapQ]; decide), if_pos (by rw [← hG]; omega)]
        have hfr := fresh_bad w7 b' sb' mb' ms' 200 xs1 ysc 81 HTc7.out (by rw [he]; decide)
        rw [he, hq81] at hfr
        refine hfr.mono ?_
        rintro e w8 ⟨rfl, hb8⟩
        have hal : Below w8.heap.size w8 (w8.alloc (.cells #[.int .i64 0, .string ⟨#[]⟩, .int .i64 0] 23)) := (Below.refl _ _).alloc (Nat.le_refl _) _
        have HB78 := Lib.hid (hb8.trans (hal.mono hb8.size))
        have HE8 := Lib.hid (HE7.out.mono HB78.out)
        have HT8 := Lib.hid (HTc7.out.mono HB78.out)
        have HB8 := Lib.hid (HB7.out.trans (HB78.out.mono HB7.out.size))
        clear hb8 hal hfr he hG
        go_wp2_with fail
        refine (Hmost.out _ HE8.out).mono ?_
        rintro e w9 ⟨rfl, hb9⟩
        have HT9 := Lib.hid (len_tab w9 b' sb' mb' ms' 200 xs1 ysc (HT8.out.mono hb9))
        have HB9 := Lib.hid (HB8.out.trans (hb9.mono HB8.out.size))
        clear hb9
        go_wp2_with (first | (go_at_call 27; refine HT9.out.mono ?_; rintro e w' ⟨rfl, rfl⟩) | (go_at_call 8; refine (swakes_any _).mono ?_; rintro e w10 ⟨rfl, hb10⟩))
        go_ret
        exact ⟨rfl, HB9.out.trans (hb10.mono HB9.out.size)⟩
      · have hd : decide (1048576 ≤ G) = false := by simp; omega
        have he : fresherr 81 200 xs1 = 0 := by
          unfold fresherr
          rw [if_neg (by rw [hcapQ]; decide), if_neg (by rw [← hG]; omega)]
        obtain ⟨F, hF⟩ : ∃ F, F = freshY 81 xs1 := ⟨_, rfl⟩
        have hFn : F.n = 1 + G := by rw [hF, hG, Int.add_comm]; rfl
        obtain ⟨X, hX⟩ : ∃ X, X = ins cmpY F xs1 := ⟨_, rfl⟩
        have hXl : X.length = xs1.length + 1 := by rw [hX, hF]; exact ins_length_new (fresh_new 81 xs1)
        have hfr := (fresh_good w7 b' sb' mb' ms' 200 xs1 ysc 81 HTc7.out he).mono (R' := fun e w8 => e = .returned (.tuple #[.agg #[.int .i64 F.k, .string F.t, .int .i64 F.n], .int .i64 0]) ∧ Hid (Touch (TabTouch sb' ms') w7 w8 ∧ ∃ ys', TabAt w8 b' sb' mb' ms' 200 X ys')) (by
          rintro e w8 ⟨he8, h8⟩
          subst hX hF
          exact ⟨he8, h8⟩)
        rw [hq81] at hfr
        clear hX hF
        refine hfr.mono ?_
        rintro e w8 ⟨rfl, h8⟩
        obtain ⟨hg8, ysd, hT8⟩ := h8.out
        have hal : Below w8.heap.size w8 (w8.alloc (.cells #[.int .i64 F.k, .string F.t, .int .i64 F.n] 23)) := (Below.refl _ _).alloc (Nat.le_refl _) _
        have HE8 := Lib.hid ((HE7.out.touch hg8 HN3c.out).mono hal)
        have HT8 := Lib.hid (hT8.mono hal)
        have hb78 : Below w.heap.size w w8 := HB7.out.trans (hg8.below HB7.out.size (fun k _ hk => HABc.out k hk))
        have HB8 := Lib.hid (hb78.trans (hal.mono hb78.size))
        have HX8 : Hid ((w8.alloc (.cells #[.int .i64 F.k, .string F.t, .int .i64 F.n] 23)).heap[w8.heap.size]? = some (.cells #[.int .i64 F.k, .string F.t, .int .i64 F.n] 23 (0, 0))) := Lib.hid (new_at rfl)
        have HFn := Lib.hid hFn
        clear h8 hg8 hT8 hal hb78 hfr he hFn hG
        go_wp2_with fail
        refine (Hmost.out _ HE8.out).mono ?_
        rintro e w9 ⟨rfl, hb9⟩
        have hx9 := (hb9.block _ (heap_lt HX8.out)).trans HX8.out
        have HB9 := Lib.hid (HB8.out.trans (hb9.mono HB8.out.size))
        have HE9 := Lib.hid (HE8.out.mono hb9)
        have HT9 := Lib.hid (HT8.out.mono hb9)
        have HK : Hid (∀ w', Below w9.heap.size w9 w' → w'.cell? ⟨w8.heap.size, 2, none⟩ = some (.int .i64 (1 + G))) := Lib.hid (fun w' h => by
          rw [cells_of ((h.block _ (heap_lt hx9)).trans hx9), ← HFn.out]; rfl)
        have c9 := HK.out w9 (Below.refl _ _)
        have hcur : Hid (Below w9.heap.size w9 w9.drew) := Lib.hid (Below.refl _ _).drew
        have Hlen := Lib.hid (fun w' (h : Below w9.heap.size w9 w') => len_tab w' b' sb' mb' ms' 200 X ysd (HT9.out.mono h))
        have hXi : (X.length : Int) = (xs1.length : Int) + 1 := by omega
        rw [hXi] at Hlen
        have hwr : IntKind.i64.wrap (1 + G) = 1 + G := by rw [IntKind.wrap_i64]; omega
        have hwl : IntKind.i64.wrap ((xs1.length : Int) + 1) = (xs1.length : Int) + 1 := by rw [IntKind.wrap_i64]; omega
        clear hXi hXl
        clear hb9 hx9 HE8 HT8 HX8
        go_wp2_with fail
        go_region_held3 (fun w' => Below w9.heap.size w9 w' ∧ w'.cell? ⟨w8.heap.size, 2, none⟩ = some (.int .i64 (1 + G)))
          (first | exact ⟨hcur.out, HK.out _ hcur.out⟩ | go_keep)
          (first | (go_at_call 32; refine (Hmost.out _ (HE9.out.mono hcur.out)).mono ?_; rintro e wx ⟨rfl, hbx⟩; replace hcur := Lib.hid (hcur.out.trans (hbx.mono hcur.out.size)); clear hbx) | (go_at_call 27; refine (Hlen.out _ hcur.out).mono ?_; rintro e wx ⟨rfl, rfl⟩) | (go_at_call 8; refine (swakes_any _).mono ?_; rintro e wx ⟨rfl, hbx⟩; replace hcur := Lib.hid (hcur.out.trans (hbx.mono hcur.out.size)); clear hbx))
        all_goals
          rename_i hHeld
          clear hHeld
          go_wp2_with fail
          go_ret
          exact ⟨rfl, HB9.out.trans (hcur.out.mono HB9.out.size)⟩
end Go.Proofs.YtlledodigmkdjaaGreatDoor
