/-
  The walk of the law SymFresh. Within at any number; ponderref04.Has where it is none of them; bytes that came in. No condition but bounds.
-/
import Derived.Test.YtlledodigmkdjaaGreatDoorSymPut
import Derived.Test.YtlledodigmkdjaaGreatDoorSymWakes
import Derived.Test.YtlledodigmkdjaaGreatDoorOwnsS
import Derived.OpenShut
import Derived.Laws.IdiomStrings
namespace Go.Proofs.YtlledodigmkdjaaGreatDoor
set_option linter.unusedVariables false
open Go.RowKit
theorem cell_same {w w' : World} {b o : Nat} (h : w'.heap[b]? = w.heap[b]?) : w'.cell? ⟨b, o, none⟩ = w.cell? ⟨b, o, none⟩ := by
  unfold World.cell?
  simp only [h]
theorem Elts.touch {A : Nat → Prop} {w w' : World} {a : Option Addr} {l : List Sy} (h : Elts w a l) (hg : Touch A w w') (hA : ∀ b off, a = some ⟨b, off, none⟩ → ¬ A b) : Elts w' a l := fun k hk => by
  obtain ⟨b, off, h1, h2, h3⟩ := h k hk
  exact ⟨b, off, h1, Nat.lt_of_lt_of_le h2 hg.size, fun j c hc => (cell_same (hg.block b h2 (hA b off h1))).trans (h3 j c hc)⟩
theorem elts_of_owns {w : World} {base : Nat} {e : TypeId} {v : Value} {ys : List Sy} (h : w.ownsRow base e 3 v ys.length (ys.flatMap encS)) : ∃ a cap, v = .slice a ys.length cap ∧ Elts w a ys ∧ ∀ b off, a = some ⟨b, off, none⟩ → base ≤ b ∧ b < w.heap.size := by
  rcases owns_cells h with ⟨h1, h2⟩ | ⟨g, cap, h1, h2, h3, h4, h5⟩
  · exact ⟨none, 0, by rw [h1, h2], fun k hk => absurd hk (by omega), fun b off e => by cases e⟩
  · refine ⟨_, cap, h1, fun k hk => ⟨g, 0, rfl, h3, fun j c hc => ?_⟩, fun b off e => by cases e; exact ⟨h2, h3⟩⟩
    have hj : j < 3 := by
      have := (List.getElem?_eq_some_iff.1 hc).1
      simpa [encS] using this
    rw [Nat.zero_add]
    exact h5 _ c ((flat_encS ys k hk j hj).trans hc)
theorem all_tab (w : World) (b sb mb ms : Nat) (room : Int) (xs : List Sy) (ys : List Pc) (h : TabAt w b sb mb ms room xs ys) :
    Calls Tryz.prog 30 #[.pointer (some ⟨b, 0, none⟩)] w fun e w' => e = .returned (.func (.func 61) #[] #[.pointer (some ⟨w.heap.size, 0, none⟩)]) ∧ w' = w.alloc (.cells #[.pointer (some ⟨sb, 0, none⟩)] 67) := by
  have c0 : w.cell? ⟨b, 0, none⟩ = some (.pointer (some ⟨sb, 0, none⟩)) := by rw [cells_of h.cells]; rfl
  clear h
  go_enter Tryz.func30, Tryz.ntmps30
  go_wp2_with (go_at_call 47; refine (all_anyS _ sb).mono ?_; rintro e w' ⟨rfl, rfl⟩)
  go_ret
  exact ⟨rfl, rfl⟩
theorem fresh_touch (w : World) (b sb mb ms : Nat) (room : Int) (xs : List Sy) (ys : List Pc) (c : UInt8) (h : TabAt w b sb mb ms room xs ys) :
    Calls Tryz.prog 21 #[.pointer (some ⟨b, 0, none⟩), .int .u8 c.toNat] w fun e w' => ∃ v, e = .returned v ∧ Touch (TabTouch sb ms) w w' ∧ ∃ xs' ys', TabAt w' b sb mb ms room xs' ys' := by
  by_cases he : fresherr c room xs = 0
  · refine (fresh_good w b sb mb ms room xs ys c h he).mono ?_
    rintro e w' ⟨rfl, h1, ys', h2⟩
    exact ⟨_, rfl, h1, _, ys', h2⟩
  · refine (fresh_bad w b sb mb ms room xs ys c h he).mono ?_
    rintro e w' ⟨rfl, h1⟩
    exact ⟨_, rfl, Touch.ofBelow h1, xs, ys, h.mono h1⟩
theorem TabAt.apart {W W' : World} {b sb mb ms b' sb' mb' ms' : Nat} {room : Int} {xs xs' : List Sy} {ys ys' : List Pc} (h : TabAt W b' sb' mb' ms' room xs' ys') (h0 : TabAt W b sb mb ms room xs ys) (hg : Touch (TabTouch sb ms) W W') (n1 : ¬ TabTouch sb ms b') (n2 : ¬ TabTouch sb ms sb') (n3 : ¬ TabTouch sb ms mb') (n4 : ¬ TabTouch sb ms ms') : TabAt W' b' sb' mb' ms' room xs' ys' :=
  h.touch hg n1 n2 n3 n4 (by
    rintro k (rfl | rfl) c t f hc
    · rw [set_type h0.known hc]; exact ⟨by decide, by decide⟩
    · rw [set_type h0.map.2 hc]; exact ⟨by decide, by decide⟩)
theorem putXs_length (room : Int) (l : List Sy) : (putXs room [] l).length ≤ l.length := by
  unfold putXs
  split
  · have h1 := insAll_length cmpY (newMs [] l) []
    have h2 := newMs_length [] l
    simp only [List.length_nil] at h1
    omega
  · simp

theorem emod_of_tmod (v n : Int) (hn : 0 < n) : v % n = if v.tmod n < 0 then v.tmod n + n else v.tmod n := by
  have h1 := Int.tmod_eq_emod (a := v) (b := n)
  have h2 := Int.emod_nonneg v (show n ≠ 0 by omega)
  have h3 := Int.emod_lt_of_pos v hn
  split at h1 <;> split <;> omega
theorem within_all (w : World) (v : Int) (n : Nat) (hv : -9223372036854775808 ≤ v) (hv2 : v ≤ 9223372036854775807) (h0 : 0 < n) (hn : n ≤ 1000000) :
    Calls Tryz.prog 18 #[.int .i64 v, .int .i64 n] w fun e w' => e = .returned (.int .i64 (v % n)) ∧ w = w' := by
  have hd : decide ((n : Int) < 1) = false := decide_eq_false (by omega)
  have hz : ((n : Int) == 0) = false := by simp; omega
  have he := emod_of_tmod v n (by omega)
  have h2 := Int.emod_nonneg v (show (n : Int) ≠ 0 by omega)
  have h3 := Int.emod_lt_of_pos v (show 0 < (n : Int) by omega)
  by_cases ht : v.tmod n < 0
  · rw [if_pos ht] at he
    have h4 : -(n : Int) ≤ v.tmod n := by omega
    have hd2 : decide (v.tmod n < 0) = true := decide_eq_true ht
    have he := Lib.hid he
    rename_i he0
    clear he0 h2 h3
    go_enter Tryz.func18, Tryz.ntmps18
    go_wp2_with fail
    go_ret
    exact ⟨ret_int he.out.symm, rfl⟩
  · rw [if_neg ht] at he
    have h4 : (n : Int) ≥ v.tmod n := by omega
    have hd2 : decide (v.tmod n < 0) = false := decide_eq_false ht
    have he := Lib.hid he
    rename_i he0
    clear he0 h2 h3
    go_enter Tryz.func18, Tryz.ntmps18
    go_wp2_with fail
    go_ret
    exact ⟨ret_int he.out.symm, rfl⟩

theorem sy_iff {x y : Sy} : x = y ↔ x.k = y.k ∧ x.t.toList = y.t.toList ∧ x.n = y.n := by
  constructor
  · rintro rfl; exact ⟨rfl, rfl, rfl⟩
  · rintro ⟨h1, h2, h3⟩
    cases x; cases y
    simp only [Lib.toList_data] at h2
    simp only at h1 h3
    subst h1; subst h3
    rw [ByteArray.ext (Array.toList_inj.mp h2)]
theorem eqY_run (x y : Sy) (w : World) : (binOp .eql 23 (.agg #[.int .i64 x.k, .string x.t, .int .i64 x.n]) (.agg #[.int .i64 y.k, .string y.t, .int .i64 y.n])).run Tryz.prog w = .ok (.bool (decide (x = y))) w := by
  simp only [sy_iff]
  simp [go_sem]
  split <;> (try split) <;> (try split) <;> simp_all
theorem neY_run (x y : Sy) (w : World) : (binOp .neq 23 (.agg #[.int .i64 x.k, .string x.t, .int .i64 x.n]) (.agg #[.int .i64 y.k, .string y.t, .int .i64 y.n])).run Tryz.prog w = .ok (.bool (!decide (x = y))) w := by
  simp only [sy_iff]
  simp [go_sem]
  split <;> (try split) <;> (try split) <;> simp_all
theorem eqY_yes {x y : Sy} (h : x = y) (w : World) : (binOp .eql 23 (.agg #[.int .i64 x.k, .string x.t, .int .i64 x.n]) (.agg #[.int .i64 y.k, .string y.t, .int .i64 y.n])).run Tryz.prog w = .ok (.bool true) w := by rw [eqY_run]; simp [h]
theorem eqY_no {x y : Sy} (h : x ≠ y) (w : World) : (binOp .eql 23 (.agg #[.int .i64 x.k, .string x.t, .int .i64 x.n]) (.agg #[.int .i64 y.k, .string y.t, .int .i64 y.n])).run Tryz.prog w = .ok (.bool false) w := by rw [eqY_run]; simp [h]
theorem neY_yes {x y : Sy} (h : x ≠ y) (w : World) : (binOp .neq 23 (.agg #[.int .i64 x.k, .string x.t, .int .i64 x.n]) (.agg #[.int .i64 y.k, .string y.t, .int .i64 y.n])).run Tryz.prog w = .ok (.bool true) w := by rw [neY_run]; simp [h]
theorem neY_no {x y : Sy} (h : x = y) (w : World) : (binOp .neq 23 (.agg #[.int .i64 x.k, .string x.t, .int .i64 x.n]) (.agg #[.int .i64 y.k, .string y.t, .int .i64 y.n])).run Tryz.prog w = .ok (.bool false) w := by rw [neY_run]; simp [h]

set_option maxHeartbeats 1000000 in
theorem has_no (w : World) (a : Option Addr) (cap : Nat) (xs : List Sy) (x : Sy) (hz : xs.length ≤ 1000000) (he : Elts w a xs) (hn : ∀ y ∈ xs, y ≠ x) :
    Calls Tryz.prog 24 #[.slice a xs.length cap, .agg #[.int .i64 x.k, .string x.t, .int .i64 x.n]] w fun e w' => e = .returned (.bool false) ∧ Below w.heap.size w w' := by
  obtain ⟨W2, hW2⟩ : ∃ W2, W2 = w.alloc (.cells #[.int .i64 x.k, .string x.t, .int .i64 x.n] 23) := ⟨_, rfl⟩
  have hB : Below w.heap.size w W2 := by rw [hW2]; go_grown
  have hbox : W2.heap[w.heap.size]? = some (.cells #[.int .i64 x.k, .string x.t, .int .i64 x.n] 23 (0, 0)) := by rw [hW2]; exact new_at rfl
  have Hbox := Lib.hid hbox
  have HC := Lib.hid he
  have HN := Lib.hid hn
  have HW := Lib.hid hW2
  have HB := Lib.hid hB
  clear hbox he hW2 hB hn
  go_enter Tryz.func24, Tryz.ntmps24
  go_wp2_with fail
  rw [← HW.out]
  go_loopw [5] (fun i wr => ∃ k : Nat, k ≤ xs.length ∧ i = .int .i64 k ∧ Below W2.heap.size W2 wr) (fun i _ => xs.length - (intOf i).toNat)
  case atStart => exact ⟨0, Nat.zero_le _, rfl, Below.refl _ _⟩
  case round =>
    obtain ⟨k, hk, rfl, hbw⟩ := hrel
    have hww := HB.out.trans (hbw.mono HB.out.size)
    by_cases hlt : k < xs.length
    · obtain ⟨bb, off, rfl, hcell⟩ := HC.out.at hlt
      obtain ⟨c0, c1, c2⟩ := hcell wr hww
      obtain ⟨x0, x1, x2, -, -, -, -⟩ := box_cells Hbox.out hbw
      have hki : (k : Int) < (xs.length : Int) := by omega
      have hq := eqY_no (HN.out _ (List.getElem_mem hlt))
      generalize xs[k] = y at c0 c1 c2 hq
      clear hcell
      go_wp2_with fail
      go_quiet (fail)
      go_wp2_with fail
      go_roundw
      case rel => exact ⟨k + 1, by omega, by go_num, bdN _ hbw⟩
      case measure => simp [intOf]; omega
    · obtain rfl : k = xs.length := by omega
      go_wp2_with fail
      go_ret
      exact ⟨rfl, hww⟩
/-- Bytes that came in. -/
def BytesAt (w : World) (a : Option Addr) (l : List UInt8) : Prop := ∀ k (h : k < l.length), ∃ b off, a = some ⟨b, off, none⟩ ∧ b < w.heap.size ∧ w.cell? ⟨b, off + k, none⟩ = some (.int .u8 l[k].toNat)
open Go.ChangeShapes Go.WideShapes Go.ChangeAt in
theorem arg_bytes {H : Type} {enc : TypeId × Value → H} {w : World} {base : Nat} {held : Bool} {d : DataW H} {ps : List MemPlace} {a : Option Addr} {len cap : Nat}
    (h : DataW.Trod enc Tryz.prog w base (fun _ => true) held 55 (.slice a len cap) d ps) : len ≤ maxLen ∧ ∃ l : List UInt8, l.length = len ∧ BytesAt w a l := by
  obtain ⟨fuel, hf⟩ := h
  rcases open_ints Tryz.underlying55 Tryz.underlying5 (by kernel_rfl) hf with ⟨hcs, _⟩ | ⟨x, l, c, zs, hcs, _, hl, hm, hz, _, hcell, hwz⟩
  · simp [Value.cells] at hcs
    obtain ⟨rfl, rfl, rfl⟩ := hcs
    exact ⟨by simp, [], rfl, fun k hk => absurd hk (by simp)⟩
  · simp [Value.cells] at hcs
    obtain ⟨rfl, rfl, rfl⟩ := hcs
    simp only [if_true] at hz
    refine ⟨Nat.le_trans hl hm, (zs.take len).map fun z => UInt8.ofNat z.toNat, by rw [List.length_map, List.length_take]; omega, fun k hk => ?_⟩
    simp only [List.length_map, List.length_take] at hk
    obtain ⟨b, off, rfl, hc⟩ := ints_at hcell (by omega)
    refine ⟨b, off, rfl, World.block_lt_of_cell? w _ (hc 0 (by omega)), ?_⟩
    have hk2 : k < zs.length := by omega
    have hw := hwz zs[k] (List.getElem_mem hk2)
    have hb : 0 ≤ zs[k] ∧ zs[k] ≤ 255 := by
      simp only [Lit.wf, Bool.and_eq_true, decide_eq_true_eq] at hw
      have h1 : IntKind.min .u8 = 0 := by decide
      have h2 : IntKind.max .u8 = 255 := by decide
      omega
    rw [hc k hk2, List.getElem_map, List.getElem_take, List.getD_eq_getElem?_getD, List.getElem?_eq_getElem hk2]
    have e : ((UInt8.ofNat zs[k].toNat).toNat : Int) = zs[k] := by
      rw [UInt8.toNat_ofNat']
      have : zs[k].toNat % 2 ^ 8 = zs[k].toNat := Nat.mod_eq_of_lt (by omega)
      omega
    rw [e]; rfl
theorem conv_byte (W : World) (d : UInt8) : Sem.run Tryz.prog (convert 55 9 (.slice (some ⟨W.heap.size, 0, none⟩) 1 1)) (W.alloc (.cells #[.int .u8 d.toNat] 5)) = .ok (.string ⟨#[d]⟩) (W.alloc (.cells #[.int .u8 d.toNat] 5)) := by
  refine run_convert_bytes_back (P := Tryz.prog) _ 55 9 5 ⟨W.heap.size, 0, none⟩ 1 [d] Tryz.underlying55 Tryz.underlying5 Tryz.underlying9 (fun j hj => ?_)
  obtain rfl : j = 0 := by simp at hj; omega
  rw [Go.WideShapes.add_plain, cells_of (new_at rfl)]
  rfl
theorem putXs_room (room : Int) (l : List Sy) (h : 0 ≤ room) : ((putXs room [] l).length : Int) ≤ room := by
  unfold putXs
  split
  · rename_i h0
    unfold putE at h0
    split at h0
    · omega
    · split at h0
      · omega
      · have h1 := insAll_length cmpY (newMs [] l) []
        rename_i h2
        simp only [List.length_nil] at h1 h2
        omega
  · simpa using h
theorem great_freshY (c : UInt8) (xs : List Sy) : great c (ins cmpY (freshY c xs) xs) = great c xs + 1 := by
  rw [great_ins c _ xs (fresh_new c xs)]
  unfold stepG
  rw [if_pos (by simp [isL, freshY])]
  show max (great c xs) (great c xs + 1) = _
  omega
theorem has_ins_self (x : Sy) (xs : List Sy) : has cmpY x (ins cmpY x xs) = true := by
  rw [has_ins cmpY_cmp, cmpY_cmp.refl]; rfl

theorem conv_cell (w : World) (B : Nat) (d : UInt8) (h : w.cell? ⟨B, 0, none⟩ = some (.int .u8 d.toNat)) : Sem.run Tryz.prog (convert 55 9 (.slice (some ⟨B, 0, none⟩) 1 1)) w = .ok (.string ⟨#[d]⟩) w := by
  refine run_convert_bytes_back (P := Tryz.prog) _ 55 9 5 ⟨B, 0, none⟩ 1 [d] Tryz.underlying55 Tryz.underlying5 Tryz.underlying9 (fun j hj => ?_)
  obtain rfl : j = 0 := by simp at hj; omega
  rw [Go.WideShapes.add_plain, h]
  rfl
theorem wpAnyH_more {P : Program} {md : Region.Mode} {ops : Array Oper} {Q : Exit → Act → World → Prop} {S S' : World → Prop} (hS : ∀ w, S' w → S w) : ∀ (fuel : Nat) (listed : Array Bool) (a : Act) (w : World), wpAnyH P md ops Q S' fuel listed a w → wpAnyH P md ops Q S fuel listed a w
  | 0, _, _, _, h => h
  | fuel + 1, _, _, _, h => ⟨h.1, fun i hi => wpOp_mono (fun a' w' h' => ⟨hS _ h'.1, wpAnyH_more hS fuel _ a' w' h'.2⟩) (h.2 i hi)⟩
set_option maxRecDepth 100000 in
set_option maxHeartbeats 4000000 in
theorem fresh_long (w : World) (n0 : Int) (hn : -9223372036854775808 ≤ n0 ∧ n0 ≤ 9223372036854775807) (a1 : Option Addr) (len1 cap1 : Nat) (a2 : Option Addr) (len2 cap2 : Nat) (hl : 80 < len1 ∨ (len1 ≤ 80 ∧ 20 < len2)) (m1 : len1 ≤ maxLen) (m2 : len2 ≤ maxLen) :
    Calls Tryz.prog 6 #[.int .i64 n0, .slice a1 len1 cap1, .slice a2 len2 cap2] w fun e w' => e = .returned (.bool true) ∧ Below w.heap.size w w' := by
  unfold maxLen at m1 m2
  have q0 := Int.emod_nonneg n0 (show (60 : Int) ≠ 0 by omega)
  have q1 := Int.emod_lt_of_pos n0 (show (0 : Int) < 60 by omega)
  have hwn := fun w' => within_all w' n0 60 hn.1 hn.2 (by omega) (by omega)
  obtain ⟨q, hq⟩ : ∃ q, q = n0 % ((60 : Nat) : Int) := ⟨_, rfl⟩
  rw [← hq] at hwn
  have q0' : 0 ≤ q := by rw [hq]; exact q0
  have q1' : q < 60 := by rw [hq]; exact q1
  have Hwn := Lib.hid hwn
  clear hwn hq q0 q1
  have hwr : IntKind.i64.wrap (1 + q) = 1 + q := by rw [IntKind.wrap_i64]; omega
  rcases hl with hl | ⟨hl, hl'⟩
  all_goals
    go_enter Tryz.func6, Tryz.ntmps6
    go_wp2_with fail
    refine (Hwn.out _).mono ?_
    rintro e w0 ⟨rfl, rfl⟩
    go_wp2_with fail
    refine (new_tab w (1 + q) (by omega) (by omega)).mono ?_
    unfold NewTOut
    rintro e w1 ⟨b, sb, mb, ms, rfl, hb1, -, -⟩
    have HB1 := Lib.hid hb1
    clear hb1
    go_wp2_with (go_at_call 8; refine (swakes_any _).mono ?_; rintro e w2 ⟨rfl, hb2⟩)
    go_ret
    exact ⟨rfl, HB1.out.trans (hb2.mono HB1.out.size)⟩
set_option maxRecDepth 100000 in
set_option maxHeartbeats 8000000 in
theorem fresh_walk (w : World) (n0 : Int) (hn : -9223372036854775808 ≤ n0 ∧ n0 ≤ 9223372036854775807) (a1 : Option Addr) (cap1 : Nat) (ls : List UInt8) (a2 : Option Addr) (cap2 : Nat) (l2 : List Sy) (h1 : BytesAt w a1 ls) (h2 : Elts w a2 l2) (hl1 : ls.length ≤ 80) (hl2 : l2.length ≤ 20) :
    Calls Tryz.prog 6 #[.int .i64 n0, .slice a1 ls.length cap1, .slice a2 l2.length cap2] w fun e w' => e = .returned (.bool true) ∧ Below w.heap.size w w' := by
  have q0 := Int.emod_nonneg n0 (show (60 : Int) ≠ 0 by omega)
  have q1 := Int.emod_lt_of_pos n0 (show (0 : Int) < 60 by omega)
  have hwn := fun w' => within_all w' n0 60 hn.1 hn.2 (by omega) (by omega)
  obtain ⟨q, hq⟩ : ∃ q, q = n0 % ((60 : Nat) : Int) := ⟨_, rfl⟩
  rw [← hq] at hwn
  have q0' : 0 ≤ q := by rw [hq]; exact q0
  have q1' : q < 60 := by rw [hq]; exact q1
  have Hwn := Lib.hid hwn
  have H1 := Lib.hid h1
  have H2 := Lib.hid h2
  clear hwn hq q0 q1 hn h1 h2
  have hwr : IntKind.i64.wrap (1 + q) = 1 + q := by rw [IntKind.wrap_i64]; omega
  go_enter Tryz.func6, Tryz.ntmps6
  go_wp2_with fail
  refine (Hwn.out _).mono ?_
  rintro e w0 ⟨rfl, rfl⟩
  clear Hwn
  go_wp2_with fail
  refine (new_tab w (1 + q) (by omega) (by omega)).mono ?_
  unfold NewTOut
  rintro e w1 ⟨b, sb, mb, ms, rfl, hb1, ⟨p1, p2, p3, p4⟩, hT1⟩
  have HB1 := Lib.hid hb1
  have HT1 := Lib.hid hT1
  have HQ := Lib.hid (⟨p1, p2, p3, p4⟩ : w.heap.size ≤ sb ∧ sb < ms ∧ ms < mb ∧ mb < b)
  clear hb1 hT1 p1 p2 p3 p4
  go_wp2_with fail
  refine (put_tab w1 b sb mb ms (1 + q) [] [] a2 cap2 l2 HT1.out (H2.out.mono HB1.out) (by omega)).mono ?_
  rintro e w2 ⟨rfl, hg2, ys2, hT2⟩
  have hx1 := putXs_length (1 + q) l2
  have hx2 := putXs_room (1 + q) l2 (by omega)
  generalize putXs (1 + q) [] l2 = xs1 at hT2 hx1 hx2
  generalize putE (1 + q) [] l2 = e1
  have hab : ∀ k, TabTouch sb ms k → w.heap.size ≤ k := fun k hk => by have := HQ.out; rcases hk with rfl | rfl <;> omega
  have hb2 : Below w.heap.size w w2 := HB1.out.trans (hg2.below HB1.out.size (fun k _ hk => hab k hk))
  have HAB := Lib.hid hab
  have HB2 := Lib.hid hb2
  have HT2 := Lib.hid hT2
  have HX2 := Lib.hid hx2
  have hx40 : xs1.length ≤ 20 := by omega
  have hsb2 := IsSet.lt hT2.known
  have hms2 := IsSet.lt hT2.map.2
  clear hg2 hb2 hT2 hx1 hx2 HT1 hab
  go_wp2_with fail
  refine (all_tab w2 b sb mb ms (1 + q) xs1 ys2 HT2.out).mono ?_
  rintro e w3 ⟨rfl, rfl⟩
  go_wp2_with fail
  refine (list_allS w2 sb xs1 (by omega) HT2.out.known).mono ?_
  rintro e w4 ⟨v, rfl, hrow, -, hb4⟩
  have hal : Below w2.heap.size w2 (w2.alloc (.cells #[.pointer (some ⟨sb, 0, none⟩)] 67)) := (Below.refl _ _).alloc (Nat.le_refl _) _
  have HB24 := Lib.hid (hal.trans (hb4.mono hal.size))
  obtain ⟨a3, cap3, rfl, he3, hp3⟩ := elts_of_owns hrow
  have HE3 := Lib.hid he3
  have HN3 : Hid (∀ b off, a3 = some ⟨b, off, none⟩ → ¬ TabTouch sb ms b) := Lib.hid (fun b off e => by
    have := Nat.le_trans hal.size (hp3 b off e).1
    unfold TabTouch
    omega)
  have HT4 := Lib.hid (HT2.out.mono HB24.out)
  have HB4 := Lib.hid (HB2.out.trans (HB24.out.mono HB2.out.size))
  clear hrow hb4 hal he3 hp3 HT2 HB2 HB24
  go_wp2_with fail
  go_loopw [9] (fun i wr => ∃ k : Nat, k ≤ ls.length ∧ i = .int .i64 k ∧ Touch (TabTouch sb ms) w4 wr ∧ Hid (∃ xs ys, TabAt wr b sb mb ms (1 + q) xs ys ∧ (xs.length : Int) ≤ 1 + q ∧ ∀ y ∈ xs1, has cmpY y xs = true)) (fun i _ => ls.length - (intOf i).toNat)
  case atStart => exact ⟨0, Nat.zero_le _, rfl, Touch.refl _ _, Lib.hid ⟨xs1, ys2, HT4.out, HX2.out, fun y hy => by
    obtain ⟨i, hi, rfl⟩ := List.getElem_of_mem hy
    exact has_self cmpY_cmp hi⟩⟩
  case round =>
    obtain ⟨k, hk, rfl, hg, hst⟩ := hrel
    obtain ⟨xs, ys, hT, hroom, hsub⟩ := hst.out
    have HT := Lib.hid hT
    have HG := Lib.hid hg
    have HS := Lib.hid hsub
    have hbr : Below w.heap.size w wr := HB4.out.trans (hg.below HB4.out.size (fun k _ hk => HAB.out k hk))
    have HBR := Lib.hid hbr
    have hlen := len_tab wr b sb mb ms (1 + q) xs ys hT
    have Hlen := Lib.hid hlen
    have hx4 := hT.len
    clear hT hg hst hsub hbr hlen
    by_cases hlt : k < ls.length
    · obtain ⟨bb, off, rfl, hbb, hcc⟩ := H1.out k hlt
      have hltr : bb < wr.heap.size := Nat.lt_of_lt_of_le hbb HBR.out.size
      have HC : Hid (∀ w', Below w.heap.size w w' → w'.cell? ⟨bb, off + k, none⟩ = some (.int .u8 ls[k].toNat)) := Lib.hid (fun w' h => (h.cell (p := ⟨bb, off + k, none⟩) hbb).trans hcc)
      clear hcc
      generalize ls[k] = c at HC
      have cc := HC.out wr HBR.out
      have hki : (k : Int) < (ls.length : Int) := by omega
      have hgb := great_bound c xs HT.out.all
      by_cases he : fresherr c (1 + q) xs = 0
      · have hcap : capB c = true := by
          cases hc : capB c with
          | true => rfl
          | false => unfold fresherr at he; rw [if_pos hc] at he; omega
        have hle : ¬ (1 + q ≤ xs.length ∨ 1048576 < great c xs + 1) := fun hh => by
          unfold fresherr at he; rw [if_neg (by simp [hcap]), if_pos hh] at he; omega
        obtain ⟨g, hgr⟩ : ∃ g, g = great c xs := ⟨_, rfl⟩
        have hfr := (fresh_good wr b sb mb ms (1 + q) xs ys c HT.out he).mono (R' := fun e w8 => e = .returned (.tuple #[.agg #[.int .i64 1, .string ⟨#[c]⟩, .int .i64 (g + 1)], .int .i64 0]) ∧ Hid (Touch (TabTouch sb ms) wr w8 ∧ ∃ ys', TabAt w8 b sb mb ms (1 + q) (ins cmpY (freshY c xs) xs) ys')) (by
          rintro e w8 ⟨he8, h8⟩
          subst hgr
          exact ⟨he8, h8⟩)
        have Hfr := Lib.hid hfr
        have hXl : (ins cmpY (freshY c xs) xs).length = xs.length + 1 := ins_length_new (fresh_new c xs)
        have HGr := Lib.hid hgr
        have hg01 : 0 ≤ g ∧ g + 1 ≤ 1048576 := by rw [hgr]; omega
        have hle2 : (xs.length : Int) + 1 ≤ 1 + q := by omega
        have HLe := Lib.hid hle2
        clear hfr he hle hgr hgb hle2
        go_wp2_with fail
        refine Hlen.out.mono ?_
        rintro e w' ⟨rfl, rfl⟩
        go_wp2_with fail
        refine Hfr.out.mono ?_
        rintro e w8 ⟨rfl, h8⟩
        obtain ⟨hg8, ysd, hT8⟩ := h8.out
        have hal : Below w8.heap.size w8 (w8.alloc (.cells #[.int .i64 1, .string ⟨#[c]⟩, .int .i64 (g + 1)] 23)) := (Below.refl _ _).alloc (Nat.le_refl _) _
        obtain ⟨W9, hW9⟩ : ∃ W9, W9 = w8.alloc (.cells #[.int .i64 1, .string ⟨#[c]⟩, .int .i64 (g + 1)] 23) := ⟨_, rfl⟩
        rw [← hW9] at hal
        have hx9 : W9.heap[w8.heap.size]? = some (.cells #[.int .i64 1, .string ⟨#[c]⟩, .int .i64 (g + 1)] 23 (0, 0)) := by rw [hW9]; exact new_at rfl
        have HT9 := Lib.hid (hT8.mono hal)
        have hg9 : Touch (TabTouch sb ms) w4 W9 := (HG.out.trans hg8).trans (Touch.ofBelow hal)
        have HE9 := Lib.hid (HE3.out.touch hg9 HN3.out)
        have hb9 : Below w.heap.size w W9 := HB4.out.trans (hg9.below HB4.out.size (fun k _ hk => HAB.out k hk))
        have HB9 := Lib.hid hb9
        have HG9 := Lib.hid hg9
        have HK : Hid (∀ w', Below W9.heap.size W9 w' → (w'.cell? ⟨w8.heap.size, 0, none⟩ = some (.int .i64 1) ∧ w'.cell? ⟨w8.heap.size, 1, none⟩ = some (.string ⟨#[c]⟩) ∧ w'.cell? ⟨w8.heap.size, 2, none⟩ = some (.int .i64 (g + 1)) ∧ w'.cell? ⟨bb, off + k, none⟩ = some (.int .u8 c.toNat))) := Lib.hid (fun w' h => by
          have h2 := (h.block _ (heap_lt hx9)).trans hx9
          exact ⟨by rw [cells_of h2]; rfl, by rw [cells_of h2]; rfl, by rw [cells_of h2]; rfl, HC.out w' (HB9.out.trans (h.mono HB9.out.size))⟩)
        obtain ⟨d0, d1, d2, d3⟩ := HK.out W9 (Below.refl _ _)
        have hXi : ((ins cmpY (freshY c xs) xs).length : Int) = (xs.length : Int) + 1 := by omega
        have Hl9 := Lib.hid (fun w' (h : Below W9.heap.size W9 w') => len_tab w' b sb mb ms (1 + q) _ ysd (HT9.out.mono h))
        rw [hXi] at Hl9
        have Hh9 := Lib.hid (fun w' (h : Below W9.heap.size W9 w') => (has_tab w' b sb mb ms (1 + q) _ ysd (freshY c xs) (HT9.out.mono h)).mono (R' := fun e w2 => e = .returned (.bool true) ∧ Below w'.heap.size w' w2) (by rintro e w2 ⟨rfl, h⟩; exact ⟨by rw [has_ins_self], h⟩))
        have Hn9 := Lib.hid (fun w' (h : Below W9.heap.size W9 w') => (next_tab w' b sb mb ms (1 + q) _ ysd c (HT9.out.mono h)).mono (R' := fun e w2 => e = .returned (.int .i64 (g + 1 + 1)) ∧ Below w'.heap.size w' w2) (by rintro e w2 ⟨rfl, h⟩; exact ⟨by rw [hcap, if_pos rfl, great_freshY, HGr.out], h⟩))
        have Hr9 := Lib.hid (fun w' (h : Below W9.heap.size W9 w') => has_no w' a3 cap3 xs1 (freshY c xs) (by omega) (HE9.out.mono h) (fun y hy e => by
          have h1 := HS.out y hy
          rw [e, fresh_new] at h1
          cases h1))
        have hF : freshY c xs = ⟨1, ⟨#[c]⟩, g + 1⟩ := by rw [HGr.out]; rfl
        have HNx : Hid (∃ xs ys, TabAt W9 b sb mb ms (1 + q) xs ys ∧ (xs.length : Int) ≤ 1 + q ∧ ∀ y ∈ xs1, has cmpY y xs = true) := Lib.hid ⟨_, ysd, HT9.out, by rw [hXi]; exact HLe.out, fun y hy => by rw [has_ins cmpY_cmp, HS.out y hy, Bool.or_true]⟩
        rw [hF] at Hh9 Hr9
        simp only at Hh9 Hr9
        have hwx : IntKind.i64.wrap ((xs.length : Int) + 1) = (xs.length : Int) + 1 := by rw [IntKind.wrap_i64]; omega
        have hwg : IntKind.i64.wrap (g + 1 + 1) = g + 1 + 1 := by rw [IntKind.wrap_i64]; omega
        have hcur : Hid (Below W9.heap.size W9 W9.drew) := Lib.hid (Below.refl _ _).drew
        have hlt9 : bb < W9.heap.size := Nat.lt_of_lt_of_le hbb hb9.size
        have HW9 := Lib.hid hW9
        clear h8 hg8 hT8 hal hg9 hb9 hx9 hXl hXi hF Hfr hW9
        go_wp2_with fail
        rw [← HW9.out]
        refine wp_region_held_drew (S := fun w' => Below W9.heap.size W9 w' ∧ w'.cell? ⟨w8.heap.size, 0, none⟩ = some (.int .i64 1) ∧ w'.cell? ⟨w8.heap.size, 1, none⟩ = some (.string ⟨#[c]⟩) ∧ w'.cell? ⟨w8.heap.size, 2, none⟩ = some (.int .i64 (g + 1)) ∧ w'.cell? ⟨bb, off + k, none⟩ = some (.int .u8 c.toNat)) (by kernel_rfl) ⟨hcur.out, HK.out _ hcur.out⟩ (fun hHeld => ?_)
        refine wpAnyH_take (i := 0) (oi := { dst := some 61, op := Op.move (Operand.tmp 7), type := 31, pos := "law.go:124", after := #[], guard := none }) (v := ?_) rfl (by kernel_rfl) (by kernel_rfl) (by kernel_rfl) (fun _ _ _ h => h) (Or.inl ⟨by rfl, ?_⟩) (by assumption) ?_
        rotate_left
        focus (intro w hSw; (try dsimp only at hSw); go_simp; try with_reducible rfl)
        simp only [Act.put, List.setIfInBounds_toArray, List.set_cons_zero, List.set_cons_succ]
        refine wpAnyH_take (i := 2) (oi := { dst := some 63, op := Op.move (Operand.tmp 10), type := 3, pos := "law.go:124", after := #[], guard := none }) (v := ?_) rfl (by kernel_rfl) (by kernel_rfl) (by kernel_rfl) (fun _ _ _ h => h) (Or.inl ⟨by rfl, ?_⟩) (by assumption) ?_
        rotate_left
        focus (intro w hSw; (try dsimp only at hSw); go_simp; try with_reducible rfl)
        simp only [Act.put, List.setIfInBounds_toArray, List.set_cons_zero, List.set_cons_succ]
        refine wpAnyH_take (i := 3) (oi := { dst := some 64, op := Op.binOp BinOp.add 3 (Operand.tmp 63) (Operand.const (Value.int IntKind.i64 1)) 3, type := 3, pos := "law.go:124", after := #[{ on := 2, ground := Ground.data }], guard := none }) (v := ?_) rfl (by kernel_rfl) (by kernel_rfl) (by kernel_rfl) (fun _ _ _ h => h) (Or.inl ⟨by rfl, ?_⟩) (by assumption) ?_
        rotate_left
        focus (intro w hSw; (try dsimp only at hSw); go_simp; try with_reducible rfl)
        simp only [Act.put, List.setIfInBounds_toArray, List.set_cons_zero, List.set_cons_succ]
        refine wpAnyH_ready (rs := [1]) (by kernel_rfl) (by simp) ?_
        refine AllReadyH.cons (o := { dst := some 62, op := Op.call { callee := Callee.value (Operand.func 27), args := #[Operand.tmp 61], argTypes := #[31] }, type := 3, pos := "law.go:124", after := #[{ on := 0, ground := Ground.data }], guard := none }) rfl (fun K hK => ?_) AllReadyH.nil
        go_simp
        refine (Hl9.out _ hcur.out).mono ?_
        rintro e wx ⟨rfl, rfl⟩
        refine hK.out _ _ ⟨hcur.out, HK.out _ hcur.out⟩ (fun hHeld => ?_)
        refine wpAnyH_take (i := 4) (oi := { dst := some 65, op := Op.binOp BinOp.neq 3 (Operand.tmp 62) (Operand.tmp 64) 3, type := 4, pos := "law.go:124", after := #[{ on := 1, ground := Ground.data }, { on := 3, ground := Ground.data }], guard := none }) (v := ?_) rfl (by kernel_rfl) (by kernel_rfl) (by kernel_rfl) (fun _ _ _ h => h) (Or.inl ⟨by rfl, ?_⟩) (by assumption) ?_
        rotate_left
        focus (intro w hSw; (try dsimp only at hSw); go_simp; try with_reducible rfl)
        simp only [Act.put, List.setIfInBounds_toArray, List.set_cons_zero, List.set_cons_succ]
        refine wpAnyH_take (i := 5) (oi := { dst := some 66, op := Op.move (Operand.tmp 65), type := 4, pos := "law.go:124", after := #[{ on := 4, ground := Ground.data }, { on := 1, ground := Ground.chain }], guard := none }) (v := ?_) rfl (by kernel_rfl) (by kernel_rfl) (by kernel_rfl) (fun _ _ _ h => h) (Or.inl ⟨by rfl, ?_⟩) (by assumption) ?_
        rotate_left
        focus (intro w hSw; (try dsimp only at hSw); go_simp; try with_reducible rfl)
        simp only [Act.put, List.setIfInBounds_toArray, List.set_cons_zero, List.set_cons_succ]
        refine wpAnyH_take (i := 6) (oi := { dst := some 67, op := Op.move (Operand.tmp 7), type := 31, pos := "law.go:124", after := #[{ on := 5, ground := Ground.guard }], guard := some (5, false) }) (v := ?_) rfl (by kernel_rfl) (by kernel_rfl) (by kernel_rfl) (fun _ _ _ h => h) (Or.inl ⟨by rfl, ?_⟩) (by assumption) ?_
        rotate_left
        focus (intro w hSw; (try dsimp only at hSw); go_simp; try with_reducible rfl)
        simp only [Act.put, List.setIfInBounds_toArray, List.set_cons_zero, List.set_cons_succ]
        refine wpAnyH_take (i := 7) (oi := { dst := some 68, op := Op.load 23 (Operand.tmp 11), type := 23, pos := "law.go:124", after := #[{ on := 5, ground := Ground.guard }], guard := some (5, false) }) (v := ?_) rfl (by kernel_rfl) (by kernel_rfl) (by kernel_rfl) (fun _ _ _ h => h) (Or.inl ⟨by rfl, ?_⟩) (by assumption) ?_
        rotate_left
        focus (intro w hSw; (try dsimp only at hSw); go_simp; try with_reducible rfl)
        simp only [Act.put, List.setIfInBounds_toArray, List.set_cons_zero, List.set_cons_succ]
        refine wpAnyH_ready (rs := [8]) (by kernel_rfl) (by simp) ?_
        refine AllReadyH.cons (o := { dst := some 69, op := Op.call { callee := Callee.value (Operand.func 23), args := #[Operand.tmp 67, Operand.tmp 68], argTypes := #[31, 23] }, type := 4, pos := "law.go:124", after := #[{ on := 6, ground := Ground.data }, { on := 7, ground := Ground.data }, { on := 5, ground := Ground.chain }, { on := 5, ground := Ground.guard }], guard := some (5, false) }) rfl (fun K hK => ?_) AllReadyH.nil
        go_simp
        refine (Hh9.out _ hcur.out).mono ?_
        rintro e wa ⟨rfl, hba⟩
        replace hcur := Lib.hid (hcur.out.trans (hba.mono hcur.out.size))
        clear hba
        refine hK.out _ _ ⟨hcur.out, HK.out _ hcur.out⟩ (fun hHeld => ?_)
        refine wpAnyH_take (i := 9) (oi := { dst := some 70, op := Op.unOp UnOp.not 4 (Operand.tmp 69), type := 4, pos := "law.go:124", after := #[{ on := 8, ground := Ground.data }, { on := 5, ground := Ground.guard }], guard := some (5, false) }) (v := ?_) rfl (by kernel_rfl) (by kernel_rfl) (by kernel_rfl) (fun _ _ _ h => h) (Or.inl ⟨by rfl, ?_⟩) (by assumption) ?_
        rotate_left
        focus (intro w hSw; (try dsimp only at hSw); go_simp; try with_reducible rfl)
        simp only [Act.put, List.setIfInBounds_toArray, List.set_cons_zero, List.set_cons_succ]
        refine wpAnyH_take (i := 10) (oi := { dst := some 71, op := Op.pick (Operand.tmp 66) (Operand.const (Value.bool true)) (Operand.tmp 70), type := 4, pos := "law.go:124", after := #[{ on := 5, ground := Ground.data }, { on := 9, ground := Ground.data }], guard := none }) (v := ?_) rfl (by kernel_rfl) (by kernel_rfl) (by kernel_rfl) (fun _ _ _ h => h) (Or.inl ⟨by rfl, ?_⟩) (by assumption) ?_
        rotate_left
        focus (intro w hSw; (try dsimp only at hSw); go_simp; try with_reducible rfl)
        simp only [Act.put, List.setIfInBounds_toArray, List.set_cons_zero, List.set_cons_succ]
        refine wpAnyH_take (i := 11) (oi := { dst := some 72, op := Op.move (Operand.tmp 71), type := 4, pos := "law.go:124", after := #[{ on := 10, ground := Ground.data }, { on := 8, ground := Ground.chain }], guard := none }) (v := ?_) rfl (by kernel_rfl) (by kernel_rfl) (by kernel_rfl) (fun _ _ _ h => h) (Or.inl ⟨by rfl, ?_⟩) (by assumption) ?_
        rotate_left
        focus (intro w hSw; (try dsimp only at hSw); go_simp; try with_reducible rfl)
        simp only [Act.put, List.setIfInBounds_toArray, List.set_cons_zero, List.set_cons_succ]
        refine wpAnyH_take (i := 12) (oi := { dst := some 73, op := Op.fieldAddr 23 (Operand.tmp 11) 0, type := 0, pos := "law.go:124", after := #[{ on := 11, ground := Ground.guard }], guard := some (11, false) }) (v := ?_) rfl (by kernel_rfl) (by kernel_rfl) (by kernel_rfl) (fun _ _ _ h => h) (Or.inl ⟨by rfl, ?_⟩) (by assumption) ?_
        rotate_left
        focus (intro w hSw; (try dsimp only at hSw); go_simp; try with_reducible rfl)
        simp only [Act.put, List.setIfInBounds_toArray, List.set_cons_zero, List.set_cons_succ]
        refine wpAnyH_take (i := 13) (oi := { dst := some 74, op := Op.load 3 (Operand.tmp 73), type := 3, pos := "law.go:124", after := #[{ on := 12, ground := Ground.data }, { on := 11, ground := Ground.guard }], guard := some (11, false) }) (v := ?_) rfl (by kernel_rfl) (by kernel_rfl) (by kernel_rfl) (fun _ _ _ h => h) (Or.inl ⟨by rfl, ?_⟩) (by assumption) ?_
        rotate_left
        focus (intro w hSw; (try dsimp only at hSw); go_simp; try with_reducible rfl)
        simp only [Act.put, List.setIfInBounds_toArray, List.set_cons_zero, List.set_cons_succ]
        refine wpAnyH_take (i := 14) (oi := { dst := some 75, op := Op.binOp BinOp.neq 3 (Operand.tmp 74) (Operand.const (Value.int IntKind.i64 1)) 3, type := 4, pos := "law.go:124", after := #[{ on := 13, ground := Ground.data }, { on := 11, ground := Ground.guard }], guard := some (11, false) }) (v := ?_) rfl (by kernel_rfl) (by kernel_rfl) (by kernel_rfl) (fun _ _ _ h => h) (Or.inl ⟨by rfl, ?_⟩) (by assumption) ?_
        rotate_left
        focus (intro w hSw; (try dsimp only at hSw); go_simp; try with_reducible rfl)
        simp only [Act.put, List.setIfInBounds_toArray, List.set_cons_zero, List.set_cons_succ]
        refine wpAnyH_take (i := 15) (oi := { dst := some 76, op := Op.pick (Operand.tmp 72) (Operand.const (Value.bool true)) (Operand.tmp 75), type := 4, pos := "law.go:124", after := #[{ on := 11, ground := Ground.data }, { on := 14, ground := Ground.data }], guard := none }) (v := ?_) rfl (by kernel_rfl) (by kernel_rfl) (by kernel_rfl) (fun _ _ _ h => h) (Or.inl ⟨by rfl, ?_⟩) (by assumption) ?_
        rotate_left
        focus (intro w hSw; (try dsimp only at hSw); go_simp; try with_reducible rfl)
        simp only [Act.put, List.setIfInBounds_toArray, List.set_cons_zero, List.set_cons_succ]
        refine wpAnyH_take (i := 16) (oi := { dst := some 77, op := Op.move (Operand.tmp 76), type := 4, pos := "law.go:124", after := #[{ on := 15, ground := Ground.data }, { on := 11, ground := Ground.chain }], guard := none }) (v := ?_) rfl (by kernel_rfl) (by kernel_rfl) (by kernel_rfl) (fun _ _ _ h => h) (Or.inl ⟨by rfl, ?_⟩) (by assumption) ?_
        rotate_left
        focus (intro w hSw; (try dsimp only at hSw); go_simp; try with_reducible rfl)
        simp only [Act.put, List.setIfInBounds_toArray, List.set_cons_zero, List.set_cons_succ]
        refine wpAnyH_take (i := 17) (oi := { dst := some 78, op := Op.fieldAddr 23 (Operand.tmp 11) 1, type := 0, pos := "law.go:124", after := #[{ on := 16, ground := Ground.guard }], guard := some (16, false) }) (v := ?_) rfl (by kernel_rfl) (by kernel_rfl) (by kernel_rfl) (fun _ _ _ h => h) (Or.inl ⟨by rfl, ?_⟩) (by assumption) ?_
        rotate_left
        focus (intro w hSw; (try dsimp only at hSw); go_simp; try with_reducible rfl)
        simp only [Act.put, List.setIfInBounds_toArray, List.set_cons_zero, List.set_cons_succ]
        refine wpAnyH_take (i := 18) (oi := { dst := some 79, op := Op.load 9 (Operand.tmp 78), type := 9, pos := "law.go:124", after := #[{ on := 17, ground := Ground.data }, { on := 16, ground := Ground.guard }], guard := some (16, false) }) (v := ?_) rfl (by kernel_rfl) (by kernel_rfl) (by kernel_rfl) (fun _ _ _ h => h) (Or.inl ⟨by rfl, ?_⟩) (by assumption) ?_
        rotate_left
        focus (intro w hSw; (try dsimp only at hSw); go_simp; try with_reducible rfl)
        simp only [Act.put, List.setIfInBounds_toArray, List.set_cons_zero, List.set_cons_succ]
        refine wpAnyH_take (i := 19) (oi := { dst := some 80, op := Op.move (Operand.tmp 1), type := 55, pos := "law.go:124", after := #[{ on := 16, ground := Ground.guard }], guard := some (16, false) }) (v := ?_) rfl (by kernel_rfl) (by kernel_rfl) (by kernel_rfl) (fun _ _ _ h => h) (Or.inl ⟨by rfl, ?_⟩) (by assumption) ?_
        rotate_left
        focus (intro w hSw; (try dsimp only at hSw); go_simp; try with_reducible rfl)
        simp only [Act.put, List.setIfInBounds_toArray, List.set_cons_zero, List.set_cons_succ]
        refine wpAnyH_take (i := 20) (oi := { dst := some 81, op := Op.move (Operand.tmp 9), type := 3, pos := "law.go:124", after := #[{ on := 16, ground := Ground.guard }], guard := some (16, false) }) (v := ?_) rfl (by kernel_rfl) (by kernel_rfl) (by kernel_rfl) (fun _ _ _ h => h) (Or.inl ⟨by rfl, ?_⟩) (by assumption) ?_
        rotate_left
        focus (intro w hSw; (try dsimp only at hSw); go_simp; try with_reducible rfl)
        simp only [Act.put, List.setIfInBounds_toArray, List.set_cons_zero, List.set_cons_succ]
        refine wpAnyH_take (i := 21) (oi := { dst := some 82, op := Op.indexAddr 55 (Operand.tmp 80) (Operand.tmp 81), type := 0, pos := "law.go:124", after := #[{ on := 19, ground := Ground.data }, { on := 20, ground := Ground.data }, { on := 16, ground := Ground.guard }], guard := some (16, false) }) (v := ?_) rfl (by kernel_rfl) (by kernel_rfl) (by kernel_rfl) (fun _ _ _ h => h) (Or.inl ⟨by rfl, ?_⟩) (by assumption) ?_
        rotate_left
        focus (intro w hSw; (try dsimp only at hSw); go_simp; try with_reducible rfl)
        simp only [Act.put, List.setIfInBounds_toArray, List.set_cons_zero, List.set_cons_succ]
        refine wpAnyH_take (i := 22) (oi := { dst := some 83, op := Op.load 5 (Operand.tmp 82), type := 5, pos := "law.go:124", after := #[{ on := 21, ground := Ground.data }, { on := 16, ground := Ground.guard }], guard := some (16, false) }) (v := ?_) rfl (by kernel_rfl) (by kernel_rfl) (by kernel_rfl) (fun _ _ _ h => h) (Or.inl ⟨by rfl, ?_⟩) (by assumption) ?_
        rotate_left
        focus (intro w hSw; (try dsimp only at hSw); go_simp; try with_reducible rfl)
        simp only [Act.put, List.setIfInBounds_toArray, List.set_cons_zero, List.set_cons_succ]
        refine wpAnyH_ready (rs := [23]) (by kernel_rfl) (by simp) ?_
        refine AllReadyH.cons (o := { dst := some 84, op := Op.buildSlice 55 1 #[(0, Operand.tmp 83)], type := 55, pos := "law.go:124", after := #[{ on := 22, ground := Ground.data }, { on := 16, ground := Ground.guard }], guard := some (16, false) }) rfl (fun K hK => ?_) AllReadyH.nil
        go_simp
        refine hK.out _ _ ⟨hcur.out.alloc hcur.out.size _, HK.out _ (hcur.out.alloc hcur.out.size _)⟩ (fun hHeld => ?_)
        obtain ⟨WB, hWB⟩ : ∃ WB, WB = wa.alloc (.cells #[.int .u8 c.toNat] 5) := ⟨_, rfl⟩
        have HCB : Hid (Below W9.heap.size W9 WB) := Lib.hid (by rw [hWB]; exact hcur.out.alloc hcur.out.size _)
        have hxB : WB.heap[wa.heap.size]? = some (.cells #[.int .u8 c.toNat] 5 (0, 0)) := by rw [hWB]; exact new_at rfl
        have HK2 : Hid (∀ w', Below WB.heap.size WB w' → ((Below W9.heap.size W9 w' ∧ w'.cell? ⟨w8.heap.size, 0, none⟩ = some (.int .i64 1) ∧ w'.cell? ⟨w8.heap.size, 1, none⟩ = some (.string ⟨#[c]⟩) ∧ w'.cell? ⟨w8.heap.size, 2, none⟩ = some (.int .i64 (g + 1)) ∧ w'.cell? ⟨bb, off + k, none⟩ = some (.int .u8 c.toNat)) ∧ Sem.run Tryz.prog (convert 55 9 (.slice (some ⟨wa.heap.size, 0, none⟩) 1 1)) w' = .ok (.string ⟨#[c]⟩) w')) := Lib.hid (fun w' h => ⟨⟨HCB.out.trans (h.mono HCB.out.size), HK.out _ (HCB.out.trans (h.mono HCB.out.size))⟩, conv_cell w' _ c (by rw [cells_of ((h.block _ (heap_lt hxB)).trans hxB)]; rfl)⟩)
        rw [← hWB]
        have hcb : Hid (Below WB.heap.size WB WB) := Lib.hid (Below.refl _ _)
        have HCW := Lib.hid hWB
        clear hxB hWB
        refine wpAnyH_more (S' := fun w' => (Below W9.heap.size W9 w' ∧ w'.cell? ⟨w8.heap.size, 0, none⟩ = some (.int .i64 1) ∧ w'.cell? ⟨w8.heap.size, 1, none⟩ = some (.string ⟨#[c]⟩) ∧ w'.cell? ⟨w8.heap.size, 2, none⟩ = some (.int .i64 (g + 1)) ∧ w'.cell? ⟨bb, off + k, none⟩ = some (.int .u8 c.toNat)) ∧ Sem.run Tryz.prog (convert 55 9 (.slice (some ⟨wa.heap.size, 0, none⟩) 1 1)) w' = .ok (.string ⟨#[c]⟩) w') (fun w h => h.1) _ _ _ _ ?_
        replace hHeld := HK2.out WB (Below.refl _ _)
        refine wpAnyH_take (i := 24) (oi := { dst := some 85, op := Op.convert 55 9 (Operand.tmp 84), type := 9, pos := "law.go:124", after := #[{ on := 23, ground := Ground.data }, { on := 16, ground := Ground.guard }], guard := some (16, false) }) (v := ?_) rfl (by kernel_rfl) (by kernel_rfl) (by kernel_rfl) (fun _ _ _ h => h) (Or.inl ⟨by rfl, ?_⟩) (by assumption) ?_
        rotate_left
        focus (intro w hSw; (try dsimp only at hSw); go_simp; try with_reducible rfl)
        simp only [Act.put, List.setIfInBounds_toArray, List.set_cons_zero, List.set_cons_succ]
        refine wpAnyH_take (i := 25) (oi := { dst := some 86, op := Op.binOp BinOp.neq 9 (Operand.tmp 79) (Operand.tmp 85) 9, type := 4, pos := "law.go:124", after := #[{ on := 18, ground := Ground.data }, { on := 24, ground := Ground.data }, { on := 16, ground := Ground.guard }], guard := some (16, false) }) (v := ?_) rfl (by kernel_rfl) (by kernel_rfl) (by kernel_rfl) (fun _ _ _ h => h) (Or.inl ⟨by rfl, ?_⟩) (by assumption) ?_
        rotate_left
        focus (intro w hSw; (try dsimp only at hSw); go_simp; try with_reducible rfl)
        simp only [Act.put, List.setIfInBounds_toArray, List.set_cons_zero, List.set_cons_succ]
        refine wpAnyH_take (i := 26) (oi := { dst := some 87, op := Op.pick (Operand.tmp 77) (Operand.const (Value.bool true)) (Operand.tmp 86), type := 4, pos := "law.go:124", after := #[{ on := 16, ground := Ground.data }, { on := 25, ground := Ground.data }], guard := none }) (v := ?_) rfl (by kernel_rfl) (by kernel_rfl) (by kernel_rfl) (fun _ _ _ h => h) (Or.inl ⟨by rfl, ?_⟩) (by assumption) ?_
        rotate_left
        focus (intro w hSw; (try dsimp only at hSw); go_simp; try with_reducible rfl)
        simp only [Act.put, List.setIfInBounds_toArray, List.set_cons_zero, List.set_cons_succ]
        refine wpAnyH_take (i := 27) (oi := { dst := some 88, op := Op.move (Operand.tmp 87), type := 4, pos := "law.go:124", after := #[{ on := 26, ground := Ground.data }, { on := 16, ground := Ground.chain }], guard := none }) (v := ?_) rfl (by kernel_rfl) (by kernel_rfl) (by kernel_rfl) (fun _ _ _ h => h) (Or.inl ⟨by rfl, ?_⟩) (by assumption) ?_
        rotate_left
        focus (intro w hSw; (try dsimp only at hSw); go_simp; try with_reducible rfl)
        simp only [Act.put, List.setIfInBounds_toArray, List.set_cons_zero, List.set_cons_succ]
        refine wpAnyH_take (i := 28) (oi := { dst := some 89, op := Op.move (Operand.tmp 2), type := 36, pos := "law.go:124", after := #[{ on := 27, ground := Ground.guard }], guard := some (27, false) }) (v := ?_) rfl (by kernel_rfl) (by kernel_rfl) (by kernel_rfl) (fun _ _ _ h => h) (Or.inl ⟨by rfl, ?_⟩) (by assumption) ?_
        rotate_left
        focus (intro w hSw; (try dsimp only at hSw); go_simp; try with_reducible rfl)
        simp only [Act.put, List.setIfInBounds_toArray, List.set_cons_zero, List.set_cons_succ]
        refine wpAnyH_take (i := 29) (oi := { dst := some 90, op := Op.load 23 (Operand.tmp 11), type := 23, pos := "law.go:124", after := #[{ on := 27, ground := Ground.guard }], guard := some (27, false) }) (v := ?_) rfl (by kernel_rfl) (by kernel_rfl) (by kernel_rfl) (fun _ _ _ h => h) (Or.inl ⟨by rfl, ?_⟩) (by assumption) ?_
        rotate_left
        focus (intro w hSw; (try dsimp only at hSw); go_simp; try with_reducible rfl)
        simp only [Act.put, List.setIfInBounds_toArray, List.set_cons_zero, List.set_cons_succ]
        refine wpAnyH_ready (rs := [30]) (by kernel_rfl) (by simp) ?_
        refine AllReadyH.cons (o := { dst := some 91, op := Op.call { callee := Callee.value (Operand.func 24), args := #[Operand.tmp 89, Operand.tmp 90], argTypes := #[36, 23] }, type := 4, pos := "law.go:124", after := #[{ on := 28, ground := Ground.data }, { on := 29, ground := Ground.data }, { on := 27, ground := Ground.chain }, { on := 27, ground := Ground.guard }], guard := some (27, false) }) rfl (fun K hK => ?_) AllReadyH.nil
        go_simp
        refine (Hr9.out _ (HCB.out.trans (hcb.out.mono HCB.out.size))).mono ?_
        rintro e wb ⟨rfl, hbb'⟩
        replace hcb := Lib.hid (hcb.out.trans (hbb'.mono hcb.out.size))
        clear hbb'
        refine hK.out _ _ (HK2.out _ hcb.out) (fun hHeld => ?_)
        refine wpAnyH_take (i := 31) (oi := { dst := some 92, op := Op.pick (Operand.tmp 88) (Operand.const (Value.bool true)) (Operand.tmp 91), type := 4, pos := "law.go:124", after := #[{ on := 27, ground := Ground.data }, { on := 30, ground := Ground.data }], guard := none }) (v := ?_) rfl (by kernel_rfl) (by kernel_rfl) (by kernel_rfl) (fun _ _ _ h => h) (Or.inl ⟨by rfl, ?_⟩) (by assumption) ?_
        rotate_left
        focus (intro w hSw; (try dsimp only at hSw); go_simp; try with_reducible rfl)
        simp only [Act.put, List.setIfInBounds_toArray, List.set_cons_zero, List.set_cons_succ]
        refine wpAnyH_take (i := 32) (oi := { dst := some 93, op := Op.move (Operand.tmp 92), type := 4, pos := "law.go:124", after := #[{ on := 31, ground := Ground.data }, { on := 30, ground := Ground.chain }], guard := none }) (v := ?_) rfl (by kernel_rfl) (by kernel_rfl) (by kernel_rfl) (fun _ _ _ h => h) (Or.inl ⟨by rfl, ?_⟩) (by assumption) ?_
        rotate_left
        focus (intro w hSw; (try dsimp only at hSw); go_simp; try with_reducible rfl)
        simp only [Act.put, List.setIfInBounds_toArray, List.set_cons_zero, List.set_cons_succ]
        refine wpAnyH_take (i := 33) (oi := { dst := some 94, op := Op.move (Operand.tmp 7), type := 31, pos := "law.go:124", after := #[{ on := 32, ground := Ground.guard }], guard := some (32, false) }) (v := ?_) rfl (by kernel_rfl) (by kernel_rfl) (by kernel_rfl) (fun _ _ _ h => h) (Or.inl ⟨by rfl, ?_⟩) (by assumption) ?_
        rotate_left
        focus (intro w hSw; (try dsimp only at hSw); go_simp; try with_reducible rfl)
        simp only [Act.put, List.setIfInBounds_toArray, List.set_cons_zero, List.set_cons_succ]
        refine wpAnyH_take (i := 34) (oi := { dst := some 95, op := Op.move (Operand.tmp 1), type := 55, pos := "law.go:124", after := #[{ on := 32, ground := Ground.guard }], guard := some (32, false) }) (v := ?_) rfl (by kernel_rfl) (by kernel_rfl) (by kernel_rfl) (fun _ _ _ h => h) (Or.inl ⟨by rfl, ?_⟩) (by assumption) ?_
        rotate_left
        focus (intro w hSw; (try dsimp only at hSw); go_simp; try with_reducible rfl)
        simp only [Act.put, List.setIfInBounds_toArray, List.set_cons_zero, List.set_cons_succ]
        refine wpAnyH_take (i := 35) (oi := { dst := some 96, op := Op.move (Operand.tmp 9), type := 3, pos := "law.go:124", after := #[{ on := 32, ground := Ground.guard }], guard := some (32, false) }) (v := ?_) rfl (by kernel_rfl) (by kernel_rfl) (by kernel_rfl) (fun _ _ _ h => h) (Or.inl ⟨by rfl, ?_⟩) (by assumption) ?_
        rotate_left
        focus (intro w hSw; (try dsimp only at hSw); go_simp; try with_reducible rfl)
        simp only [Act.put, List.setIfInBounds_toArray, List.set_cons_zero, List.set_cons_succ]
        refine wpAnyH_take (i := 36) (oi := { dst := some 97, op := Op.indexAddr 55 (Operand.tmp 95) (Operand.tmp 96), type := 0, pos := "law.go:124", after := #[{ on := 34, ground := Ground.data }, { on := 35, ground := Ground.data }, { on := 32, ground := Ground.guard }], guard := some (32, false) }) (v := ?_) rfl (by kernel_rfl) (by kernel_rfl) (by kernel_rfl) (fun _ _ _ h => h) (Or.inl ⟨by rfl, ?_⟩) (by assumption) ?_
        rotate_left
        focus (intro w hSw; (try dsimp only at hSw); go_simp; try with_reducible rfl)
        simp only [Act.put, List.setIfInBounds_toArray, List.set_cons_zero, List.set_cons_succ]
        refine wpAnyH_take (i := 37) (oi := { dst := some 98, op := Op.load 5 (Operand.tmp 97), type := 5, pos := "law.go:124", after := #[{ on := 36, ground := Ground.data }, { on := 32, ground := Ground.guard }], guard := some (32, false) }) (v := ?_) rfl (by kernel_rfl) (by kernel_rfl) (by kernel_rfl) (fun _ _ _ h => h) (Or.inl ⟨by rfl, ?_⟩) (by assumption) ?_
        rotate_left
        focus (intro w hSw; (try dsimp only at hSw); go_simp; try with_reducible rfl)
        simp only [Act.put, List.setIfInBounds_toArray, List.set_cons_zero, List.set_cons_succ]
        refine wpAnyH_take (i := 39) (oi := { dst := some 100, op := Op.fieldAddr 23 (Operand.tmp 11) 2, type := 0, pos := "law.go:124", after := #[{ on := 32, ground := Ground.guard }], guard := some (32, false) }) (v := ?_) rfl (by kernel_rfl) (by kernel_rfl) (by kernel_rfl) (fun _ _ _ h => h) (Or.inl ⟨by rfl, ?_⟩) (by assumption) ?_
        rotate_left
        focus (intro w hSw; (try dsimp only at hSw); go_simp; try with_reducible rfl)
        simp only [Act.put, List.setIfInBounds_toArray, List.set_cons_zero, List.set_cons_succ]
        refine wpAnyH_take (i := 40) (oi := { dst := some 101, op := Op.load 3 (Operand.tmp 100), type := 3, pos := "law.go:124", after := #[{ on := 39, ground := Ground.data }, { on := 32, ground := Ground.guard }], guard := some (32, false) }) (v := ?_) rfl (by kernel_rfl) (by kernel_rfl) (by kernel_rfl) (fun _ _ _ h => h) (Or.inl ⟨by rfl, ?_⟩) (by assumption) ?_
        rotate_left
        focus (intro w hSw; (try dsimp only at hSw); go_simp; try with_reducible rfl)
        simp only [Act.put, List.setIfInBounds_toArray, List.set_cons_zero, List.set_cons_succ]
        refine wpAnyH_take (i := 41) (oi := { dst := some 102, op := Op.binOp BinOp.add 3 (Operand.tmp 101) (Operand.const (Value.int IntKind.i64 1)) 3, type := 3, pos := "law.go:124", after := #[{ on := 40, ground := Ground.data }, { on := 32, ground := Ground.guard }], guard := some (32, false) }) (v := ?_) rfl (by kernel_rfl) (by kernel_rfl) (by kernel_rfl) (fun _ _ _ h => h) (Or.inl ⟨by rfl, ?_⟩) (by assumption) ?_
        rotate_left
        focus (intro w hSw; (try dsimp only at hSw); go_simp; try with_reducible rfl)
        simp only [Act.put, List.setIfInBounds_toArray, List.set_cons_zero, List.set_cons_succ]
        refine wpAnyH_ready (rs := [38]) (by kernel_rfl) (by simp) ?_
        refine AllReadyH.cons (o := { dst := some 99, op := Op.call { callee := Callee.value (Operand.func 25), args := #[Operand.tmp 94, Operand.tmp 98], argTypes := #[31, 5] }, type := 3, pos := "law.go:124", after := #[{ on := 33, ground := Ground.data }, { on := 37, ground := Ground.data }, { on := 32, ground := Ground.chain }, { on := 32, ground := Ground.guard }], guard := some (32, false) }) rfl (fun K hK => ?_) AllReadyH.nil
        go_simp
        refine (Hn9.out _ (HCB.out.trans (hcb.out.mono HCB.out.size))).mono ?_
        rintro e wc ⟨rfl, hbc⟩
        replace hcb := Lib.hid (hcb.out.trans (hbc.mono hcb.out.size))
        clear hbc
        refine hK.out _ _ (HK2.out _ hcb.out) (fun hHeld => ?_)
        refine wpAnyH_take (i := 42) (oi := { dst := some 103, op := Op.binOp BinOp.neq 3 (Operand.tmp 99) (Operand.tmp 102) 3, type := 4, pos := "law.go:124", after := #[{ on := 38, ground := Ground.data }, { on := 41, ground := Ground.data }, { on := 32, ground := Ground.guard }], guard := some (32, false) }) (v := ?_) rfl (by kernel_rfl) (by kernel_rfl) (by kernel_rfl) (fun _ _ _ h => h) (Or.inl ⟨by rfl, ?_⟩) (by assumption) ?_
        rotate_left
        focus (intro w hSw; (try dsimp only at hSw); go_simp; try with_reducible rfl)
        simp only [Act.put, List.setIfInBounds_toArray, List.set_cons_zero, List.set_cons_succ]
        refine wpAnyH_take (i := 43) (oi := { dst := some 104, op := Op.pick (Operand.tmp 93) (Operand.const (Value.bool true)) (Operand.tmp 103), type := 4, pos := "law.go:124", after := #[{ on := 32, ground := Ground.data }, { on := 42, ground := Ground.data }], guard := none }) (v := ?_) rfl (by kernel_rfl) (by kernel_rfl) (by kernel_rfl) (fun _ _ _ h => h) (Or.inl ⟨by rfl, ?_⟩) (by assumption) ?_
        rotate_left
        focus (intro w hSw; (try dsimp only at hSw); go_simp; try with_reducible rfl)
        simp only [Act.put, List.setIfInBounds_toArray, List.set_cons_zero, List.set_cons_succ]
        refine wpAnyH_done (by kernel_rfl) ?_ _
        have HTN := Lib.hid (HG9.out.trans (Touch.ofBelow (HCB.out.trans (hcb.out.mono HCB.out.size))))
        have HNN : Hid (∃ xs ys, TabAt _ b sb mb ms (1 + q) xs ys ∧ (xs.length : Int) ≤ 1 + q ∧ ∀ y ∈ xs1, has cmpY y xs = true) := Lib.hid (by
          obtain ⟨xs, ys, h1, h2⟩ := HNx.out
          exact ⟨xs, ys, h1.mono (HCB.out.trans (hcb.out.mono HCB.out.size)), h2⟩)
        clear hHeld
        go_wp2_with fail
        go_roundw
        case rel => exact ⟨k + 1, by omega, by go_num, HTN.out, HNN⟩
        case measure => simp [intOf]; omega
      · obtain ⟨er, her⟩ : ∃ er, er = fresherr c (1 + q) xs := ⟨_, rfl⟩
        have hfr := fresh_bad wr b sb mb ms (1 + q) xs ys c HT.out he
        rw [← her] at hfr he
        have Hfr := Lib.hid hfr
        have hcase : er = 1 ∨ (er = 20 ∧ ((xs.length : Int) < 1 + q → capB c = true ∧ 1048576 < great c xs + 1)) := by
          rw [her]
          unfold fresherr
          split
          · exact .inl rfl
          · rename_i hc
            have hc' : capB c = true := by simpa using hc
            split
            · rename_i h3
              exact .inr ⟨rfl, fun h4 => ⟨hc', by omega⟩⟩
            · rename_i h3
              exact absurd (by rw [her]; unfold fresherr; rw [if_neg hc, if_neg h3]) he
        have Hcase := Lib.hid hcase
        have hne : (er == 0) = false := by simpa using he
        clear hfr hcase her he
        go_wp2_with fail
        refine Hlen.out.mono ?_
        rintro e w' ⟨rfl, rfl⟩
        go_wp2_with fail
        refine Hfr.out.mono ?_
        rintro e w8 ⟨rfl, h8⟩
        have hal : Below w8.heap.size w8 (w8.alloc (.cells #[.int .i64 0, .string ⟨#[]⟩, .int .i64 0] 23)) := (Below.refl _ _).alloc (Nat.le_refl _) _
        obtain ⟨W9, hW9⟩ : ∃ W9, W9 = w8.alloc (.cells #[.int .i64 0, .string ⟨#[]⟩, .int .i64 0] 23) := ⟨_, rfl⟩
        rw [← hW9] at hal
        have hx9 : W9.heap[w8.heap.size]? = some (.cells #[.int .i64 0, .string ⟨#[]⟩, .int .i64 0] 23 (0, 0)) := by rw [hW9]; exact new_at rfl
        have hb89 := h8.trans (hal.mono h8.size)
        have HB89 := Lib.hid hb89
        have HT9 := Lib.hid (HT.out.mono hb89)
        have d3 := HC.out W9 (HBR.out.trans (hb89.mono HBR.out.size))
        have Hl9 := Lib.hid (len_tab W9 b sb mb ms (1 + q) xs ys HT9.out)
        have HNx : ∀ W', Below wr.heap.size wr W' → Touch (TabTouch sb ms) w4 W' ∧ Hid (∃ xs ys, TabAt W' b sb mb ms (1 + q) xs ys ∧ (xs.length : Int) ≤ 1 + q ∧ ∀ y ∈ xs1, has cmpY y xs = true) := fun W' h => ⟨HG.out.trans (Touch.ofBelow h), ⟨xs, ys, HT.out.mono h, hroom, HS.out⟩⟩
        have HNX := Lib.hid HNx
        have x0 : W9.cell? ⟨w8.heap.size, 0, none⟩ = some (.int .i64 0) := by rw [cells_of hx9]; rfl
        have x1 : W9.cell? ⟨w8.heap.size, 1, none⟩ = some (.string ⟨#[]⟩) := by rw [cells_of hx9]; rfl
        have x2 : W9.cell? ⟨w8.heap.size, 2, none⟩ = some (.int .i64 0) := by rw [cells_of hx9]; rfl
        have HW9 := Lib.hid hW9
        have hlt9 : bb < W9.heap.size := Nat.lt_of_lt_of_le hltr hb89.size
        clear h8 hal hx9 hb89 HNx hW9 Hfr
        rcases Hcase.out with h1 | ⟨h20, hq20⟩
        · have e20 : (er == 20) = false := by simp [h1]
          clear h1 Hcase
          go_wp2_with fail
          rw [← HW9.out]
          go_wp2_with (go_at_call 27; refine Hl9.out.mono ?_; rintro e wx ⟨rfl, rfl⟩)
          go_roundw
          case rel => exact ⟨k + 1, by omega, by go_num, HNX.out _ HB89.out⟩
          case measure => simp [intOf]; omega
        · have e20 : (er == 20) = true := by simp [h20]
          by_cases hlr : (xs.length : Int) < 1 + q
          · have hdr : decide ((xs.length : Int) < 1 + q) = true := by simp [hlr]
            obtain ⟨hcap, hbig⟩ := hq20 hlr
            obtain ⟨g, hgr⟩ : ∃ g, g = great c xs := ⟨_, rfl⟩
            have hn9 := next_tab W9 b sb mb ms (1 + q) xs ys c HT9.out
            rw [hcap, if_pos rfl, ← hgr] at hn9
            have Hn9 := Lib.hid hn9
            rw [← hgr] at hbig hgb
            have hd : decide (g + 1 ≤ 1048576) = false := by simp; omega
            clear hn9 hgr h20 hq20 Hcase
            go_wp2_with fail
            rw [← HW9.out]
            go_wp2_with (first | (go_at_call 27; refine Hl9.out.mono ?_; rintro e wx ⟨rfl, rfl⟩) | (go_at_call 25; refine Hn9.out.mono ?_; rintro e wn ⟨rfl, hbn⟩))
            go_roundw
            case rel => exact ⟨k + 1, by omega, by go_num, HNX.out _ (HB89.out.trans (hbn.mono HB89.out.size))⟩
            case measure => simp [intOf]; omega
          · have hdr : decide ((xs.length : Int) < 1 + q) = false := by simp; omega
            clear h20 hq20 Hcase
            go_wp2_with fail
            rw [← HW9.out]
            go_wp2_with (go_at_call 27; refine Hl9.out.mono ?_; rintro e wx ⟨rfl, rfl⟩)
            go_roundw
            case rel => exact ⟨k + 1, by omega, by go_num, HNX.out _ HB89.out⟩
            case measure => simp [intOf]; omega
    · obtain rfl : k = ls.length := by omega
      have hdr : decide ((xs.length : Int) ≤ 1 + q) = true := by simp [hroom]
      go_wp2_with (first | (go_at_call 27; refine Hlen.out.mono ?_; rintro e wx ⟨rfl, rfl⟩) | (go_at_call 8; refine (swakes_any _).mono ?_; rintro e wz ⟨rfl, hbz⟩))
      go_ret
      exact ⟨rfl, HBR.out.trans (hbz.mono HBR.out.size)⟩
end Go.Proofs.YtlledodigmkdjaaGreatDoor
