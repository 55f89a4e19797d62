/-
  Walks over package sym: Valid of any symbol; unknown. No condition but a bound on the list's length.
-/
import Derived.Test.YtlledodigmkdjaaGreatDoorSymHas
import Derived.Test.YtlledodigmkdjaaGreatDoorArgS
namespace Go.Proofs.YtlledodigmkdjaaGreatDoor
set_option linter.unusedVariables false
open Go.RowKit
theorem word_long (t : ByteArray) (w : World) (h : 32 < t.size) : Calls Tryz.prog 15 #[.string t] w fun e w' => e = .returned (.bool false) ∧ Below w.heap.size w w' := by
  have hl := bytes_cons t (by omega)
  have hne : ¬ t.toList = [] := by rw [Lib.toList_data, hl]; simp
  have he2 : t.toList.isEmpty = false := by rw [Lib.toList_data, hl]; rfl
  clear hl
  go_enter Tryz.func15, Tryz.ntmps15
  go_wp2_with fail
  go_ret
  exact ⟨rfl, Below.refl _ _⟩
theorem wordB_long (t : ByteArray) (h : 32 < t.size) : wordB t.data.toList = false := by
  have hlen : (t.data.toList.drop 1).length + 1 = t.size := by simp; omega
  rw [bytes_cons t (by omega), wordB_cons, hlen]
  simp; omega
theorem valid_long (s : Sy) (h : 32 < s.t.size) : validY s = false := by
  unfold validY validL
  have h0 : ¬ s.t.size = 0 := by omega
  rw [caps_not _ (by omega), empty_size, wordB_long _ h]
  simp [h0]
theorem valid_size {s : Sy} (h : validY s = true) : s.t.size ≤ 32 := by
  apply Decidable.byContradiction
  intro hn
  rw [valid_long s (by omega)] at h
  cases h
set_option maxHeartbeats 1000000 in
theorem valid_all (s : Sy) (w : World) : Calls Tryz.prog 9 #[.agg #[.int .i64 s.k, .string s.t, .int .i64 s.n]] w fun e w' => e = .returned (.bool (validY s)) ∧ Below w.heap.size w w' := by
  by_cases hs : s.t.size ≤ 1000000
  · exact valid_any s w hs
  · have hB : Below w.heap.size w (w.alloc (.cells #[.int .i64 s.k, .string s.t, .int .i64 s.n] 23)) := by go_grown
    rw [valid_long s (by omega)]
    have e1 : ((s.t.size : Int) == 1) = false := by simp; omega
    have he : ¬ s.t.toList = [] := by rw [Lib.toList_data, bytes_cons _ (by omega)]; simp
    have he2 : s.t.toList.isEmpty = false := by rw [Lib.toList_data, bytes_cons _ (by omega)]; rfl
    have hw := fun w' => word_long s.t w' (by omega)
    have Hw := Lib.hid hw
    clear hw hs
    by_cases k1 : s.k = 1
    · have b1 : (s.k == 1) = true := by simp [k1]
      clear k1
      go_enter Tryz.func9, Tryz.ntmps9
      go_wp2_with fail
      all_goals
        go_ret
        exact ⟨rfl, hB⟩
    · have b1 : (s.k == 1) = false := by simp [k1]
      by_cases k2 : s.k = 2
      · have b2 : (s.k == 2) = true := by simp [k2]
        clear k1 k2
        go_enter Tryz.func9, Tryz.ntmps9
        go_wp2_with fail
        all_goals
          go_ret
          exact ⟨rfl, hB⟩
      · have b2 : (s.k == 2) = false := by simp [k2]
        by_cases k3 : s.k = 3
        · have b3 : (s.k == 3) = true := by simp [k3]
          clear k1 k2 k3
          by_cases hn : s.n = 0
          · have bn : (s.n == 0) = true := by simp [hn]
            clear hn
            go_enter Tryz.func9, Tryz.ntmps9
            go_wp2_with (go_at_call 15; refine (Hw.out _).mono ?_; rintro e w' ⟨rfl, hb⟩)
            all_goals
              go_ret
              exact ⟨rfl, hB.trans (hb.mono hB.size)⟩
          · have bn : (s.n == 0) = false := by simp [hn]
            clear hn
            go_enter Tryz.func9, Tryz.ntmps9
            go_wp2_with fail
            all_goals
              go_ret
              exact ⟨rfl, hB⟩
        · have b3 : (s.k == 3) = false := by simp [k3]
          clear k1 k2 k3
          go_enter Tryz.func9, Tryz.ntmps9
          go_wp2_with fail
          all_goals
            go_ret
            exact ⟨rfl, hB⟩
/-- The cells of a slice's elements, wherever it lies. -/
def Elts (w : World) (a : Option Addr) (l : List Sy) : Prop := ∀ k (h : k < l.length), ∃ b off, a = some ⟨b, off, none⟩ ∧ b < w.heap.size ∧ ∀ j c, (encS l[k])[j]? = some c → w.cell? ⟨b, off + k * 3 + j, none⟩ = some c
theorem Elts.at {w : World} {a : Option Addr} {l : List Sy} (h : Elts w a l) {k : Nat} (hk : k < l.length) : ∃ b off, a = some ⟨b, off, none⟩ ∧ ∀ w', Below w.heap.size w w' → w'.cell? ⟨b, off + k * 3, none⟩ = some (.int .i64 l[k].k) ∧ w'.cell? ⟨b, off + k * 3 + 1, none⟩ = some (.string l[k].t) ∧ w'.cell? ⟨b, off + k * 3 + 2, none⟩ = some (.int .i64 l[k].n) := by
  obtain ⟨b, off, h1, h2, h3⟩ := h k hk
  exact ⟨b, off, h1, fun w' hb => ⟨(hb.cell (p := ⟨b, off + k * 3, none⟩) h2).trans (h3 0 _ rfl), (hb.cell (p := ⟨b, off + k * 3 + 1, none⟩) h2).trans (h3 1 _ rfl), (hb.cell (p := ⟨b, off + k * 3 + 2, none⟩) h2).trans (h3 2 _ rfl)⟩⟩
theorem Elts.mono {w w' : World} {a : Option Addr} {l : List Sy} (h : Elts w a l) (hb : Below w.heap.size w w') : Elts w' a l := fun k hk => by
  obtain ⟨b, off, h1, h2, h3⟩ := h k hk
  exact ⟨b, off, h1, Nat.lt_of_lt_of_le h2 hb.size, fun j c hc => (hb.cell (p := ⟨b, off + k * 3 + j, none⟩) h2).trans (h3 j c hc)⟩
theorem elts_of_arg {w : World} {v : Value} {l : List Sy} (h : ArgAt w v l) : ∃ a cap, v = .slice a l.length cap ∧ Elts w a l := by
  rcases h with ⟨a, cap, rfl, rfl⟩ | h
  · exact ⟨a, cap, rfl, fun k hk => absurd hk (by simp)⟩
  · rcases h with ⟨rfl, rfl⟩ | ⟨b, off, cap, rfl, h2, -, h4⟩
    · exact ⟨none, 0, rfl, fun k hk => absurd hk (by simp)⟩
    · exact ⟨_, cap, rfl, fun k hk => ⟨b, off, rfl, h2, h4 k hk⟩⟩
/-- What a list has beside the known ones, each once, in order. -/
def newStep (xs : List Sy) (acc : List Sy) (x : Sy) : List Sy := if has cmpY x xs = true then acc else ins cmpY x acc
def newMs (xs l : List Sy) : List Sy := l.foldl (newStep xs) []
theorem newMs_succ (xs l : List Sy) {k : Nat} (h : k < l.length) : newMs xs (l.take (k + 1)) = newStep xs (newMs xs (l.take k)) l[k] := by
  unfold newMs
  rw [List.take_succ_eq_append_getElem h, List.foldl_append]; rfl
theorem newMs_len (xs : List Sy) : ∀ (l acc : List Sy), (l.foldl (newStep xs) acc).length ≤ acc.length + l.length
  | [], _ => Nat.le_refl _
  | x :: l, acc => by
    have h1 := newMs_len xs l (newStep xs acc x)
    have h2 : (newStep xs acc x).length ≤ acc.length + 1 := by
      unfold newStep
      split
      · omega
      · exact ins_length x acc
    simp only [List.foldl_cons, List.length_cons]
    omega
def UnkOut (w : World) (ms : List Sy) (e : Ending) (w' : World) : Prop := ∃ m, e = .returned (.pointer (some ⟨m, 0, none⟩)) ∧ w.heap.size ≤ m ∧ Below w.heap.size w w' ∧ SetS w' m ms
set_option maxHeartbeats 1000000 in
theorem unk_tab (w : World) (b sb mb ms : Nat) (room : Int) (xs : List Sy) (ys : List Pc) (a : Option Addr) (cap : Nat) (l : List Sy) (h : TabAt w b sb mb ms room xs ys) (he : Elts w a l) (hz : l.length ≤ 1000000) :
    Calls Tryz.prog 45 #[.pointer (some ⟨b, 0, none⟩), .slice a l.length cap] w (UnkOut w (newMs xs l)) := by
  have hhas := fun w' (hq : Below w.heap.size w w') x => has_tab w' b sb mb ms room xs ys x (h.mono hq)
  have hput := fun (wr : World) (m : Nat) (x : Sy) (ys : List Sy) h1 h2 => put_anyS wr m x ys h1 h2
  have hlen0 : ∀ k, (newMs xs (l.take k)).length ≤ l.length := fun k => by
    have h1 := newMs_len xs (l.take k) []
    have h2 : (l.take k).length ≤ l.length := by rw [List.length_take]; omega
    unfold newMs
    simp only [List.length_nil] at h1
    omega
  have Hhas := Lib.hid hhas
  have Hput := Lib.hid hput
  have Hel := Lib.hid he
  have Hlen := Lib.hid hlen0
  clear hhas hput he h hlen0
  go_enter Tryz.func45, Tryz.ntmps45
  go_wp2_with (go_at_call 43; refine (new_nilS w).mono ?_; unfold NewOutS; rintro e w1 ⟨m, rfl, hm1, hb1, hset⟩)
  have Hm1 := Lib.hid hm1
  have hset0 : SetS w1 m (newMs xs (l.take 0)) := hset
  clear hm1 hset
  go_loopw [11] (fun i wr => ∃ k : Nat, k ≤ l.length ∧ i = .int .i64 k ∧ Below w.heap.size w wr ∧ SetS wr m (newMs xs (l.take k))) (fun i _ => l.length - (intOf i).toNat)
  case atStart => exact ⟨0, Nat.zero_le _, rfl, hb1, hset0⟩
  case round =>
    clear hset0 hb1
    obtain ⟨k, hk, rfl, hbw, hsw⟩ := hrel
    by_cases hlt : k < l.length
    · obtain ⟨bb, off, rfl, hcell⟩ := Hel.out.at hlt
      obtain ⟨c0, c1, c2⟩ := hcell wr hbw
      have hnext := newMs_succ xs l hlt
      obtain ⟨x, hx⟩ : ∃ x, x = l[k] := ⟨_, rfl⟩
      rw [← hx] at c0 c1 c2 hnext
      have hlen := Hlen.out k
      have HS := Lib.hid (fun W h => IsSet.mono hsw h : ∀ W, Below wr.heap.size wr W → SetS W m (newMs xs (l.take k)))
      have HN := Lib.hid hnext
      have HBW := Lib.hid hbw
      have hws := hbw.size
      clear hsw hnext hx hcell hbw
      generalize newMs xs (l.take k) = acc at HS HN hlen
      have hys : acc.length ≤ 1000000 := by omega
      clear hlen
      have hal : Below wr.heap.size wr (wr.alloc (.cells #[.int .i64 x.k, .string x.t, .int .i64 x.n] 23)) := (Below.refl _ _).alloc (Nat.le_refl _) _
      have HA := Lib.hid hal
      clear hal
      cases hb : has cmpY x xs with
      | true =>
        have HN2 : Hid (newMs xs (l.take (k + 1)) = acc) := Lib.hid (by rw [HN.out]; unfold newStep; rw [if_pos hb])
        go_wp2_with (go_at_call 23; refine (Hhas.out _ (HBW.out.trans (HA.out.mono HBW.out.size)) x).mono ?_; rintro e w2 ⟨rfl, h2⟩; rw [hb]; have H2 := Lib.hid (HA.out.trans (h2.mono HA.out.size)); clear h2)
        go_roundw
        case rel => exact ⟨k + 1, by omega, by go_num, HBW.out.trans (H2.out.mono HBW.out.size), by rw [HN2.out]; exact HS.out _ H2.out⟩
        case measure => simp [intOf]; omega
      | false =>
        have HN2 : Hid (newMs xs (l.take (k + 1)) = ins cmpY x acc) := Lib.hid (by rw [HN.out]; unfold newStep; rw [if_neg (by rw [hb]; decide)])
        go_wp2_with (first | (go_at_call 23; refine (Hhas.out _ (HBW.out.trans (HA.out.mono HBW.out.size)) x).mono ?_; rintro e w2 ⟨rfl, h2⟩; rw [hb]; have hbox := (h2.block wr.heap.size (by simp)).trans (new_at rfl); have x0 := cells_of hbox 0; have x1 := cells_of hbox 1; have x2 := cells_of hbox 2; simp at x0 x1 x2; have H2 := Lib.hid (HA.out.trans (h2.mono HA.out.size)); clear h2 hbox) | (go_at_call 58; refine (Hput.out _ m x acc (HS.out _ H2.out) hys).mono ?_; unfold PutOutS; rintro e w3 ⟨rfl, hg3, hs3⟩))
        go_roundw
        case rel => exact ⟨k + 1, by omega, by go_num, (HBW.out.trans (H2.out.mono HBW.out.size)).trans (belowg hg3 (by have := H2.out.size; have := HBW.out.size; omega) Hm1.out), by rw [HN2.out]; exact hs3⟩
        case measure => simp [intOf]; omega
    · obtain rfl : k = l.length := by omega
      rw [List.take_length] at hsw
      have hfin : UnkOut w (newMs xs l) (.returned (.pointer (some ⟨m, 0, none⟩))) wr := ⟨m, rfl, Hm1.out, hbw, hsw⟩
      have Hfin := Lib.hid hfin
      clear hfin hsw
      go_wp2_with fail
      go_ret
      exact Hfin.out
end Go.Proofs.YtlledodigmkdjaaGreatDoor
