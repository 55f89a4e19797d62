/-
  ponderref06.seen and Check. No condition but bounds on how much there is.
-/
import Derived.Test.YtccphigpobnjmaaShMet
import Derived.Test.YtccphigpobnjmaaShRConds
import Derived.Test.YtccphigpobnjmaaShBad
import Derived.Test.YtccphigpobnjmaaKitLoad
import Derived.Test.YtccphigpobnjmaaShCheck
import Derived.Test.YtccphigpobnjmaaShRShape
namespace Go.Proofs.Ytccphigpobnjmaa
set_option linter.unusedVariables false
open Go.RowKit
def knowsM : List Co → Nat → List ByteArray → Option (List ByteArray) × Int
  | [], _, k => (some k, -1)
  | .mk h m :: l, n, k => if h.kind = 3 then (if (knowsM m (n + 1) k).1.isNone = true then (none, (knowsM m (n + 1) k).2) else knowsM l (n + 1 + sizeL m) k)
    else if (metM h k).isNone = true then (none, (n : Int)) else knowsM l (n + 1 + sizeL m) (if h.kind = 1 then (metM h k).getD k else k)
theorem knowsM_step (l : List Co) {j : Nat} (hj : j < l.length) (n : Nat) (k : List ByteArray) : knowsM (l.drop j) n k = if l[j].h.kind = 3 then (if (knowsM l[j].l (n + 1) k).1.isNone = true then (none, (knowsM l[j].l (n + 1) k).2) else knowsM (l.drop (j + 1)) (n + 1 + sizeL l[j].l) k)
    else if (metM l[j].h k).isNone = true then (none, (n : Int)) else knowsM (l.drop (j + 1)) (n + 1 + sizeL l[j].l) (if l[j].h.kind = 1 then (metM l[j].h k).getD k else k) := by
  rw [List.drop_eq_getElem_cons hj]
  cases hc : l[j] with
  | mk h m => rw [knowsM]; rfl
theorem tstM_len : ∀ (ts : List Ts) (k k' : List ByteArray), tstM ts k = some k' → k'.length ≤ k.length + ts.length
  | [], k, k', h => by simp [tstM] at h; subst h; simp
  | t :: ts, k, k', h => by
    unfold tstM at h
    rw [List.length_cons]
    split at h
    · have := tstM_len ts k k' h; omega
    · split at h
      · have := tstM_len ts k k' h; omega
      · split at h
        · have := tstM_len ts _ k' h; rw [List.length_append] at this; simp at this; omega
        · cases h
theorem metM_len {h : Ch} {k k' : List ByteArray} (hm : metM h k = some k') : k'.length ≤ k.length + 1 + h.attr.length + h.value.length := by
  unfold metM at hm
  obtain ⟨k1, h1, h2⟩ := Option.bind_eq_some_iff.1 hm
  have h3 := tstM_len _ _ _ h2
  rw [List.length_append] at h3
  unfold idM at h1
  split at h1
  · cases h1; omega
  · split at h1
    · cases h1; rw [List.length_append] at h3; simp at h3; omega
    · cases h1
theorem wt_drop (l : List Co) {j : Nat} (hj : j < l.length) : wtL (l.drop j) = 1 + l[j].h.attr.length + l[j].h.value.length + wtL l[j].l + wtL (l.drop (j + 1)) := by
  rw [List.drop_eq_getElem_cons hj]
  cases hc : l[j] with
  | mk h m => simp only [wtL, Co.h, Co.l]
/-- What knows answers. -/
def KnowsPost (w : World) (r : Option (List ByteArray) × Int) (e : Ending) (w' : World) : Prop := Below w.heap.size w w' ∧ match r.1 with
  | none => e = .returned (.tuple #[.slice none 0 0, .int .i64 r.2, .bool false])
  | some k => ∃ a c, e = .returned (.tuple #[.slice a k.length c, .int .i64 r.2, .bool true]) ∧ EltsK encB 1 w' a k
theorem KnowsPost.mkNo {w w' : World} {r : Option (List ByteArray) × Int} {e : Ending} {q : Int} (hr : r = (none, q)) (hb : Below w.heap.size w w') (he : e = .returned (.tuple #[.slice none 0 0, .int .i64 q, .bool false])) : KnowsPost w r e w' := by subst hr; exact ⟨hb, he⟩
theorem KnowsPost.mkYes {w w' : World} {r : Option (List ByteArray) × Int} {e : Ending} {k : List ByteArray} {q : Int} (hr : r = (some k, q)) (hb : Below w.heap.size w w') {a : Option Addr} {c : Nat} (he : e = .returned (.tuple #[.slice a k.length c, .int .i64 q, .bool true])) (hk : EltsK encB 1 w' a k) : KnowsPost w r e w' := by subst hr; exact ⟨hb, a, c, he, hk⟩
theorem KnowsPost.no {w w' : World} {r : Option (List ByteArray) × Int} {e : Ending} (h : KnowsPost w r e w') (hr : r.1.isNone = true) : Below w.heap.size w w' ∧ e = .returned (.tuple #[.slice none 0 0, .int .i64 r.2, .bool false]) := by
  obtain ⟨r1, r2⟩ := r
  cases r1 with
  | none => exact h
  | some k => cases hr
theorem KnowsPost.yes {w w' : World} {r : Option (List ByteArray) × Int} {e : Ending} (h : KnowsPost w r e w') (hr : r.1.isNone = false) : Below w.heap.size w w' ∧ ∃ k a c, r.1 = some k ∧ e = .returned (.tuple #[.slice a k.length c, .int .i64 r.2, .bool true]) ∧ EltsK encB 1 w' a k := by
  obtain ⟨r1, r2⟩ := r
  cases r1 with
  | none => cases hr
  | some k => exact ⟨h.1, k, _, _, rfl, h.2.choose_spec.choose_spec⟩
theorem MetPost.no' {w w' : World} {r : Option (List ByteArray)} {e : Ending} (h : MetPost w r e w') (hr : r.isNone = true) : Below w.heap.size w w' ∧ e = .returned (.tuple #[.slice none 0 0, .bool false]) := by
  cases r with
  | none => exact h
  | some k => cases hr
theorem MetPost.yes' {w w' : World} {r : Option (List ByteArray)} {e : Ending} {k : List ByteArray} (h : MetPost w r e w') (hr : r = some k) : Below w.heap.size w w' ∧ ∃ a c, e = .returned (.tuple #[.slice a k.length c, .bool true]) ∧ EltsK encB 1 w' a k := by
  subst hr; exact h
def RefKnows (l : List Co) : Prop := ∀ (n : Nat) (k : List ByteArray) (a' : Option Addr) (c' : Nat) (a : Option Addr) (cap : Nat) (w : World), n + sizeL l ≤ 1000000 → k.length + wtL l ≤ 1000 → EltsK encB 1 w a' k → CondsAt w a l →
  Calls Try.prog 49 #[.slice a l.length cap, .int .i64 n, .slice a' k.length c'] w fun e w' => KnowsPost w (knowsM l n k) e w'
set_option maxRecDepth 100000 in
set_option maxHeartbeats 4000000 in
theorem refknows_step (l : List Co) (ih : ∀ m, sizeL m < sizeL l → RefKnows m) : RefKnows l := by
  intro n k ka kc a cap w hz hwt hk h
  have Hel := Lib.hid h.elts
  have Hmet := Lib.hid (fun j (hj : j < l.length) (kk : List ByteArray) (a' : Option Addr) (c' : Nat) w' (hb : Below w.heap.size w w') (hk : EltsK encB 1 w' a' kk) (h1 : kk.length ≤ 10000) (h2 : l[j].h.attr.length ≤ 1000) (h3 : l[j].h.value.length ≤ 1000) => met_any l[j].h l[j].l.length kk a' c' w' ((h.tests hj).1.mono hb) ((h.tests hj).2.mono hb) hk h1 h2 h3)
  have Hin := Lib.hid (fun j (hj : j < l.length) (n' : Nat) (kk : List ByteArray) (a' : Option Addr) (c' : Nat) w' (hb : Below w.heap.size w w') (h1 : n' + sizeL l[j].l ≤ 1000000) (h2 : kk.length + wtL l[j].l ≤ 1000) (h3 : EltsK encB 1 w' a' kk) => ih l[j].l (size_inner l hj) n' kk a' c' l[j].h.ca l[j].h.cc w' h1 h2 h3 ((h.inner hj).mono hb))
  have Hsz := Lib.hid (fun j (hj : j < l.length) w' (hb : Below w.heap.size w w') => refsize_any l[j].l (by have := size_inner l hj; omega) l[j].h.ca l[j].h.cc w' ((h.inner hj).mono hb))
  have hln := len_size l
  have hlen : l.length ≤ 1000000 := by omega
  have Hz := Lib.hid hz
  have HK := Lib.hid hk
  have Hwt := Lib.hid hwt
  have hi7 : (Try.prog.info? 64).map (·.size) = some 7 := by kernel_rfl
  have H7 := Lib.hid hi7
  clear h ih hz hln hk hwt hi7
  go_enter Try.func49, Try.ntmps49
  go_wp2_with fail
  go_loopw [1, 2, 6, 7, 8, 9, 10, 11, 12, 13, 14] (fun s kn r6 r7 r8 i _ _ _ _ _ wr => ∃ (j : Nat) (kk : List ByteArray) (a' : Option Addr) (c' : Nat), j ≤ l.length ∧ i = .int .i64 j ∧ s = .int .i64 ((n + sizeL (l.take j) : Nat) : Int) ∧ kn = .slice a' kk.length c' ∧ r6 = .slice none 0 0 ∧ r7 = .int .i64 0 ∧ r8 = .bool false ∧ Hid (EltsK encB 1 wr a' kk) ∧ kk.length + wtL (l.drop j) ≤ 1000 ∧ Hid (Below w.heap.size w wr) ∧ Hid (knowsM l n k = knowsM (l.drop j) (n + sizeL (l.take j)) kk)) (fun _ _ _ _ _ i _ _ _ _ _ _ => l.length - (intOf i).toNat)
  case atStart => exact ⟨0, k, ka, kc, Nat.zero_le _, rfl, by simp [sizeL], rfl, rfl, rfl, rfl, HK, by simpa using Hwt.out, Lib.hid (Below.refl _ _), Lib.hid (by simp [sizeL])⟩
  case round =>
    obtain ⟨j, kk, a', c', hj, rfl, rfl, rfl, rfl, rfl, rfl, HKK, hkw, HB, HRUN⟩ := hrel
    by_cases hlt : j < l.length
    · obtain ⟨b, off, rfl, hcell⟩ := Hel.out.at hlt
      have hmet := Hmet.out j hlt kk a' c'
      have hin := Hin.out j hlt
      have hsz := Hsz.out j hlt
      have hs := size_take_succ l hlt
      have hs2 := size_take_le l (j + 1)
      have hz := Hz.out
      have hwd := wt_drop l hlt
      have hst := HRUN.out.trans (knowsM_step l hlt _ kk)
      obtain ⟨x, hx⟩ : ∃ x, x = l[j] := ⟨_, rfl⟩
      rw [← hx] at hcell hmet hin hsz hs hst hwd
      have hb2 : n + sizeL (l.take j) + 1 + sizeL x.l ≤ 1000000 := by omega
      obtain ⟨p, hp⟩ : ∃ p, p = n + sizeL (l.take j) := ⟨_, rfl⟩
      have hs' : n + sizeL (l.take (j + 1)) = p + 1 + sizeL x.l := by omega
      rw [← hp] at hst hb2 ⊢
      have hc := hcell _ HB.out
      have c0 := hc 0 _ rfl
      have c6 := hc 6 _ rfl
      simp only [Nat.add_zero] at c0
      have hws := HB.out.size
      have HCELL := Lib.hid hcell
      have HMET := Lib.hid hmet
      have HIN := Lib.hid hin
      have HSZ := Lib.hid hsz
      have HS := Lib.hid hs'
      have HST := Lib.hid hst
      have hl1 : kk.length ≤ 10000 := by omega
      have hl2 : x.h.attr.length ≤ 1000 := by omega
      have hl3 : x.h.value.length ≤ 1000 := by omega
      have hl4 : kk.length + wtL x.l ≤ 1000 := by omega
      have hm : sizeL x.l ≤ 1000000 := by omega
      have hp9 : p ≤ 1000000 := by omega
      have hcl : ∀ (j2 : Nat) (v : Value), [.int .i64 x.h.kind, .bool x.h.goal, .string x.h.id, .slice x.h.aa x.h.attr.length x.h.ac, .slice x.h.va x.h.value.length x.h.vc, .bool x.h.acc, .slice x.h.ca x.l.length x.h.cc][j2]? = some v → wr.cell? ((⟨b, off + j * 7, none⟩ : Addr).add j2) = some v := fun j2 v hv => by rw [Addr.add_lit]; exact hc j2 v hv
      have HCL := Lib.hid hcl
      have HKW := Lib.hid hkw
      have HWD := Lib.hid hwd
      clear hx hc hcell hin hs hs2 hz hst hmet hsz HRUN hp hs' hcl hkw hwd
      by_cases q3 : x.h.kind = 3
      · have HST2 := Lib.hid (show knowsM l n k = _ by rw [HST.out, if_pos q3])
        rw [q3] at c0
        cases q4 : (knowsM x.l (p + 1) kk).1.isNone with
        | true =>
          have HQ := Lib.hid (show knowsM l n k = (none, (knowsM x.l (p + 1) kk).2) by rw [HST2.out, if_pos q4])
          have HI := Lib.hid (HIN.out (p + 1) kk a' c' wr HB.out (by omega) hl4 HKK.out)
          clear HMET HST HST2 HIN HWD HCL q3
          generalize knowsM x.l (p + 1) kk = r at HI HQ q4
          go_wp2_with (go_at_call 49; refine (HI.out).mono ?_; rintro e w2 hpost; obtain ⟨h2, rfl⟩ := hpost.no q4)
          go_ret3
          exact KnowsPost.mkNo HQ.out (HB.out.trans (h2.mono hws)) rfl
        | false =>
          have HQ := Lib.hid (show knowsM l n k = knowsM (l.drop (j + 1)) (p + 1 + sizeL x.l) kk by rw [HST2.out, if_neg (by rw [q4]; decide)])
          have HI := Lib.hid (HIN.out (p + 1) kk a' c' wr HB.out (by omega) hl4 HKK.out)
          have HKW2 := Lib.hid (show kk.length + wtL (l.drop (j + 1)) ≤ 1000 by have := HKW.out; have := HWD.out; omega)
          have HN := Lib.hid (show n + sizeL (l.take (j + 1)) = p + (1 + sizeL x.l) by rw [HS.out]; omega)
          have HQ2 := Lib.hid (show knowsM l n k = knowsM (l.drop (j + 1)) (n + sizeL (l.take (j + 1))) kk by rw [HQ.out, HS.out])
          clear HMET HST HST2 HIN HWD HCL q3 HKW HQ HS hb2
          generalize knowsM x.l (p + 1) kk = r at HI q4
          generalize sizeL x.l = m at HSZ HN hm
          go_wp2_with (first | (go_at_call 49; refine (HI.out).mono ?_; rintro e w2 hpost; obtain ⟨h2, k2, a2, c2, -, rfl, -⟩ := hpost.yes q4; have H2 := Lib.hid (HB.out.trans (h2.mono hws)); have HK2 := Lib.hid (HKK.out.mono h2); clear h2; have e6 := HCELL.out _ H2.out 6 _ rfl) | (go_at_call 43; refine (HSZ.out _ H2.out).mono ?_; rintro e w4 ⟨rfl, rfl⟩))
          go_roundw
          case rel => exact ⟨j + 1, kk, a', c', by omega, by go_num, by rw [HN.out]; go_num, rfl, rfl, rfl, rfl, HK2, HKW2.out, H2, HQ2⟩
          case measure => simp [intOf]; omega
      · have HST2 := Lib.hid (show knowsM l n k = _ by rw [HST.out, if_neg q3])
        have d3 : (x.h.kind == 3) = false := by simpa using q3
        have hnk : ¬ x.h.kind = 3 := q3
        clear q3 HIN HST
        cases q4 : (metM x.h kk).isNone with
        | true =>
          have HQ := Lib.hid (show knowsM l n k = (none, (p : Int)) by rw [HST2.out, if_pos q4])
          have HI := Lib.hid (HMET.out wr HB.out HKK.out hl1 hl2 hl3)
          clear HMET HST2 HWD
          generalize metM x.h kk = r at HI HQ q4
          go_wp2_with (first | (refine wpList_load rfl (.tmp 46) 64 rfl (A := ⟨b, off + j * 7, none⟩) rfl Try.underlying64 rfl (cs := [.int .i64 x.h.kind, .bool x.h.goal, .string x.h.id, .slice x.h.aa x.h.attr.length x.h.ac, .slice x.h.va x.h.value.length x.h.vc, .bool x.h.acc, .slice x.h.ca x.l.length x.h.cc]) H7.out HCL.out ?_) | (go_at_call 78; refine (HI.out).mono ?_; rintro e w2 hpost; obtain ⟨h2, rfl⟩ := hpost.no' q4))
          go_ret3
          exact KnowsPost.mkNo HQ.out (HB.out.trans (h2.mono hws)) rfl
        | false =>
          obtain ⟨k2, hk2⟩ : ∃ k2, metM x.h kk = some k2 := by
            cases hq : metM x.h kk with
            | none => rw [hq] at q4; cases q4
            | some k2 => exact ⟨k2, rfl⟩
          have hml := metM_len hk2
          have HI := Lib.hid (HMET.out wr HB.out HKK.out hl1 hl2 hl3)
          rw [hk2] at HI
          have HQ := Lib.hid (show knowsM l n k = knowsM (l.drop (j + 1)) (p + 1 + sizeL x.l) (if x.h.kind = 1 then k2 else kk) by rw [HST2.out, if_neg (by rw [q4]; decide), hk2]; rfl)
          have HKW2 := Lib.hid (show k2.length + wtL (l.drop (j + 1)) ≤ 1000 ∧ kk.length + wtL (l.drop (j + 1)) ≤ 1000 by have := HKW.out; have := HWD.out; omega)
          have HN := Lib.hid (show n + sizeL (l.take (j + 1)) = p + (1 + sizeL x.l) by rw [HS.out]; omega)
          have HQ2 := Lib.hid (show knowsM l n k = knowsM (l.drop (j + 1)) (n + sizeL (l.take (j + 1))) (if x.h.kind = 1 then k2 else kk) by rw [HQ.out, HS.out])
          clear HMET HST2 HWD HKW HQ HS hb2 q4 hk2 hml
          by_cases q1 : x.h.kind = 1
          · have HQ3 := Lib.hid (show knowsM l n k = knowsM (l.drop (j + 1)) (n + sizeL (l.take (j + 1))) k2 by rw [HQ2.out, if_pos q1])
            have d1 : (x.h.kind == 1) = true := by simpa using q1
            have Q1 := Lib.hid q1
            clear q1 HQ2
            generalize sizeL x.l = m at HSZ HN hm
            go_wp2_with (first | (refine wpList_load rfl (.tmp 46) 64 rfl (A := ⟨b, off + j * 7, none⟩) rfl Try.underlying64 rfl (cs := [.int .i64 x.h.kind, .bool x.h.goal, .string x.h.id, .slice x.h.aa x.h.attr.length x.h.ac, .slice x.h.va x.h.value.length x.h.vc, .bool x.h.acc, .slice x.h.ca x.l.length x.h.cc]) H7.out HCL.out ?_) | (go_at_call 78; refine (HI.out).mono ?_; rintro e w2 hpost; obtain ⟨h2, a2, c2, rfl, hk3⟩ := hpost.yes' rfl; have H2 := Lib.hid (HB.out.trans (h2.mono hws)); have HK2 := Lib.hid (HKK.out.mono h2); have HK3 := Lib.hid hk3; clear h2 hk3 hpost; have e0 := HCELL.out _ H2.out 0 _ rfl; have e6 := HCELL.out _ H2.out 6 _ rfl; simp only [Nat.add_zero] at e0) | (go_at_call 43; refine (HSZ.out _ H2.out).mono ?_; rintro e w4 ⟨rfl, rfl⟩))
            go_roundw
            case rel => exact ⟨j + 1, k2, a2, c2, by omega, by go_num, by rw [HN.out]; go_num, rfl, rfl, rfl, rfl, HK3, HKW2.out.1, H2, HQ3⟩
            case measure => simp [intOf]; omega
          · have HQ3 := Lib.hid (show knowsM l n k = knowsM (l.drop (j + 1)) (n + sizeL (l.take (j + 1))) kk by rw [HQ2.out, if_neg q1])
            have d1 : (x.h.kind == 1) = false := by simpa using q1
            clear HQ2
            generalize sizeL x.l = m at HSZ HN hm
            go_wp2_with (first | (refine wpList_load rfl (.tmp 46) 64 rfl (A := ⟨b, off + j * 7, none⟩) rfl Try.underlying64 rfl (cs := [.int .i64 x.h.kind, .bool x.h.goal, .string x.h.id, .slice x.h.aa x.h.attr.length x.h.ac, .slice x.h.va x.h.value.length x.h.vc, .bool x.h.acc, .slice x.h.ca x.l.length x.h.cc]) H7.out HCL.out ?_) | (go_at_call 78; refine (HI.out).mono ?_; rintro e w2 hpost; obtain ⟨h2, a2, c2, rfl, hk3⟩ := hpost.yes' rfl; have H2 := Lib.hid (HB.out.trans (h2.mono hws)); have HK2 := Lib.hid (HKK.out.mono h2); have HK3 := Lib.hid hk3; clear h2 hk3 hpost; have e0 := HCELL.out _ H2.out 0 _ rfl; have e6 := HCELL.out _ H2.out 6 _ rfl; simp only [Nat.add_zero] at e0) | (go_at_call 43; refine (HSZ.out _ H2.out).mono ?_; rintro e w4 ⟨rfl, rfl⟩))
            go_roundw
            case rel => exact ⟨j + 1, kk, a', c', by omega, by go_num, by rw [HN.out]; go_num, rfl, rfl, rfl, rfl, HK2, HKW2.out.2, H2, HQ3⟩
            case measure => simp [intOf]; omega
    · obtain rfl : j = l.length := by omega
      have HQ := Lib.hid (show knowsM l n k = (some kk, -1) by rw [HRUN.out, List.drop_length]; simp [knowsM])
      clear HRUN
      go_wp2_with fail
      go_ret3
      exact KnowsPost.mkYes HQ.out HB.out rfl HKK.out
theorem refknows_any (l : List Co) : RefKnows l := by
  have key : ∀ n, ∀ l : List Co, sizeL l ≤ n → RefKnows l := by
    intro n
    induction n with
    | zero => exact fun l h => refknows_step l (fun m hm => by omega)
    | succ n ih => exact fun l h => refknows_step l (fun m hm => ih m (by omega))
  exact key _ l (Nat.le_refl _)
open Go.RowKit
/-- A scope's set and a list of names know the same. -/
def R (xs k : List ByteArray) : Prop := ∀ x, has cmpS x xs = hasB k x
theorem R_nil : R [] [] := fun _ => rfl
theorem cmp_beq (x y : ByteArray) : (cmpS x y == 0) = decide (x = y) := by
  by_cases h : x = y
  · subst h; rw [cmpS_cmp.refl x]; simp
  · have : ¬ cmpS x y = 0 := fun e => h (cmpS_eq e)
    simp [h, this]
theorem hasB_more (k : List ByteArray) (x y : ByteArray) : hasB (k ++ [x]) y = (hasB k y || decide (x = y)) := by
  unfold hasB; rw [List.any_append]; simp
theorem learn_rel {st : Stt} {k : List ByteArray} (h : R st.1 k) (x : ByteArray) : R (learnS st x).1 (if hasB k x = true then k else k ++ [x]) ∧ (learnS st x).2 = (if hasB k x = true then st.2 else st.2 ++ [x]) := by
  refine ⟨fun y => ?_, ?_⟩
  · show has cmpS y (ins cmpS x st.1) = _
    rw [has_ins cmpS_cmp, cmp_beq, h y]
    by_cases hq : hasB k x = true
    · rw [if_pos hq]
      by_cases he : y = x
      · subst he; simp [hq]
      · simp [he]
    · rw [if_neg hq, hasB_more, Bool.or_comm]
      congr 1
      simp only [eq_comm]
  · show (if has cmpS x st.1 = true then st.2 else st.2 ++ [x]) = _
    rw [h x]
theorem tests_rel : ∀ (ts : List Ts) (st : Stt) (k : List ByteArray), R st.1 k →
    (∀ k', tstM ts k = some k' → (testsS ts st).1 = true ∧ R (testsS ts st).2.1 k' ∧ ∃ e, k' = k ++ e ∧ (testsS ts st).2.2 = st.2 ++ e) ∧ (tstM ts k = none → (testsS ts st).1 = false)
  | [], st, k, h => ⟨fun k' hk => by simp [tstM] at hk; subst hk; exact ⟨rfl, h, [], by simp, by simp [testsS]⟩, fun hk => by simp [tstM] at hk⟩
  | t :: ts, st, k, h => by
    by_cases hz : t.var.size = 0
    · have h1 : oneS t st = st := by unfold oneS; rw [if_neg (fun c => c.2 hz)]
      have h2 : knowsB (oneS t st).1 t.var = true := by unfold knowsB; simp [hz]
      have h3 : testsS (t :: ts) st = testsS ts st := by conv => lhs; unfold testsS
                                                         rw [if_pos h2, h1]
      have h4 : tstM (t :: ts) k = tstM ts k := by conv => lhs; unfold tstM
                                                   rw [if_pos hz]
      rw [h3, h4]; exact tests_rel ts st k h
    · cases hb : hasB k t.var with
      | true =>
        have h4 : tstM (t :: ts) k = tstM ts k := by conv => lhs; unfold tstM
                                                     rw [if_neg hz, if_pos hb]
        have hst : R (oneS t st).1 k ∧ (oneS t st).2 = st.2 := by
          unfold oneS
          split
          · have := learn_rel h t.var
            rw [hb, if_pos rfl, if_pos rfl] at this; exact this
          · exact ⟨h, rfl⟩
        have h2 : knowsB (oneS t st).1 t.var = true := by unfold knowsB; rw [hst.1 t.var, hb, Bool.or_true]
        have h3 : testsS (t :: ts) st = testsS ts (oneS t st) := by conv => lhs; unfold testsS
                                                                    rw [if_pos h2]
        rw [h3, h4, ← hst.2]; exact tests_rel ts (oneS t st) k hst.1
      | false =>
        by_cases hr : t.rel = 1
        · have h4 : tstM (t :: ts) k = tstM ts (k ++ [t.var]) := by conv => lhs; unfold tstM
                                                                    rw [if_neg hz, if_neg (by rw [hb]; decide), if_pos hr]
          have hst : R (oneS t st).1 (k ++ [t.var]) ∧ (oneS t st).2 = st.2 ++ [t.var] := by
            unfold oneS
            rw [if_pos ⟨hr, hz⟩]
            have := learn_rel h t.var
            rw [hb, if_neg (by decide), if_neg (by decide)] at this; exact this
          have h2 : knowsB (oneS t st).1 t.var = true := by unfold knowsB; rw [hst.1 t.var, hasB_more]; simp
          have h3 : testsS (t :: ts) st = testsS ts (oneS t st) := by conv => lhs; unfold testsS
                                                                      rw [if_pos h2]
          have ih := tests_rel ts (oneS t st) (k ++ [t.var]) hst.1
          rw [h3, h4]
          refine ⟨fun k' hk => ?_, ih.2⟩
          obtain ⟨i1, i2, e, i3, i4⟩ := ih.1 k' hk
          exact ⟨i1, i2, [t.var] ++ e, by rw [i3, List.append_assoc], by rw [i4, hst.2, List.append_assoc]⟩
        · have h4 : tstM (t :: ts) k = none := by conv => lhs; unfold tstM
                                                  rw [if_neg hz, if_neg (by rw [hb]; decide), if_neg hr]
          have h1 : oneS t st = st := by unfold oneS; rw [if_neg (fun c => hr c.1)]
          have h2 : ¬ knowsB (oneS t st).1 t.var = true := by rw [h1]; unfold knowsB; rw [h t.var, hb]; simp [hz]
          have h3 : testsS (t :: ts) st = (false, oneS t st) := by conv => lhs; unfold testsS
                                                                   rw [if_neg h2]
          rw [h3, h4]
          exact ⟨fun k' hk => (by cases hk), fun _ => rfl⟩
theorem tstM_append : ∀ (a b : List Ts) (k : List ByteArray), tstM (a ++ b) k = (tstM a k).bind (tstM b)
  | [], b, k => rfl
  | t :: a, b, k => by
    have h1 := tstM_append a b k
    have h2 := tstM_append a b (k ++ [t.var])
    rw [List.cons_append]
    unfold tstM
    split
    · exact h1
    · split
      · exact h1
      · split
        · exact h2
        · rfl
theorem cond_rel {h : Ch} {st : Stt} {k : List ByteArray} (hR : R st.1 k) (hid : ¬ h.id.size = 0) :
    (∀ k', metM h k = some k' → (condS h st).1 = true ∧ R (condS h st).2.1 k' ∧ ∃ e, k' = k ++ e ∧ (condS h st).2.2 = st.2 ++ e) ∧ (metM h k = none → (condS h st).1 = false) := by
  have rest : ∀ k1 e1, R (idS h st).1 k1 → k1 = k ++ e1 → (idS h st).2 = st.2 ++ e1 → knowsB (idS h st).1 h.id = true → metM h k = tstM (h.attr ++ h.value) k1 →
      (∀ k', metM h k = some k' → (condS h st).1 = true ∧ R (condS h st).2.1 k' ∧ ∃ e, k' = k ++ e ∧ (condS h st).2.2 = st.2 ++ e) ∧ (metM h k = none → (condS h st).1 = false) := by
    intro k1 e1 h1 h2 h3 h4 h5
    rw [h5, tstM_append]
    have ha := tests_rel h.attr (idS h st) k1 h1
    unfold condS
    rw [if_pos h4]
    cases hq : tstM h.attr k1 with
    | none =>
      have := ha.2 hq
      rw [if_neg (by rw [this]; decide)]
      exact ⟨fun k' hk => (by cases hk), fun _ => rfl⟩
    | some k2 =>
      obtain ⟨a1, a2, e2, a3, a4⟩ := ha.1 k2 hq
      rw [if_pos a1]
      have hv := tests_rel h.value (testsS h.attr (idS h st)).2 k2 a2
      refine ⟨fun k' hk => ?_, hv.2⟩
      obtain ⟨b1, b2, e3, b3, b4⟩ := hv.1 k' hk
      exact ⟨b1, b2, e1 ++ (e2 ++ e3), by rw [b3, a3, h2]; simp, by rw [b4, a4, h3]; simp⟩
  have hl := learn_rel hR h.id
  cases hb : hasB k h.id with
  | true =>
    rw [hb, if_pos rfl, if_pos rfl] at hl
    have hi : R (idS h st).1 k ∧ (idS h st).2 = st.2 := by
      unfold idS; split
      · exact hl
      · exact ⟨hR, rfl⟩
    exact rest k [] hi.1 (by simp) (by simpa using hi.2) (by unfold knowsB; rw [hi.1 h.id, hb, Bool.or_true]) (by unfold metM idM; rw [if_pos hb]; rfl)
  | false =>
    rw [hb, if_neg (by decide), if_neg (by decide)] at hl
    by_cases hg : h.goal = true
    · have hi : idS h st = learnS st h.id := by unfold idS; rw [if_pos hg]
      exact rest (k ++ [h.id]) [h.id] (by rw [hi]; exact hl.1) rfl (by rw [hi]; exact hl.2) (by unfold knowsB; rw [hi, hl.1 h.id, hasB_more]; simp) (by unfold metM idM; rw [hb, if_neg (by decide), if_pos hg]; rfl)
    · have hi : idS h st = st := by unfold idS; rw [if_neg hg]
      have hm : metM h k = none := by unfold metM idM; rw [hb, if_neg (by decide), if_neg hg]; rfl
      rw [hm]
      refine ⟨fun k' hk => (by cases hk), fun _ => ?_⟩
      unfold condS
      rw [if_neg (by rw [hi]; unfold knowsB; rw [hR h.id, hb]; simp [hid])]
/-- Conditions of their forms: kinds, names. -/
def okL : List Co → Prop
  | [] => True
  | .mk h m :: l => (h.kind = 3 ∨ ((h.kind = 1 ∨ h.kind = 2) ∧ ¬ h.id.size = 0)) ∧ okL m ∧ okL l
theorem okL_nil : okL [] := by unfold okL; trivial
theorem okL_cons {h : Ch} {m l : List Co} : okL (.mk h m :: l) ↔ (h.kind = 3 ∨ ((h.kind = 1 ∨ h.kind = 2) ∧ ¬ h.id.size = 0)) ∧ okL m ∧ okL l := by conv => lhs; unfold okL
theorem word_size {s : ByteArray} (h : wordB s.data.toList = true) : ¬ s.size = 0 := fun e => by
  rw [bytes_nil _ e] at h; cases h
theorem cond_ok {h : Ch} {n : Nat} {d : Int} (he : condE h n d = 0) : h.kind = 3 ∨ ((h.kind = 1 ∨ h.kind = 2) ∧ ¬ h.id.size = 0) := by
  unfold condE at he
  split at he
  · rename_i hk
    refine .inr ⟨hk, word_size ?_⟩
    unfold singleE at he
    split at he
    · cases he
    · split at he
      · cases he
      · rename_i hw; simpa using hw
  · split at he
    · exact .inl (by assumption)
    · cases he
theorem first_ok : ∀ (l : List Co) (n : Nat) (d : Int), (firstE l n d).2 = 0 → okL l
  | [], _, _, _ => okL_nil
  | .mk h m :: l, n, d, he => by
    unfold firstE at he
    split at he
    · rename_i h0; exact absurd he h0
    · rename_i h0
      split at he
      · rename_i h1; exact absurd he h1
      · rename_i h1
        exact okL_cons.2 ⟨cond_ok (Decidable.not_not.1 h0), first_ok m _ _ (Decidable.not_not.1 h1), first_ok l _ _ he⟩
theorem bad_rel : ∀ (l : List Co) (n : Nat) (st : Stt) (k : List ByteArray), R st.1 k → okL l →
    (∀ k', (knowsM l n k).1 = some k' → (badS l n st).1 = -1 ∧ R (badS l n st).2.1 k' ∧ (knowsM l n k).2 = -1 ∧ ∃ e, k' = k ++ e ∧ (badS l n st).2.2 = st.2 ++ e) ∧
    ((knowsM l n k).1 = none → (badS l n st).1 = (knowsM l n k).2 ∧ (knowsM l n k).2 ≠ -1)
  | [], n, st, k, h, _ => by
    have h1 : knowsM [] n k = (some k, -1) := by rw [knowsM]
    have h2 : badS [] n st = (-1, st) := by rw [badS]
    rw [h1, h2]
    exact ⟨fun k' hk => by cases hk; exact ⟨rfl, h, rfl, [], by simp, by simp⟩, fun hk => by cases hk⟩
  | .mk h m :: l, n, st, k, hR, hok => by
    obtain ⟨hk, hm, hl⟩ := okL_cons.1 hok
    rw [bad_cons, knowsM]
    by_cases h3 : h.kind = 3
    · rw [if_pos h3, if_pos h3]
      have im := bad_rel m (n + 1) (st.1, []) k hR hm
      cases hq : (knowsM m (n + 1) k).1 with
      | none =>
        have := im.2 hq
        have e1 : (badS m (n + 1) (st.1, [])).1 ≠ -1 := by rw [this.1]; exact this.2
        rw [if_pos e1, if_pos (show (none : Option (List ByteArray)).isNone = true from rfl)]
        exact ⟨fun k' hk => (by cases hk), fun _ => this⟩
      | some k2 =>
        have := im.1 k2 hq
        have e1 : ¬ (badS m (n + 1) (st.1, [])).1 ≠ -1 := by rw [this.1]; simp
        rw [if_neg e1, if_neg (show ¬ (some k2).isNone = true by simp)]
        exact bad_rel l _ st k hR hl
    · rw [if_neg h3, if_neg h3]
      obtain ⟨hk12, hid⟩ := hk.resolve_left h3
      by_cases h2 : h.kind = 2
      · rw [if_pos h2]
        have ic := cond_rel (st := (st.1, [])) hR hid
        cases hq : metM h k with
        | none =>
          have e1 : ¬ (condS h (st.1, [])).1 = true := by rw [ic.2 hq]; decide
          rw [if_neg e1, if_pos (show (none : Option (List ByteArray)).isNone = true from rfl)]
          exact ⟨fun k' hk => (by cases hk), fun _ => ⟨rfl, by show (n : Int) ≠ -1; omega⟩⟩
        | some k2 =>
          rw [if_pos (ic.1 k2 hq).1, if_neg (show ¬ (some k2).isNone = true by simp), if_neg (show ¬ h.kind = 1 by omega)]
          exact bad_rel l _ st k hR hl
      · rw [if_neg h2]
        have h1 : h.kind = 1 := by omega
        have ic := cond_rel (st := st) hR hid
        cases hq : metM h k with
        | none =>
          have e1 : ¬ (condS h st).1 = true := by rw [ic.2 hq]; decide
          rw [if_neg e1, if_pos (show (none : Option (List ByteArray)).isNone = true from rfl)]
          exact ⟨fun k' hk => (by cases hk), fun _ => ⟨rfl, by show (n : Int) ≠ -1; omega⟩⟩
        | some k2 =>
          obtain ⟨c1, c2, e, c3, c4⟩ := ic.1 k2 hq
          rw [if_pos c1, if_neg (show ¬ (some k2).isNone = true by simp), if_pos h1]
          have il := bad_rel l (n + 1 + sizeL m) (condS h st).2 k2 c2 hl
          refine ⟨fun k' hk => ?_, il.2⟩
          obtain ⟨d1, d2, d3, e2, d4, d5⟩ := il.1 k' hk
          exact ⟨d1, d2, d3, e ++ e2, by rw [d4, c3, List.append_assoc], by rw [d5, c4, List.append_assoc]⟩
def seenM (k : List ByteArray) (a : At) : Bool := decide (a.v.size = 0) || hasB k a.v
def ractM (k : List ByteArray) (x : Ac) : Bool := seenM k x.at_ && (decide (x.v.op = 0) || (seenM k x.v.l && seenM k x.v.r))
theorem act_rel {xs k : List ByteArray} (h : R xs k) (x : Ac) : actS xs x = ractM k x := by
  unfold actS ractM knowsB seenM
  rw [h, h, h]
def checkM (p : Pr) : Int × Int := if (shapeE p).2 ≠ 0 then shapeE p else if kindP p ≠ 1 then (0, 9) else match (knowsM p.conds 0 []).1 with
  | none => ((knowsM p.conds 0 []).2, 6)
  | some k => if p.acts.all (ractM k) = true then (-1, 0) else ((sizeL p.conds : Int) + ((p.acts.takeWhile (ractM k)).length : Int), 6)
theorem shape_first {p : Pr} (h : (shapeE p).2 = 0) : (firstE p.conds 0 0).2 = 0 := by
  by_cases h1 : (firstE p.conds 0 0).2 = 0
  · exact h1
  · unfold shapeE at h
    split at h
    · rename_i hw; exact absurd h hw
    · exact h
theorem check_rel (p : Pr) : checkM p = (checkE p).2 ∧ ((checkE p).2.2 = 0 → (knowsM p.conds 0 []).1 = some (checkE p).1) := by
  unfold checkM checkE
  by_cases h1 : (shapeE p).2 ≠ 0
  · rw [if_pos h1, if_pos h1]; exact ⟨rfl, fun h => absurd h h1⟩
  · rw [if_neg h1, if_neg h1]
    by_cases h2 : kindP p ≠ 1
    · rw [if_pos h2, if_pos h2]; exact ⟨rfl, fun h => by cases h⟩
    · rw [if_neg h2, if_neg h2]
      have hb := bad_rel p.conds 0 ([], []) [] R_nil (first_ok _ _ _ (shape_first (Decidable.not_not.1 h1)))
      cases hq : (knowsM p.conds 0 []).1 with
      | none =>
        have h3 := hb.2 hq
        have h4 : (stP p).1 ≠ -1 := by unfold stP; rw [h3.1]; exact h3.2
        rw [if_pos h4]
        exact ⟨by show _ = ((stP p).1, 6); unfold stP; rw [h3.1], fun h => by cases h⟩
      | some k =>
        obtain ⟨h3, h4, h5, e, h6, h7⟩ := hb.1 k hq
        have h8 : ¬ (stP p).1 ≠ -1 := by unfold stP; rw [h3]; simp
        have hk : (stP p).2.2 = k := by unfold stP; rw [h7, h6]
        have ha : actS (stP p).2.1 = ractM k := funext (act_rel h4)
        rw [if_neg h8, ha]
        by_cases h9 : p.acts.all (ractM k) = true
        · rw [if_pos h9]; exact ⟨by simp only; rw [if_pos h9], fun _ => by rw [hk]⟩
        · rw [if_neg h9]; exact ⟨by simp only; rw [if_neg h9], fun h => (by cases h)⟩
open Go.RowKit
set_option maxRecDepth 100000 in
set_option maxHeartbeats 2000000 in
theorem seen_any (x : At) (k : List ByteArray) (ka : Option Addr) (kc : Nat) (w : World) (hk : EltsK encB 1 w ka k) (hl : k.length ≤ 10000) : Calls Try.prog 50 #[.agg #[.string x.v, .int .i64 x.s.k, .string x.s.t, .int .i64 x.s.n], .slice ka k.length kc] w fun e w' => e = .returned (.bool (seenM k x)) ∧ Below w.heap.size w w' := by
  have hB : Below w.heap.size w (w.alloc (.cells #[.string x.v, .int .i64 x.s.k, .string x.s.t, .int .i64 x.s.n] 55)) := by go_grown
  have HK := Lib.hid (hk.mono hB)
  have HB := Lib.hid hB
  clear hk hB
  by_cases hz : x.v.size = 0
  · have he : x.v.toList = [] := by rw [Lib.toList_data]; exact bytes_nil _ hz
    have he2 : x.v.toList.isEmpty = true := by rw [he]; rfl
    have HQ := Lib.hid (show seenM k x = true by unfold seenM; simp [hz])
    clear hz
    go_enter Try.func50, Try.ntmps50
    go_wp2_with fail
    go_ret
    exact ⟨by rw [HQ.out]; rfl, HB.out⟩
  · have he : ¬ x.v.toList = [] := by rw [Lib.toList_data, bytes_cons _ (by omega)]; simp
    have he2 : x.v.toList.isEmpty = false := by rw [Lib.toList_data, bytes_cons _ (by omega)]; rfl
    have HQ := Lib.hid (show seenM k x = hasB k x.v by unfold seenM; simp [hz])
    clear hz
    go_enter Try.func50, Try.ntmps50
    go_wp2_with (go_at_call 79; refine (rhas_any k ka kc x.v _ HK.out (by omega)).mono ?_; rintro e w1 ⟨rfl, rfl⟩)
    go_ret
    exact ⟨by rw [HQ.out]; rfl, HB.out⟩
theorem at_cells {w : World} {b i : Nat} {c : Array Value} {t : TypeId} {f : Nat × Nat} {x : At} (h : w.heap[b]? = some (.cells c t f)) (h0 : c[i]? = some (.string x.v)) (h1 : c[i + 1]? = some (.int .i64 x.s.k)) (h2 : c[i + 2]? = some (.string x.s.t)) (h3 : c[i + 3]? = some (.int .i64 x.s.n)) :
    ∀ (j : Nat) (v : Value), [Value.string x.v, .int .i64 x.s.k, .string x.s.t, .int .i64 x.s.n][j]? = some v → w.cell? ((⟨b, i, none⟩ : Addr).add j) = some v := fun j v hv => by
  have hj : j < 4 := (List.getElem?_eq_some_iff.1 hv).1
  rw [Addr.add_lit, cells_of h]
  rcases (by omega : j = 0 ∨ j = 1 ∨ j = 2 ∨ j = 3) with rfl | rfl | rfl | rfl
  · rw [← hv]; exact h0
  · rw [← hv]; exact h1
  · rw [← hv]; exact h2
  · rw [← hv]; exact h3
theorem knows_lenL : ∀ (l : List Co) (n : Nat) (k0 k1 : List ByteArray), (knowsM l n k0).1 = some k1 → k1.length ≤ k0.length + wtL l
  | [], n, k0, k1, h => by simp [knowsM] at h; subst h; simp [wtL]
  | .mk h m :: l, n, k0, k1, hk => by
    rw [knowsM] at hk
    simp only [wtL]
    split at hk
    · split at hk
      · cases hk
      · have := knows_lenL l _ _ _ hk; omega
    · split at hk
      · cases hk
      · rename_i hn
        obtain ⟨k2, hk2⟩ : ∃ k2, metM h k0 = some k2 := by
          cases hq : metM h k0 with
          | none => rw [hq] at hn; exact absurd rfl hn
          | some k2 => exact ⟨k2, rfl⟩
        have h1 := metM_len hk2
        have h2 := knows_lenL l _ _ _ hk
        rw [hk2] at h2
        split at h2
        · simp only [Option.getD_some] at h2; omega
        · omega
set_option maxRecDepth 100000 in
set_option maxHeartbeats 16000000 in
theorem rcheck_any (p : Pr) (w : World) (hz : sizeL p.conds ≤ 900) (hwt : wtL p.conds ≤ 900) (hza : p.acts.length ≤ 900) (hp : PrAt w p) : Calls Try.prog 17 #[.agg #[.string p.name, .slice p.ca p.conds.length p.cc, .slice p.aa p.acts.length p.ac]] w fun e w' => e = .returned (.tuple #[.int .i64 (checkM p).1, .int .i64 (checkM p).2]) ∧ Below w.heap.size w w' := by
  obtain ⟨W2, hW2⟩ : ∃ W2, W2 = w.alloc (.cells #[.string p.name, .slice p.ca p.conds.length p.cc, .slice p.aa p.acts.length p.ac] 25) := ⟨_, rfl⟩
  have hB : Below w.heap.size w W2 := by rw [hW2]; go_grown
  have hgp : W2.heap[w.heap.size]? = some (.cells #[.string p.name, .slice p.ca p.conds.length p.cc, .slice p.aa p.acts.length p.ac] 25 (0, 0)) := by rw [hW2]; exact new_at rfl
  have HGP := Lib.hid (fun w' (h : Below W2.heap.size W2 w') => (h.block _ (heap_lt hgp)).trans hgp)
  have HC := Lib.hid (fun w' (h : Below W2.heap.size W2 w') => (⟨cell_at' ((h.block _ (heap_lt hgp)).trans hgp) 1 (v := .slice p.ca p.conds.length p.cc) rfl, cell_at' ((h.block _ (heap_lt hgp)).trans hgp) 2 (v := .slice p.aa p.acts.length p.ac) rfl⟩ : w'.cell? ⟨w.heap.size, 1, none⟩ = some (.slice p.ca p.conds.length p.cc) ∧ w'.cell? ⟨w.heap.size, 2, none⟩ = some (.slice p.aa p.acts.length p.ac)))
  have HL := Lib.hid (fun w' (h : Below W2.heap.size W2 w') (j : Nat) (v : Value) (hv : [.string p.name, .slice p.ca p.conds.length p.cc, .slice p.aa p.acts.length p.ac][j]? = some v) => (by rw [Addr.add_lit, Nat.zero_add, cells_of ((h.block _ (heap_lt hgp)).trans hgp)]; simpa using hv : w'.cell? ((⟨w.heap.size, 0, none⟩ : Addr).add j) = some v))
  have hi25 : (Try.prog.info? 25).map (·.size) = some 3 := by kernel_rfl
  have H25 := Lib.hid hi25
  have HB := Lib.hid hB
  have HR := Lib.hid (Below.refl W2.heap.size W2)
  have HSH := Lib.hid (rshape_any p W2 (by omega) (by omega) (hp.mono hB))
  have HKN := Lib.hid (fun w' (h : Below W2.heap.size W2 w') => refknows_any p.conds 0 [] none 0 p.ca p.cc w' (by omega) (by simpa using Nat.le_trans hwt (by omega)) (fun k hk => absurd hk (by simp)) ((hp.mono hB).mono h).conds)
  have HSZ := Lib.hid (fun w' (h : Below W2.heap.size W2 w') => refsize_any p.conds (by omega) p.ca p.cc w' ((hp.mono hB).mono h).conds)
  have HAC := Lib.hid (fun w' (h : Below W2.heap.size W2 w') => ((hp.mono hB).mono h).acts)
  have HEL := Lib.hid ((hp.mono hB).conds.elts)
  have Hwt := Lib.hid hwt
  clear hi25 hB hgp hp hwt
  cases q1 : (shapeE p).2 != 0 with
  | true =>
    have HQ := Lib.hid (show checkM p = shapeE p by unfold checkM; rw [if_pos (bne_iff_ne.1 q1)])
    subst hW2
    generalize shapeE p = r at HSH HQ q1
    go_enter Try.func17, Try.ntmps17
    go_wp2_with (first | (refine wpList_load rfl (.tmp 1) 25 rfl (A := ⟨w.heap.size, 0, none⟩) rfl Try.underlying25 rfl (cs := [.string p.name, .slice p.ca p.conds.length p.cc, .slice p.aa p.acts.length p.ac]) H25.out (HL.out _ HR.out) ?_) | (go_at_call 14; refine (HSH.out).mono ?_; rintro e w1 ⟨rfl, h1⟩; replace HR := Lib.hid (HR.out.trans (h1.mono HR.out.size)); clear h1))
    go_ret2
    exact ⟨by rw [HQ.out]; rfl, HB.out.trans (HR.out.mono HB.out.size)⟩
  | false =>
    have hq1 : (shapeE p).2 = 0 := bne_eq_false_iff_eq.1 q1
    obtain ⟨s1, s2, s3⟩ := shape_ok hq1
    have HS1 := Lib.hid (show checkM p = _ by unfold checkM; rw [hq1, if_neg (by decide)])
    obtain ⟨bb, off, hca, hcell0⟩ := HEL.out.at (k := 0) (by omega)
    have hk0 : ∀ w', Below W2.heap.size W2 w' → w'.cell? ⟨bb, off, none⟩ = some (.int .i64 (kindP p)) := fun w' h' => by
      have h0 := hcell0 w' h' 0 (.int .i64 (kindP p)) (by
        rw [kind_at (by omega)]; rfl)
      simpa using h0
    have hc2 := HC.out
    simp only [hca] at hc2
    have HC2 := Lib.hid hc2
    have hl2 := HL.out
    have HK0 := Lib.hid hk0
    have hpl : decide (0 < p.conds.length) = true := decide_eq_true (by omega)
    have hpl2 : 0 < p.conds.length := by omega
    have hsm : sizeL p.conds ≤ 16 := s3
    have ham : p.acts.length ≤ 16 := s2
    have hcm : p.conds.length ≤ 16 := Nat.le_trans (len_size _) s3
    rw [hq1] at HSH
    generalize (shapeE p).1 = sr at HSH
    have hkn := HKN.out
    have hsz := HSZ.out
    rw [hca] at hkn hsz
    have HKN2 := Lib.hid hkn
    have HSZ2 := Lib.hid hsz
    clear hc2 hk0 hcell0 HC HKN HSZ hkn hsz hl2 hca s1 s2 s3 q1 hq1
    cases q2 : kindP p != 1 with
    | true =>
      have HQ := Lib.hid (show checkM p = (0, 9) by rw [HS1.out, if_pos (bne_iff_ne.1 q2)])
      subst hW2
      clear HKN2 HSZ2
      go_enter Try.func17, Try.ntmps17
      go_wp2_with (first | (refine wpList_load rfl (.tmp 1) 25 rfl (A := ⟨w.heap.size, 0, none⟩) rfl Try.underlying25 rfl (cs := [.string p.name, .slice p.ca p.conds.length p.cc, .slice p.aa p.acts.length p.ac]) H25.out (HL.out _ HR.out) ?_) | (go_at_call 14; refine (HSH.out).mono ?_; rintro e w1 ⟨rfl, h1⟩; replace HR := Lib.hid (HR.out.trans (h1.mono HR.out.size)); clear h1; obtain ⟨c1, c2⟩ := HC2.out _ HR.out; have ck := HK0.out _ HR.out))
      go_ret2
      exact ⟨by rw [HQ.out]; rfl, HB.out.trans (HR.out.mono HB.out.size)⟩
    | false =>
      have HS2 := Lib.hid (show checkM p = _ by rw [HS1.out, if_neg (by rw [bne_eq_false_iff_eq.1 q2]; decide)])
      clear HS1
      cases q3 : (knowsM p.conds 0 []).1 with
      | none =>
        have HQ := Lib.hid (show checkM p = ((knowsM p.conds 0 []).2, 6) by rw [HS2.out, q3])
        have hq3 : (knowsM p.conds 0 []).1.isNone = true := by rw [q3]; rfl
        subst hW2
        clear HS2 q3
        generalize knowsM p.conds 0 [] = r at HKN2 HQ hq3
        go_enter Try.func17, Try.ntmps17
        go_wp2_with (first | (refine wpList_load rfl (.tmp 1) 25 rfl (A := ⟨w.heap.size, 0, none⟩) rfl Try.underlying25 rfl (cs := [.string p.name, .slice p.ca p.conds.length p.cc, .slice p.aa p.acts.length p.ac]) H25.out (HL.out _ HR.out) ?_) | (go_at_call 14; refine (HSH.out).mono ?_; rintro e w1 ⟨rfl, h1⟩; replace HR := Lib.hid (HR.out.trans (h1.mono HR.out.size)); clear h1; obtain ⟨c1, c2⟩ := HC2.out _ HR.out; have ck := HK0.out _ HR.out) | (go_at_call 49; refine (HKN2.out _ HR.out).mono ?_; rintro e w3 hpost; obtain ⟨h3, rfl⟩ := hpost.no hq3; replace HR := Lib.hid (HR.out.trans (h3.mono HR.out.size)); clear h3))
        go_ret2
        exact ⟨by rw [HQ.out]; rfl, HB.out.trans (HR.out.mono HB.out.size)⟩
      | some kk =>
        have hkl : kk.length ≤ 10000 := by have h1 := knows_lenL p.conds 0 [] kk q3; have h2 := Hwt.out; simp at h1; omega
        have HS3 := Lib.hid (show checkM p = (if p.acts.all (ractM kk) = true then (-1, 0) else ((sizeL p.conds : Int) + ((p.acts.takeWhile (ractM kk)).length : Int), 6)) by rw [HS2.out, q3])
        have hi59 : (Try.prog.info? 59).map (·.size) = some 19 := by kernel_rfl
        have H59 := Lib.hid hi59
        have hi55 : (Try.prog.info? 55).map (·.size) = some 4 := by kernel_rfl
        have H55 := Lib.hid hi55
        have HKP : Hid (∀ w', Below W2.heap.size W2 w' → Calls Try.prog 49 #[.slice (some ⟨bb, off, none⟩) p.conds.length p.cc, .int .i64 0, .slice none 0 0] w' fun e w2 => Below w'.heap.size w' w2 ∧ ∃ a c q, e = .returned (.tuple #[.slice a kk.length c, .int .i64 q, .bool true]) ∧ EltsK encB 1 w2 a kk) := Lib.hid (fun w' hb => (HKN2.out w' hb).mono (fun e w2 hpost => by
          obtain ⟨g1, k2, a2, c2, g2, g3, g4⟩ := hpost.yes (by rw [q3]; rfl)
          rw [q3] at g2; cases g2
          exact ⟨g1, a2, c2, _, g3, g4⟩))
        subst hW2
        clear HS2 q3 HKN2 hi59 hi55 HEL
        go_enter Try.func17, Try.ntmps17
        go_wp2_with (first | (refine wpList_load rfl (.tmp 1) 25 rfl (A := ⟨w.heap.size, 0, none⟩) rfl Try.underlying25 rfl (cs := [.string p.name, .slice p.ca p.conds.length p.cc, .slice p.aa p.acts.length p.ac]) H25.out (HL.out _ HR.out) ?_) | (go_at_call 14; refine (HSH.out).mono ?_; rintro e w1 ⟨rfl, h1⟩; replace HR := Lib.hid (HR.out.trans (h1.mono HR.out.size)); clear h1; obtain ⟨c1, c2⟩ := HC2.out _ HR.out; have ck := HK0.out _ HR.out) | (go_at_call 49; refine (HKP.out _ HR.out).mono ?_; rintro e w3 ⟨h3, ka, kc, qq, rfl, hk3⟩; have HK3 := Lib.hid hk3; clear hk3; replace HR := Lib.hid (HR.out.trans (h3.mono HR.out.size)); clear h3; clear c1 c2; obtain ⟨c1, c2⟩ := HC2.out _ HR.out) | (go_at_call 43; refine (HSZ2.out _ HR.out).mono ?_; rintro e w4 ⟨rfl, rfl⟩))
        go_loopw [2, 3, 9, 10] (fun rr re i _ wr => ∃ k : Nat, k ≤ p.acts.length ∧ i = .int .i64 k ∧ rr = .int .i64 0 ∧ re = .int .i64 0 ∧ Hid (Below w3.heap.size w3 wr) ∧ (p.acts.take k).all (ractM kk) = true) (fun _ _ i _ _ => p.acts.length - (intOf i).toNat)
        case atStart => exact ⟨0, Nat.zero_le _, rfl, rfl, rfl, Lib.hid (Below.refl _ _), by simp⟩
        case round =>
          obtain ⟨k, hk, rfl, rfl, rfl, HBR, hall⟩ := hrel
          have hb23 := HR.out.trans (HBR.out.mono HR.out.size)
          obtain ⟨-, cr2⟩ := HC2.out wr hb23
          have hwr := HBR.out.size
          by_cases hlt : k < p.acts.length
          · obtain ⟨ba, offa, hab, hcell⟩ := (HAC.out _ (Below.refl _ _)).at hlt
            have hsucc := all_take_succ (ractM kk) p.acts hlt
            have hcut := fun h => all_cut (p := ractM kk) hlt h
            have htw := fun h => takeWhile_cut (p := ractM kk) hlt hall h
            have hc := hcell wr hb23
            obtain ⟨x, hx⟩ : ∃ x, x = p.acts[k] := ⟨_, rfl⟩
            rw [← hx] at hc hsucc hcut htw
            rw [hall, Bool.true_and] at hsucc
            have HCL := Lib.hid (fun (j : Nat) (v : Value) (hv : [.string x.id, .string x.at_.v, .int .i64 x.at_.s.k, .string x.at_.s.t, .int .i64 x.at_.s.n, .int .i64 x.v.op, .string x.v.l.v, .int .i64 x.v.l.s.k, .string x.v.l.s.t, .int .i64 x.v.l.s.n, .string x.v.r.v, .int .i64 x.v.r.s.k, .string x.v.r.s.t, .int .i64 x.v.r.s.n, .int .i64 x.pref, .string x.oth.v, .int .i64 x.oth.s.k, .string x.oth.s.t, .int .i64 x.oth.s.n][j]? = some v) => (by rw [Addr.add_lit]; exact hc j v hv : wr.cell? ((⟨ba, offa + k * 19, none⟩ : Addr).add j) = some v))
            obtain ⟨W5, hW5⟩ : ∃ W5, W5 = wr.alloc (.cells #[.string x.id, .string x.at_.v, .int .i64 x.at_.s.k, .string x.at_.s.t, .int .i64 x.at_.s.n, .int .i64 x.v.op, .string x.v.l.v, .int .i64 x.v.l.s.k, .string x.v.l.s.t, .int .i64 x.v.l.s.n, .string x.v.r.v, .int .i64 x.v.r.s.k, .string x.v.r.s.t, .int .i64 x.v.r.s.n, .int .i64 x.pref, .string x.oth.v, .int .i64 x.oth.s.k, .string x.oth.s.t, .int .i64 x.oth.s.n] 59) := ⟨_, rfl⟩
            have hg5 : W5.heap[wr.heap.size]? = some (.cells #[.string x.id, .string x.at_.v, .int .i64 x.at_.s.k, .string x.at_.s.t, .int .i64 x.at_.s.n, .int .i64 x.v.op, .string x.v.l.v, .int .i64 x.v.l.s.k, .string x.v.l.s.t, .int .i64 x.v.l.s.n, .string x.v.r.v, .int .i64 x.v.r.s.k, .string x.v.r.s.t, .int .i64 x.v.r.s.n, .int .i64 x.pref, .string x.oth.v, .int .i64 x.oth.s.k, .string x.oth.s.t, .int .i64 x.oth.s.n] 59 (0, 0)) := by rw [hW5]; exact new_at rfl
            have HBW5 : Hid (Below wr.heap.size wr W5) := Lib.hid (by rw [hW5]; go_grown)
            have HG5 := Lib.hid (fun w' (h : Below W5.heap.size W5 w') => (h.block _ (heap_lt hg5)).trans hg5)
            have HK5 := Lib.hid (fun w' (h : Below W5.heap.size W5 w') => HK3.out.mono ((HBR.out.trans (HBW5.out.mono hwr)).trans (h.mono (Nat.le_trans hwr HBW5.out.size))))
            have HN5 := Lib.hid (Below.refl W5.heap.size W5)
            have HS := Lib.hid hsucc
            have HCUT := Lib.hid hcut
            have HTW := Lib.hid htw
            rw [hab] at cr2
            subst hW5
            clear hsucc hcut htw hcell hc hx hall hb23 hab hg5
            cases q1 : seenM kk x.at_ with
            | false =>
              have HQ := Lib.hid (show checkM p = ((sizeL p.conds : Int) + (k : Int), 6) by have hq : ractM kk x = false := (by unfold ractM; simp [q1]); rw [HS3.out, HCUT.out hq, if_neg (by decide), HTW.out hq])
              go_wp2_with (first | (refine wpList_load rfl (.tmp 49) 59 rfl (A := ⟨ba, offa + k * 19, none⟩) rfl Try.underlying59 rfl (cs := [.string x.id, .string x.at_.v, .int .i64 x.at_.s.k, .string x.at_.s.t, .int .i64 x.at_.s.n, .int .i64 x.v.op, .string x.v.l.v, .int .i64 x.v.l.s.k, .string x.v.l.s.t, .int .i64 x.v.l.s.n, .string x.v.r.v, .int .i64 x.v.r.s.k, .string x.v.r.s.t, .int .i64 x.v.r.s.n, .int .i64 x.pref, .string x.oth.v, .int .i64 x.oth.s.k, .string x.oth.s.t, .int .i64 x.oth.s.n]) H59.out HCL.out ?_) | (refine wpList_store_new rfl (.tmp 10) (.tmp 50) 59 rfl rfl (c' := #[.string x.id, .string x.at_.v, .int .i64 x.at_.s.k, .string x.at_.s.t, .int .i64 x.at_.s.n, .int .i64 x.v.op, .string x.v.l.v, .int .i64 x.v.l.s.k, .string x.v.l.s.t, .int .i64 x.v.l.s.n, .string x.v.r.v, .int .i64 x.v.r.s.k, .string x.v.r.s.t, .int .i64 x.v.r.s.n, .int .i64 x.pref, .string x.oth.v, .int .i64 x.oth.s.k, .string x.oth.s.t, .int .i64 x.oth.s.n]) rfl H59.out rfl (by simp [Value.oneCell']) ?_) | (refine wpList_load rfl (.tmp 51) 55 rfl (A := ⟨wr.heap.size, 1, none⟩) rfl Try.underlying55 rfl (cs := [.string x.at_.v, .int .i64 x.at_.s.k, .string x.at_.s.t, .int .i64 x.at_.s.n]) H55.out (at_cells (x := x.at_) (HG5.out _ HN5.out) rfl rfl rfl rfl) ?_))
              refine (seen_any x.at_ kk ka kc _ (HK5.out _ HN5.out) hkl).mono ?_
              rintro e w6 ⟨rfl, h5⟩
              rw [q1]
              replace HN5 := Lib.hid (HN5.out.trans (h5.mono HN5.out.size))
              have k5 := cell_at' (HG5.out _ HN5.out) 5 (v := .int .i64 x.v.op) rfl
              have k6 := cell_at' (HG5.out _ HN5.out) 6 (v := .string x.v.l.v) rfl
              have k7 := cell_at' (HG5.out _ HN5.out) 7 (v := .int .i64 x.v.l.s.k) rfl
              have k8 := cell_at' (HG5.out _ HN5.out) 8 (v := .string x.v.l.s.t) rfl
              have k9 := cell_at' (HG5.out _ HN5.out) 9 (v := .int .i64 x.v.l.s.n) rfl
              clear h5
              go_wp2_with fail
              go_ret2
              exact ⟨by rw [HQ.out]; rfl, HB.out.trans ((HR.out.trans ((HBR.out.trans ((HBW5.out.trans (HN5.out.mono HBW5.out.size)).mono hwr)).mono HR.out.size)).mono HB.out.size)⟩
            | true =>
              by_cases qo : x.v.op = 0
              · have HQ := Lib.hid (show ractM kk x = true by unfold ractM; simp [q1, qo])
                have do1 : (x.v.op != 0) = false := by simpa using qo
                have QO := Lib.hid qo
                clear qo
                go_wp2_with (first | (refine wpList_load rfl (.tmp 49) 59 rfl (A := ⟨ba, offa + k * 19, none⟩) rfl Try.underlying59 rfl (cs := [.string x.id, .string x.at_.v, .int .i64 x.at_.s.k, .string x.at_.s.t, .int .i64 x.at_.s.n, .int .i64 x.v.op, .string x.v.l.v, .int .i64 x.v.l.s.k, .string x.v.l.s.t, .int .i64 x.v.l.s.n, .string x.v.r.v, .int .i64 x.v.r.s.k, .string x.v.r.s.t, .int .i64 x.v.r.s.n, .int .i64 x.pref, .string x.oth.v, .int .i64 x.oth.s.k, .string x.oth.s.t, .int .i64 x.oth.s.n]) H59.out HCL.out ?_) | (refine wpList_store_new rfl (.tmp 10) (.tmp 50) 59 rfl rfl (c' := #[.string x.id, .string x.at_.v, .int .i64 x.at_.s.k, .string x.at_.s.t, .int .i64 x.at_.s.n, .int .i64 x.v.op, .string x.v.l.v, .int .i64 x.v.l.s.k, .string x.v.l.s.t, .int .i64 x.v.l.s.n, .string x.v.r.v, .int .i64 x.v.r.s.k, .string x.v.r.s.t, .int .i64 x.v.r.s.n, .int .i64 x.pref, .string x.oth.v, .int .i64 x.oth.s.k, .string x.oth.s.t, .int .i64 x.oth.s.n]) rfl H59.out rfl (by simp [Value.oneCell']) ?_) | (refine wpList_load rfl (.tmp 51) 55 rfl (A := ⟨wr.heap.size, 1, none⟩) rfl Try.underlying55 rfl (cs := [.string x.at_.v, .int .i64 x.at_.s.k, .string x.at_.s.t, .int .i64 x.at_.s.n]) H55.out (at_cells (x := x.at_) (HG5.out _ HN5.out) rfl rfl rfl rfl) ?_))
                refine (seen_any x.at_ kk ka kc _ (HK5.out _ HN5.out) hkl).mono ?_
                rintro e w6 ⟨rfl, h5⟩
                rw [q1]
                replace HN5 := Lib.hid (HN5.out.trans (h5.mono HN5.out.size))
                have k5 := cell_at' (HG5.out _ HN5.out) 5 (v := .int .i64 x.v.op) rfl
                have k6 := cell_at' (HG5.out _ HN5.out) 6 (v := .string x.v.l.v) rfl
                have k7 := cell_at' (HG5.out _ HN5.out) 7 (v := .int .i64 x.v.l.s.k) rfl
                have k8 := cell_at' (HG5.out _ HN5.out) 8 (v := .string x.v.l.s.t) rfl
                have k9 := cell_at' (HG5.out _ HN5.out) 9 (v := .int .i64 x.v.l.s.n) rfl
                clear h5
                go_wp2_with fail
                go_roundw
                case rel => exact ⟨k + 1, by omega, by go_num, rfl, rfl, Lib.hid (HBR.out.trans ((HBW5.out.trans (HN5.out.mono HBW5.out.size)).mono hwr)), HS.out.trans HQ.out⟩
                case measure => simp [intOf]; omega
              have do1 : (x.v.op != 0) = true := by simpa using qo
              cases q2 : seenM kk x.v.l with
              | false =>
                have HQ := Lib.hid (show checkM p = ((sizeL p.conds : Int) + (k : Int), 6) by have hq : ractM kk x = false := (by unfold ractM; simp [q1, q2, qo]); rw [HS3.out, HCUT.out hq, if_neg (by decide), HTW.out hq])
                clear qo
                go_wp2_with (first | (refine wpList_load rfl (.tmp 49) 59 rfl (A := ⟨ba, offa + k * 19, none⟩) rfl Try.underlying59 rfl (cs := [.string x.id, .string x.at_.v, .int .i64 x.at_.s.k, .string x.at_.s.t, .int .i64 x.at_.s.n, .int .i64 x.v.op, .string x.v.l.v, .int .i64 x.v.l.s.k, .string x.v.l.s.t, .int .i64 x.v.l.s.n, .string x.v.r.v, .int .i64 x.v.r.s.k, .string x.v.r.s.t, .int .i64 x.v.r.s.n, .int .i64 x.pref, .string x.oth.v, .int .i64 x.oth.s.k, .string x.oth.s.t, .int .i64 x.oth.s.n]) H59.out HCL.out ?_) | (refine wpList_store_new rfl (.tmp 10) (.tmp 50) 59 rfl rfl (c' := #[.string x.id, .string x.at_.v, .int .i64 x.at_.s.k, .string x.at_.s.t, .int .i64 x.at_.s.n, .int .i64 x.v.op, .string x.v.l.v, .int .i64 x.v.l.s.k, .string x.v.l.s.t, .int .i64 x.v.l.s.n, .string x.v.r.v, .int .i64 x.v.r.s.k, .string x.v.r.s.t, .int .i64 x.v.r.s.n, .int .i64 x.pref, .string x.oth.v, .int .i64 x.oth.s.k, .string x.oth.s.t, .int .i64 x.oth.s.n]) rfl H59.out rfl (by simp [Value.oneCell']) ?_) | (refine wpList_load rfl (.tmp 51) 55 rfl (A := ⟨wr.heap.size, 1, none⟩) rfl Try.underlying55 rfl (cs := [.string x.at_.v, .int .i64 x.at_.s.k, .string x.at_.s.t, .int .i64 x.at_.s.n]) H55.out (at_cells (x := x.at_) (HG5.out _ HN5.out) rfl rfl rfl rfl) ?_))
                refine (seen_any x.at_ kk ka kc _ (HK5.out _ HN5.out) hkl).mono ?_
                rintro e w6 ⟨rfl, h5⟩
                rw [q1]
                replace HN5 := Lib.hid (HN5.out.trans (h5.mono HN5.out.size))
                have k5 := cell_at' (HG5.out _ HN5.out) 5 (v := .int .i64 x.v.op) rfl
                have k6 := cell_at' (HG5.out _ HN5.out) 6 (v := .string x.v.l.v) rfl
                have k7 := cell_at' (HG5.out _ HN5.out) 7 (v := .int .i64 x.v.l.s.k) rfl
                have k8 := cell_at' (HG5.out _ HN5.out) 8 (v := .string x.v.l.s.t) rfl
                have k9 := cell_at' (HG5.out _ HN5.out) 9 (v := .int .i64 x.v.l.s.n) rfl
                clear h5
                go_wp2_with fail
                refine (seen_any x.v.l kk ka kc _ (HK5.out _ HN5.out) hkl).mono ?_
                rintro e w7 ⟨rfl, h5⟩
                rw [q2]
                replace HN5 := Lib.hid (HN5.out.trans (h5.mono HN5.out.size))
                have k10 := cell_at' (HG5.out _ HN5.out) 10 (v := .string x.v.r.v) rfl
                have k11 := cell_at' (HG5.out _ HN5.out) 11 (v := .int .i64 x.v.r.s.k) rfl
                have k12 := cell_at' (HG5.out _ HN5.out) 12 (v := .string x.v.r.s.t) rfl
                have k13 := cell_at' (HG5.out _ HN5.out) 13 (v := .int .i64 x.v.r.s.n) rfl
                clear h5
                go_wp2_with fail
                go_ret2
                exact ⟨by rw [HQ.out]; rfl, HB.out.trans ((HR.out.trans ((HBR.out.trans ((HBW5.out.trans (HN5.out.mono HBW5.out.size)).mono hwr)).mono HR.out.size)).mono HB.out.size)⟩
              | true =>
                cases q3 : seenM kk x.v.r with
                | false =>
                  have HQ := Lib.hid (show checkM p = ((sizeL p.conds : Int) + (k : Int), 6) by have hq : ractM kk x = false := (by unfold ractM; simp [q1, q2, q3, qo]); rw [HS3.out, HCUT.out hq, if_neg (by decide), HTW.out hq])
                  clear qo
                  go_wp2_with (first | (refine wpList_load rfl (.tmp 49) 59 rfl (A := ⟨ba, offa + k * 19, none⟩) rfl Try.underlying59 rfl (cs := [.string x.id, .string x.at_.v, .int .i64 x.at_.s.k, .string x.at_.s.t, .int .i64 x.at_.s.n, .int .i64 x.v.op, .string x.v.l.v, .int .i64 x.v.l.s.k, .string x.v.l.s.t, .int .i64 x.v.l.s.n, .string x.v.r.v, .int .i64 x.v.r.s.k, .string x.v.r.s.t, .int .i64 x.v.r.s.n, .int .i64 x.pref, .string x.oth.v, .int .i64 x.oth.s.k, .string x.oth.s.t, .int .i64 x.oth.s.n]) H59.out HCL.out ?_) | (refine wpList_store_new rfl (.tmp 10) (.tmp 50) 59 rfl rfl (c' := #[.string x.id, .string x.at_.v, .int .i64 x.at_.s.k, .string x.at_.s.t, .int .i64 x.at_.s.n, .int .i64 x.v.op, .string x.v.l.v, .int .i64 x.v.l.s.k, .string x.v.l.s.t, .int .i64 x.v.l.s.n, .string x.v.r.v, .int .i64 x.v.r.s.k, .string x.v.r.s.t, .int .i64 x.v.r.s.n, .int .i64 x.pref, .string x.oth.v, .int .i64 x.oth.s.k, .string x.oth.s.t, .int .i64 x.oth.s.n]) rfl H59.out rfl (by simp [Value.oneCell']) ?_) | (refine wpList_load rfl (.tmp 51) 55 rfl (A := ⟨wr.heap.size, 1, none⟩) rfl Try.underlying55 rfl (cs := [.string x.at_.v, .int .i64 x.at_.s.k, .string x.at_.s.t, .int .i64 x.at_.s.n]) H55.out (at_cells (x := x.at_) (HG5.out _ HN5.out) rfl rfl rfl rfl) ?_))
                  refine (seen_any x.at_ kk ka kc _ (HK5.out _ HN5.out) hkl).mono ?_
                  rintro e w6 ⟨rfl, h5⟩
                  rw [q1]
                  replace HN5 := Lib.hid (HN5.out.trans (h5.mono HN5.out.size))
                  have k5 := cell_at' (HG5.out _ HN5.out) 5 (v := .int .i64 x.v.op) rfl
                  have k6 := cell_at' (HG5.out _ HN5.out) 6 (v := .string x.v.l.v) rfl
                  have k7 := cell_at' (HG5.out _ HN5.out) 7 (v := .int .i64 x.v.l.s.k) rfl
                  have k8 := cell_at' (HG5.out _ HN5.out) 8 (v := .string x.v.l.s.t) rfl
                  have k9 := cell_at' (HG5.out _ HN5.out) 9 (v := .int .i64 x.v.l.s.n) rfl
                  clear h5
                  go_wp2_with fail
                  refine (seen_any x.v.l kk ka kc _ (HK5.out _ HN5.out) hkl).mono ?_
                  rintro e w7 ⟨rfl, h5⟩
                  rw [q2]
                  replace HN5 := Lib.hid (HN5.out.trans (h5.mono HN5.out.size))
                  have k10 := cell_at' (HG5.out _ HN5.out) 10 (v := .string x.v.r.v) rfl
                  have k11 := cell_at' (HG5.out _ HN5.out) 11 (v := .int .i64 x.v.r.s.k) rfl
                  have k12 := cell_at' (HG5.out _ HN5.out) 12 (v := .string x.v.r.s.t) rfl
                  have k13 := cell_at' (HG5.out _ HN5.out) 13 (v := .int .i64 x.v.r.s.n) rfl
                  clear h5
                  go_wp2_with fail
                  refine (seen_any x.v.r kk ka kc _ (HK5.out _ HN5.out) hkl).mono ?_
                  rintro e w8 ⟨rfl, h5⟩
                  rw [q3]
                  replace HN5 := Lib.hid (HN5.out.trans (h5.mono HN5.out.size))
                  clear h5
                  go_wp2_with fail
                  go_ret2
                  exact ⟨by rw [HQ.out]; rfl, HB.out.trans ((HR.out.trans ((HBR.out.trans ((HBW5.out.trans (HN5.out.mono HBW5.out.size)).mono hwr)).mono HR.out.size)).mono HB.out.size)⟩
                | true =>
                  have HQ := Lib.hid (show ractM kk x = true by unfold ractM; simp [q1, q2, q3])
                  clear qo
                  go_wp2_with (first | (refine wpList_load rfl (.tmp 49) 59 rfl (A := ⟨ba, offa + k * 19, none⟩) rfl Try.underlying59 rfl (cs := [.string x.id, .string x.at_.v, .int .i64 x.at_.s.k, .string x.at_.s.t, .int .i64 x.at_.s.n, .int .i64 x.v.op, .string x.v.l.v, .int .i64 x.v.l.s.k, .string x.v.l.s.t, .int .i64 x.v.l.s.n, .string x.v.r.v, .int .i64 x.v.r.s.k, .string x.v.r.s.t, .int .i64 x.v.r.s.n, .int .i64 x.pref, .string x.oth.v, .int .i64 x.oth.s.k, .string x.oth.s.t, .int .i64 x.oth.s.n]) H59.out HCL.out ?_) | (refine wpList_store_new rfl (.tmp 10) (.tmp 50) 59 rfl rfl (c' := #[.string x.id, .string x.at_.v, .int .i64 x.at_.s.k, .string x.at_.s.t, .int .i64 x.at_.s.n, .int .i64 x.v.op, .string x.v.l.v, .int .i64 x.v.l.s.k, .string x.v.l.s.t, .int .i64 x.v.l.s.n, .string x.v.r.v, .int .i64 x.v.r.s.k, .string x.v.r.s.t, .int .i64 x.v.r.s.n, .int .i64 x.pref, .string x.oth.v, .int .i64 x.oth.s.k, .string x.oth.s.t, .int .i64 x.oth.s.n]) rfl H59.out rfl (by simp [Value.oneCell']) ?_) | (refine wpList_load rfl (.tmp 51) 55 rfl (A := ⟨wr.heap.size, 1, none⟩) rfl Try.underlying55 rfl (cs := [.string x.at_.v, .int .i64 x.at_.s.k, .string x.at_.s.t, .int .i64 x.at_.s.n]) H55.out (at_cells (x := x.at_) (HG5.out _ HN5.out) rfl rfl rfl rfl) ?_))
                  refine (seen_any x.at_ kk ka kc _ (HK5.out _ HN5.out) hkl).mono ?_
                  rintro e w6 ⟨rfl, h5⟩
                  rw [q1]
                  replace HN5 := Lib.hid (HN5.out.trans (h5.mono HN5.out.size))
                  have k5 := cell_at' (HG5.out _ HN5.out) 5 (v := .int .i64 x.v.op) rfl
                  have k6 := cell_at' (HG5.out _ HN5.out) 6 (v := .string x.v.l.v) rfl
                  have k7 := cell_at' (HG5.out _ HN5.out) 7 (v := .int .i64 x.v.l.s.k) rfl
                  have k8 := cell_at' (HG5.out _ HN5.out) 8 (v := .string x.v.l.s.t) rfl
                  have k9 := cell_at' (HG5.out _ HN5.out) 9 (v := .int .i64 x.v.l.s.n) rfl
                  clear h5
                  go_wp2_with fail
                  refine (seen_any x.v.l kk ka kc _ (HK5.out _ HN5.out) hkl).mono ?_
                  rintro e w7 ⟨rfl, h5⟩
                  rw [q2]
                  replace HN5 := Lib.hid (HN5.out.trans (h5.mono HN5.out.size))
                  have k10 := cell_at' (HG5.out _ HN5.out) 10 (v := .string x.v.r.v) rfl
                  have k11 := cell_at' (HG5.out _ HN5.out) 11 (v := .int .i64 x.v.r.s.k) rfl
                  have k12 := cell_at' (HG5.out _ HN5.out) 12 (v := .string x.v.r.s.t) rfl
                  have k13 := cell_at' (HG5.out _ HN5.out) 13 (v := .int .i64 x.v.r.s.n) rfl
                  clear h5
                  go_wp2_with fail
                  refine (seen_any x.v.r kk ka kc _ (HK5.out _ HN5.out) hkl).mono ?_
                  rintro e w8 ⟨rfl, h5⟩
                  rw [q3]
                  replace HN5 := Lib.hid (HN5.out.trans (h5.mono HN5.out.size))
                  clear h5
                  go_wp2_with fail
                  go_roundw
                  case rel => exact ⟨k + 1, by omega, by go_num, rfl, rfl, Lib.hid (HBR.out.trans ((HBW5.out.trans (HN5.out.mono HBW5.out.size)).mono hwr)), HS.out.trans HQ.out⟩
                  case measure => simp [intOf]; omega
          · obtain rfl : k = p.acts.length := by omega
            rw [List.take_length] at hall
            have HQ := Lib.hid (show checkM p = (-1, 0) by rw [HS3.out, if_pos hall])
            clear hall
            go_wp2_with fail
            go_ret2
            exact ⟨by rw [HQ.out]; rfl, HB.out.trans (hb23.mono HB.out.size)⟩
end Go.Proofs.Ytccphigpobnjmaa
