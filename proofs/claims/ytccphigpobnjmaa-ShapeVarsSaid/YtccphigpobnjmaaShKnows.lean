/-
  The document's own answer on what is known behind conditions, nested: the first place where something is not. No condition but bounds on sizes.
-/
import Derived.Test.YtccphigpobnjmaaShMet
import Derived.Test.YtccphigpobnjmaaShRConds
import Derived.Test.YtccphigpobnjmaaShBad
import Derived.Test.YtccphigpobnjmaaKitLoad
namespace Go.Proofs.Ytccphigpobnjmaa
set_option linter.unusedVariables false
open Go.RowKit
def knowsM : List Co → Nat → List ByteArray → Option (List ByteArray) × Int
  | [], _, k => (some k, -1)
  | .mk h m :: l, n, k => if h.kind = 3 then (if (knowsM m (n + 1) k).1.isNone = true then (none, (knowsM m (n + 1) k).2) else knowsM l (n + 1 + sizeL m) k)
    else if (metM h k).isNone = true then (none, (n : Int)) else knowsM l (n + 1 + sizeL m) (if h.kind = 1 then (metM h k).getD k else k)
theorem knowsM_step (l : List Co) {j : Nat} (hj : j < l.length) (n : Nat) (k : List ByteArray) : knowsM (l.drop j) n k = if l[j].h.kind = 3 then (if (knowsM l[j].l (n + 1) k).1.isNone = true then (none, (knowsM l[j].l (n + 1) k).2) else knowsM (l.drop (j + 1)) (n + 1 + sizeL l[j].l) k)
    else if (metM l[j].h k).isNone = true then (none, (n : Int)) else knowsM (l.drop (j + 1)) (n + 1 + sizeL l[j].l) (if l[j].h.kind = 1 then (metM l[j].h k).getD k else k) := by
  rw [List.drop_eq_getElem_cons hj]
  cases hc : l[j] with
  | mk h m => rw [knowsM]; rfl
theorem tstM_len : ∀ (ts : List Ts) (k k' : List ByteArray), tstM ts k = some k' → k'.length ≤ k.length + ts.length
  | [], k, k', h => by simp [tstM] at h; subst h; simp
  | t :: ts, k, k', h => by
    unfold tstM at h
    rw [List.length_cons]
    split at h
    · have := tstM_len ts k k' h; omega
    · split at h
      · have := tstM_len ts k k' h; omega
      · split at h
        · have := tstM_len ts _ k' h; rw [List.length_append] at this; simp at this; omega
        · cases h
theorem metM_len {h : Ch} {k k' : List ByteArray} (hm : metM h k = some k') : k'.length ≤ k.length + 1 + h.attr.length + h.value.length := by
  unfold metM at hm
  obtain ⟨k1, h1, h2⟩ := Option.bind_eq_some_iff.1 hm
  have h3 := tstM_len _ _ _ h2
  rw [List.length_append] at h3
  unfold idM at h1
  split at h1
  · cases h1; omega
  · split at h1
    · cases h1; rw [List.length_append] at h3; simp at h3; omega
    · cases h1
theorem wt_drop (l : List Co) {j : Nat} (hj : j < l.length) : wtL (l.drop j) = 1 + l[j].h.attr.length + l[j].h.value.length + wtL l[j].l + wtL (l.drop (j + 1)) := by
  rw [List.drop_eq_getElem_cons hj]
  cases hc : l[j] with
  | mk h m => simp only [wtL, Co.h, Co.l]
/-- What knows answers. -/
def KnowsPost (w : World) (r : Option (List ByteArray) × Int) (e : Ending) (w' : World) : Prop := Below w.heap.size w w' ∧ match r.1 with
  | none => e = .returned (.tuple #[.slice none 0 0, .int .i64 r.2, .bool false])
  | some k => ∃ a c, e = .returned (.tuple #[.slice a k.length c, .int .i64 r.2, .bool true]) ∧ EltsK encB 1 w' a k
theorem KnowsPost.mkNo {w w' : World} {r : Option (List ByteArray) × Int} {e : Ending} {q : Int} (hr : r = (none, q)) (hb : Below w.heap.size w w') (he : e = .returned (.tuple #[.slice none 0 0, .int .i64 q, .bool false])) : KnowsPost w r e w' := by subst hr; exact ⟨hb, he⟩
theorem KnowsPost.mkYes {w w' : World} {r : Option (List ByteArray) × Int} {e : Ending} {k : List ByteArray} {q : Int} (hr : r = (some k, q)) (hb : Below w.heap.size w w') {a : Option Addr} {c : Nat} (he : e = .returned (.tuple #[.slice a k.length c, .int .i64 q, .bool true])) (hk : EltsK encB 1 w' a k) : KnowsPost w r e w' := by subst hr; exact ⟨hb, a, c, he, hk⟩
theorem KnowsPost.no {w w' : World} {r : Option (List ByteArray) × Int} {e : Ending} (h : KnowsPost w r e w') (hr : r.1.isNone = true) : Below w.heap.size w w' ∧ e = .returned (.tuple #[.slice none 0 0, .int .i64 r.2, .bool false]) := by
  obtain ⟨r1, r2⟩ := r
  cases r1 with
  | none => exact h
  | some k => cases hr
theorem KnowsPost.yes {w w' : World} {r : Option (List ByteArray) × Int} {e : Ending} (h : KnowsPost w r e w') (hr : r.1.isNone = false) : Below w.heap.size w w' ∧ ∃ k a c, r.1 = some k ∧ e = .returned (.tuple #[.slice a k.length c, .int .i64 r.2, .bool true]) ∧ EltsK encB 1 w' a k := by
  obtain ⟨r1, r2⟩ := r
  cases r1 with
  | none => cases hr
  | some k => exact ⟨h.1, k, _, _, rfl, h.2.choose_spec.choose_spec⟩
theorem MetPost.no' {w w' : World} {r : Option (List ByteArray)} {e : Ending} (h : MetPost w r e w') (hr : r.isNone = true) : Below w.heap.size w w' ∧ e = .returned (.tuple #[.slice none 0 0, .bool false]) := by
  cases r with
  | none => exact h
  | some k => cases hr
theorem MetPost.yes' {w w' : World} {r : Option (List ByteArray)} {e : Ending} {k : List ByteArray} (h : MetPost w r e w') (hr : r = some k) : Below w.heap.size w w' ∧ ∃ a c, e = .returned (.tuple #[.slice a k.length c, .bool true]) ∧ EltsK encB 1 w' a k := by
  subst hr; exact h
def RefKnows (l : List Co) : Prop := ∀ (n : Nat) (k : List ByteArray) (a' : Option Addr) (c' : Nat) (a : Option Addr) (cap : Nat) (w : World), n + sizeL l ≤ 1000000 → k.length + wtL l ≤ 1000 → EltsK encB 1 w a' k → CondsAt w a l →
  Calls Try.prog 49 #[.slice a l.length cap, .int .i64 n, .slice a' k.length c'] w fun e w' => KnowsPost w (knowsM l n k) e w'
set_option maxRecDepth 100000 in
set_option maxHeartbeats 4000000 in
theorem refknows_step (l : List Co) (ih : ∀ m, sizeL m < sizeL l → RefKnows m) : RefKnows l := by
  intro n k ka kc a cap w hz hwt hk h
  have Hel := Lib.hid h.elts
  have Hmet := Lib.hid (fun j (hj : j < l.length) (kk : List ByteArray) (a' : Option Addr) (c' : Nat) w' (hb : Below w.heap.size w w') (hk : EltsK encB 1 w' a' kk) (h1 : kk.length ≤ 10000) (h2 : l[j].h.attr.length ≤ 1000) (h3 : l[j].h.value.length ≤ 1000) => met_any l[j].h l[j].l.length kk a' c' w' ((h.tests hj).1.mono hb) ((h.tests hj).2.mono hb) hk h1 h2 h3)
  have Hin := Lib.hid (fun j (hj : j < l.length) (n' : Nat) (kk : List ByteArray) (a' : Option Addr) (c' : Nat) w' (hb : Below w.heap.size w w') (h1 : n' + sizeL l[j].l ≤ 1000000) (h2 : kk.length + wtL l[j].l ≤ 1000) (h3 : EltsK encB 1 w' a' kk) => ih l[j].l (size_inner l hj) n' kk a' c' l[j].h.ca l[j].h.cc w' h1 h2 h3 ((h.inner hj).mono hb))
  have Hsz := Lib.hid (fun j (hj : j < l.length) w' (hb : Below w.heap.size w w') => refsize_any l[j].l (by have := size_inner l hj; omega) l[j].h.ca l[j].h.cc w' ((h.inner hj).mono hb))
  have hln := len_size l
  have hlen : l.length ≤ 1000000 := by omega
  have Hz := Lib.hid hz
  have HK := Lib.hid hk
  have Hwt := Lib.hid hwt
  have hi7 : (Try.prog.info? 64).map (·.size) = some 7 := by kernel_rfl
  have H7 := Lib.hid hi7
  clear h ih hz hln hk hwt hi7
  go_enter Try.func49, Try.ntmps49
  go_wp2_with fail
  go_loopw [1, 2, 6, 7, 8, 9, 10, 11, 12, 13, 14] (fun s kn r6 r7 r8 i _ _ _ _ _ wr => ∃ (j : Nat) (kk : List ByteArray) (a' : Option Addr) (c' : Nat), j ≤ l.length ∧ i = .int .i64 j ∧ s = .int .i64 ((n + sizeL (l.take j) : Nat) : Int) ∧ kn = .slice a' kk.length c' ∧ r6 = .slice none 0 0 ∧ r7 = .int .i64 0 ∧ r8 = .bool false ∧ Hid (EltsK encB 1 wr a' kk) ∧ kk.length + wtL (l.drop j) ≤ 1000 ∧ Hid (Below w.heap.size w wr) ∧ Hid (knowsM l n k = knowsM (l.drop j) (n + sizeL (l.take j)) kk)) (fun _ _ _ _ _ i _ _ _ _ _ _ => l.length - (intOf i).toNat)
  case atStart => exact ⟨0, k, ka, kc, Nat.zero_le _, rfl, by simp [sizeL], rfl, rfl, rfl, rfl, HK, by simpa using Hwt.out, Lib.hid (Below.refl _ _), Lib.hid (by simp [sizeL])⟩
  case round =>
    obtain ⟨j, kk, a', c', hj, rfl, rfl, rfl, rfl, rfl, rfl, HKK, hkw, HB, HRUN⟩ := hrel
    by_cases hlt : j < l.length
    · obtain ⟨b, off, rfl, hcell⟩ := Hel.out.at hlt
      have hmet := Hmet.out j hlt kk a' c'
      have hin := Hin.out j hlt
      have hsz := Hsz.out j hlt
      have hs := size_take_succ l hlt
      have hs2 := size_take_le l (j + 1)
      have hz := Hz.out
      have hwd := wt_drop l hlt
      have hst := HRUN.out.trans (knowsM_step l hlt _ kk)
      obtain ⟨x, hx⟩ : ∃ x, x = l[j] := ⟨_, rfl⟩
      rw [← hx] at hcell hmet hin hsz hs hst hwd
      have hb2 : n + sizeL (l.take j) + 1 + sizeL x.l ≤ 1000000 := by omega
      obtain ⟨p, hp⟩ : ∃ p, p = n + sizeL (l.take j) := ⟨_, rfl⟩
      have hs' : n + sizeL (l.take (j + 1)) = p + 1 + sizeL x.l := by omega
      rw [← hp] at hst hb2 ⊢
      have hc := hcell _ HB.out
      have c0 := hc 0 _ rfl
      have c6 := hc 6 _ rfl
      simp only [Nat.add_zero] at c0
      have hws := HB.out.size
      have HCELL := Lib.hid hcell
      have HMET := Lib.hid hmet
      have HIN := Lib.hid hin
      have HSZ := Lib.hid hsz
      have HS := Lib.hid hs'
      have HST := Lib.hid hst
      have hl1 : kk.length ≤ 10000 := by omega
      have hl2 : x.h.attr.length ≤ 1000 := by omega
      have hl3 : x.h.value.length ≤ 1000 := by omega
      have hl4 : kk.length + wtL x.l ≤ 1000 := by omega
      have hm : sizeL x.l ≤ 1000000 := by omega
      have hp9 : p ≤ 1000000 := by omega
      have hcl : ∀ (j2 : Nat) (v : Value), [.int .i64 x.h.kind, .bool x.h.goal, .string x.h.id, .slice x.h.aa x.h.attr.length x.h.ac, .slice x.h.va x.h.value.length x.h.vc, .bool x.h.acc, .slice x.h.ca x.l.length x.h.cc][j2]? = some v → wr.cell? ((⟨b, off + j * 7, none⟩ : Addr).add j2) = some v := fun j2 v hv => by rw [Addr.add_lit]; exact hc j2 v hv
      have HCL := Lib.hid hcl
      have HKW := Lib.hid hkw
      have HWD := Lib.hid hwd
      clear hx hc hcell hin hs hs2 hz hst hmet hsz HRUN hp hs' hcl hkw hwd
      by_cases q3 : x.h.kind = 3
      · have HST2 := Lib.hid (show knowsM l n k = _ by rw [HST.out, if_pos q3])
        rw [q3] at c0
        cases q4 : (knowsM x.l (p + 1) kk).1.isNone with
        | true =>
          have HQ := Lib.hid (show knowsM l n k = (none, (knowsM x.l (p + 1) kk).2) by rw [HST2.out, if_pos q4])
          have HI := Lib.hid (HIN.out (p + 1) kk a' c' wr HB.out (by omega) hl4 HKK.out)
          clear HMET HST HST2 HIN HWD HCL q3
          generalize knowsM x.l (p + 1) kk = r at HI HQ q4
          go_wp2_with (go_at_call 49; refine (HI.out).mono ?_; rintro e w2 hpost; obtain ⟨h2, rfl⟩ := hpost.no q4)
          go_ret3
          exact KnowsPost.mkNo HQ.out (HB.out.trans (h2.mono hws)) rfl
        | false =>
          have HQ := Lib.hid (show knowsM l n k = knowsM (l.drop (j + 1)) (p + 1 + sizeL x.l) kk by rw [HST2.out, if_neg (by rw [q4]; decide)])
          have HI := Lib.hid (HIN.out (p + 1) kk a' c' wr HB.out (by omega) hl4 HKK.out)
          have HKW2 := Lib.hid (show kk.length + wtL (l.drop (j + 1)) ≤ 1000 by have := HKW.out; have := HWD.out; omega)
          have HN := Lib.hid (show n + sizeL (l.take (j + 1)) = p + (1 + sizeL x.l) by rw [HS.out]; omega)
          have HQ2 := Lib.hid (show knowsM l n k = knowsM (l.drop (j + 1)) (n + sizeL (l.take (j + 1))) kk by rw [HQ.out, HS.out])
          clear HMET HST HST2 HIN HWD HCL q3 HKW HQ HS hb2
          generalize knowsM x.l (p + 1) kk = r at HI q4
          generalize sizeL x.l = m at HSZ HN hm
          go_wp2_with (first | (go_at_call 49; refine (HI.out).mono ?_; rintro e w2 hpost; obtain ⟨h2, k2, a2, c2, -, rfl, -⟩ := hpost.yes q4; have H2 := Lib.hid (HB.out.trans (h2.mono hws)); have HK2 := Lib.hid (HKK.out.mono h2); clear h2; have e6 := HCELL.out _ H2.out 6 _ rfl) | (go_at_call 43; refine (HSZ.out _ H2.out).mono ?_; rintro e w4 ⟨rfl, rfl⟩))
          go_roundw
          case rel => exact ⟨j + 1, kk, a', c', by omega, by go_num, by rw [HN.out]; go_num, rfl, rfl, rfl, rfl, HK2, HKW2.out, H2, HQ2⟩
          case measure => simp [intOf]; omega
      · have HST2 := Lib.hid (show knowsM l n k = _ by rw [HST.out, if_neg q3])
        have d3 : (x.h.kind == 3) = false := by simpa using q3
        have hnk : ¬ x.h.kind = 3 := q3
        clear q3 HIN HST
        cases q4 : (metM x.h kk).isNone with
        | true =>
          have HQ := Lib.hid (show knowsM l n k = (none, (p : Int)) by rw [HST2.out, if_pos q4])
          have HI := Lib.hid (HMET.out wr HB.out HKK.out hl1 hl2 hl3)
          clear HMET HST2 HWD
          generalize metM x.h kk = r at HI HQ q4
          go_wp2_with (first | (refine wpList_load rfl (.tmp 46) 64 rfl (A := ⟨b, off + j * 7, none⟩) rfl Try.underlying64 rfl (cs := [.int .i64 x.h.kind, .bool x.h.goal, .string x.h.id, .slice x.h.aa x.h.attr.length x.h.ac, .slice x.h.va x.h.value.length x.h.vc, .bool x.h.acc, .slice x.h.ca x.l.length x.h.cc]) H7.out HCL.out ?_) | (go_at_call 78; refine (HI.out).mono ?_; rintro e w2 hpost; obtain ⟨h2, rfl⟩ := hpost.no' q4))
          go_ret3
          exact KnowsPost.mkNo HQ.out (HB.out.trans (h2.mono hws)) rfl
        | false =>
          obtain ⟨k2, hk2⟩ : ∃ k2, metM x.h kk = some k2 := by
            cases hq : metM x.h kk with
            | none => rw [hq] at q4; cases q4
            | some k2 => exact ⟨k2, rfl⟩
          have hml := metM_len hk2
          have HI := Lib.hid (HMET.out wr HB.out HKK.out hl1 hl2 hl3)
          rw [hk2] at HI
          have HQ := Lib.hid (show knowsM l n k = knowsM (l.drop (j + 1)) (p + 1 + sizeL x.l) (if x.h.kind = 1 then k2 else kk) by rw [HST2.out, if_neg (by rw [q4]; decide), hk2]; rfl)
          have HKW2 := Lib.hid (show k2.length + wtL (l.drop (j + 1)) ≤ 1000 ∧ kk.length + wtL (l.drop (j + 1)) ≤ 1000 by have := HKW.out; have := HWD.out; omega)
          have HN := Lib.hid (show n + sizeL (l.take (j + 1)) = p + (1 + sizeL x.l) by rw [HS.out]; omega)
          have HQ2 := Lib.hid (show knowsM l n k = knowsM (l.drop (j + 1)) (n + sizeL (l.take (j + 1))) (if x.h.kind = 1 then k2 else kk) by rw [HQ.out, HS.out])
          clear HMET HST2 HWD HKW HQ HS hb2 q4 hk2 hml
          by_cases q1 : x.h.kind = 1
          · have HQ3 := Lib.hid (show knowsM l n k = knowsM (l.drop (j + 1)) (n + sizeL (l.take (j + 1))) k2 by rw [HQ2.out, if_pos q1])
            have d1 : (x.h.kind == 1) = true := by simpa using q1
            have Q1 := Lib.hid q1
            clear q1 HQ2
            generalize sizeL x.l = m at HSZ HN hm
            go_wp2_with (first | (refine wpList_load rfl (.tmp 46) 64 rfl (A := ⟨b, off + j * 7, none⟩) rfl Try.underlying64 rfl (cs := [.int .i64 x.h.kind, .bool x.h.goal, .string x.h.id, .slice x.h.aa x.h.attr.length x.h.ac, .slice x.h.va x.h.value.length x.h.vc, .bool x.h.acc, .slice x.h.ca x.l.length x.h.cc]) H7.out HCL.out ?_) | (go_at_call 78; refine (HI.out).mono ?_; rintro e w2 hpost; obtain ⟨h2, a2, c2, rfl, hk3⟩ := hpost.yes' rfl; have H2 := Lib.hid (HB.out.trans (h2.mono hws)); have HK2 := Lib.hid (HKK.out.mono h2); have HK3 := Lib.hid hk3; clear h2 hk3 hpost; have e0 := HCELL.out _ H2.out 0 _ rfl; have e6 := HCELL.out _ H2.out 6 _ rfl; simp only [Nat.add_zero] at e0) | (go_at_call 43; refine (HSZ.out _ H2.out).mono ?_; rintro e w4 ⟨rfl, rfl⟩))
            go_roundw
            case rel => exact ⟨j + 1, k2, a2, c2, by omega, by go_num, by rw [HN.out]; go_num, rfl, rfl, rfl, rfl, HK3, HKW2.out.1, H2, HQ3⟩
            case measure => simp [intOf]; omega
          · have HQ3 := Lib.hid (show knowsM l n k = knowsM (l.drop (j + 1)) (n + sizeL (l.take (j + 1))) kk by rw [HQ2.out, if_neg q1])
            have d1 : (x.h.kind == 1) = false := by simpa using q1
            clear HQ2
            generalize sizeL x.l = m at HSZ HN hm
            go_wp2_with (first | (refine wpList_load rfl (.tmp 46) 64 rfl (A := ⟨b, off + j * 7, none⟩) rfl Try.underlying64 rfl (cs := [.int .i64 x.h.kind, .bool x.h.goal, .string x.h.id, .slice x.h.aa x.h.attr.length x.h.ac, .slice x.h.va x.h.value.length x.h.vc, .bool x.h.acc, .slice x.h.ca x.l.length x.h.cc]) H7.out HCL.out ?_) | (go_at_call 78; refine (HI.out).mono ?_; rintro e w2 hpost; obtain ⟨h2, a2, c2, rfl, hk3⟩ := hpost.yes' rfl; have H2 := Lib.hid (HB.out.trans (h2.mono hws)); have HK2 := Lib.hid (HKK.out.mono h2); have HK3 := Lib.hid hk3; clear h2 hk3 hpost; have e0 := HCELL.out _ H2.out 0 _ rfl; have e6 := HCELL.out _ H2.out 6 _ rfl; simp only [Nat.add_zero] at e0) | (go_at_call 43; refine (HSZ.out _ H2.out).mono ?_; rintro e w4 ⟨rfl, rfl⟩))
            go_roundw
            case rel => exact ⟨j + 1, kk, a', c', by omega, by go_num, by rw [HN.out]; go_num, rfl, rfl, rfl, rfl, HK2, HKW2.out.2, H2, HQ3⟩
            case measure => simp [intOf]; omega
    · obtain rfl : j = l.length := by omega
      have HQ := Lib.hid (show knowsM l n k = (some kk, -1) by rw [HRUN.out, List.drop_length]; simp [knowsM])
      clear HRUN
      go_wp2_with fail
      go_ret3
      exact KnowsPost.mkYes HQ.out HB.out rfl HKK.out
theorem refknows_any (l : List Co) : RefKnows l := by
  have key : ∀ n, ∀ l : List Co, sizeL l ≤ n → RefKnows l := by
    intro n
    induction n with
    | zero => exact fun l h => refknows_step l (fun m hm => by omega)
    | succ n ih => exact fun l h => refknows_step l (fun m hm => ih m (by omega))
  exact key _ l (Nat.le_refl _)
end Go.Proofs.Ytccphigpobnjmaa
