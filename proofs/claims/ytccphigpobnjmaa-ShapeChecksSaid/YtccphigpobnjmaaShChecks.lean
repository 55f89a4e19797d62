/-
  ShapeChecks, walked whatever production came in. No condition.
-/
import Derived.Test.YtccphigpobnjmaaShCopyP
import Derived.Deep.RegionHeld3
import Derived.Test.YtccphigpobnjmaaKitLoad
import Derived.Test.YtccphigpobnjmaaShRCheck
import Derived.Test.YtccphigpobnjmaaShWakes
namespace Go.Proofs.Ytccphigpobnjmaa
set_option linter.unusedVariables false
open Go.RowKit
set_option maxRecDepth 100000 in
set_option maxHeartbeats 8000000 in
theorem syms_same (l : List Sy) (a b : Option Addr) (c d : Nat) (w : World) (ha : EltsK encS 3 w a l) (hb : EltsK encS 3 w b l) (hl : l.length ≤ 1000000000) :
    Calls Try.prog 27 #[.slice a l.length c, .slice b l.length d] w fun e w' => e = .returned (.bool true) ∧ Below w.heap.size w w' := by
  have HA := Lib.hid ha
  have HB := Lib.hid hb
  clear ha hb
  go_enter Try.func27, Try.ntmps27
  go_wp2_with fail
  go_loopw [4, 5] (fun r i wr => ∃ k : Nat, k ≤ l.length ∧ i = .int .i64 k ∧ r = .bool false ∧ Hid (Below w.heap.size w wr)) (fun _ i _ => l.length - (intOf i).toNat)
  case atStart => exact ⟨0, Nat.zero_le _, rfl, rfl, Lib.hid (Below.refl _ _)⟩
  case round =>
    obtain ⟨k, hk, rfl, rfl, HR⟩ := hrel
    by_cases hlt : k < l.length
    · obtain ⟨b1, o1, rfl, hc1⟩ := HA.out.at hlt
      obtain ⟨b2, o2, rfl, hc2⟩ := HB.out.at hlt
      generalize l[k] = x at hc1 hc2
      have x0 := hc1 wr HR.out 0 _ rfl
      have y0 := hc2 wr HR.out 0 _ rfl
      have x1 := hc1 wr HR.out 1 _ rfl
      have y1 := hc2 wr HR.out 1 _ rfl
      have x2 := hc1 wr HR.out 2 _ rfl
      have y2 := hc2 wr HR.out 2 _ rfl
      have HR2 : Hid (∀ n, Below w.heap.size w (wr.drewN n)) := Lib.hid (fun n => bdN n HR.out)
      rw [Nat.add_zero] at x0 y0
      clear hc1 hc2
      go_wp2_with fail
      go_quiet (fail)
      go_wp2_with fail
      go_roundw
      case rel => exact ⟨k + 1, by omega, by go_num, rfl, Lib.hid (HR2.out _)⟩
      case measure => simp [intOf]; omega
    · obtain rfl : k = l.length := by omega
      go_wp2_with fail
      go_ret
      exact ⟨rfl, HR.out⟩
theorem bare_ts {x y : Ts} (h : y.bare = x.bare) : y = ⟨x.rel, x.var, x.s, x.list, y.a, y.cap⟩ := by
  obtain ⟨r, v, s, l, a, c⟩ := y
  simp only [Ts.bare, Ts.mk.injEq, and_true] at h
  obtain ⟨rfl, rfl, rfl, rfl⟩ := h
  rfl
set_option maxRecDepth 100000 in
set_option maxHeartbeats 8000000 in
theorem tests_same (l m : List Ts) (a b : Option Addr) (c d : Nat) (w : World) (he : m.map Ts.bare = l.map Ts.bare) (ha : TestsAt w a l) (hb : TestsAt w b m) (hl : l.length ≤ 1000000) :
    Calls Try.prog 82 #[.slice a l.length c, .slice b m.length d] w fun e w' => e = .returned (.bool true) ∧ Below w.heap.size w w' := by
  have hn : m.length = l.length := by simpa using congrArg List.length he
  rw [hn]
  have HA := Lib.hid ha
  have HB := Lib.hid hb
  have HE := Lib.hid he
  have HN := Lib.hid hn
  clear ha hb he hn
  go_enter Try.func82, Try.ntmps82
  go_wp2_with fail
  go_loopw [4, 5] (fun r i wr => ∃ k : Nat, k ≤ l.length ∧ i = .int .i64 k ∧ r = .bool false ∧ Hid (Below w.heap.size w wr)) (fun _ i _ => l.length - (intOf i).toNat)
  case atStart => exact ⟨0, Nat.zero_le _, rfl, rfl, Lib.hid (Below.refl _ _)⟩
  case round =>
    obtain ⟨k, hk, rfl, rfl, HR⟩ := hrel
    by_cases hlt : k < l.length
    · have hlt2 : k < m.length := by have := HN.out; omega
      obtain ⟨b1, o1, rfl, hc1⟩ := HA.out.1.at hlt
      obtain ⟨b2, o2, rfl, hc2⟩ := HB.out.1.at hlt2
      have hla := HA.out.2 l[k] (List.getElem_mem hlt)
      have hlb := HB.out.2 m[k] (List.getElem_mem hlt2)
      have hbe : m[k].bare = l[k].bare := by
        have h1 : (m.map Ts.bare)[k]? = (l.map Ts.bare)[k]? := by rw [HE.out]
        simpa [List.getElem?_map, List.getElem?_eq_getElem hlt, List.getElem?_eq_getElem hlt2] using h1
      obtain ⟨x, hx⟩ : ∃ x, x = l[k] := ⟨_, rfl⟩
      obtain ⟨y, hy⟩ : ∃ y, y = m[k] := ⟨_, rfl⟩
      rw [← hx] at hc1 hla hbe
      rw [← hy] at hc2 hlb hbe
      have hye := bare_ts hbe
      obtain ⟨ya, hya⟩ : ∃ ya, ya = y.a := ⟨_, rfl⟩
      obtain ⟨yc, hyc⟩ : ∃ yc, yc = y.cap := ⟨_, rfl⟩
      rw [← hya, ← hyc] at hye
      subst hye
      simp only at hlb
      have HC := Lib.hid (fun w' (h : Below wr.heap.size wr w') => (⟨hc1 w' (HR.out.trans (h.mono HR.out.size)) 0 _ rfl, hc1 w' (HR.out.trans (h.mono HR.out.size)) 1 _ rfl, hc1 w' (HR.out.trans (h.mono HR.out.size)) 2 _ rfl, hc1 w' (HR.out.trans (h.mono HR.out.size)) 3 _ rfl, hc1 w' (HR.out.trans (h.mono HR.out.size)) 4 _ rfl, hc1 w' (HR.out.trans (h.mono HR.out.size)) 5 _ rfl, hc2 w' (HR.out.trans (h.mono HR.out.size)) 0 _ rfl, hc2 w' (HR.out.trans (h.mono HR.out.size)) 1 _ rfl, hc2 w' (HR.out.trans (h.mono HR.out.size)) 2 _ rfl, hc2 w' (HR.out.trans (h.mono HR.out.size)) 3 _ rfl, hc2 w' (HR.out.trans (h.mono HR.out.size)) 4 _ rfl, hc2 w' (HR.out.trans (h.mono HR.out.size)) 5 _ rfl⟩ : w'.cell? ⟨b1, o1 + k * 6, none⟩ = some (.int .i64 x.rel) ∧ w'.cell? ⟨b1, o1 + k * 6 + 1, none⟩ = some (.string x.var) ∧ w'.cell? ⟨b1, o1 + k * 6 + 2, none⟩ = some (.int .i64 x.s.k) ∧ w'.cell? ⟨b1, o1 + k * 6 + 3, none⟩ = some (.string x.s.t) ∧ w'.cell? ⟨b1, o1 + k * 6 + 4, none⟩ = some (.int .i64 x.s.n) ∧ w'.cell? ⟨b1, o1 + k * 6 + 5, none⟩ = some (.slice x.a x.list.length x.cap) ∧ w'.cell? ⟨b2, o2 + k * 6, none⟩ = some (.int .i64 x.rel) ∧ w'.cell? ⟨b2, o2 + k * 6 + 1, none⟩ = some (.string x.var) ∧ w'.cell? ⟨b2, o2 + k * 6 + 2, none⟩ = some (.int .i64 x.s.k) ∧ w'.cell? ⟨b2, o2 + k * 6 + 3, none⟩ = some (.string x.s.t) ∧ w'.cell? ⟨b2, o2 + k * 6 + 4, none⟩ = some (.int .i64 x.s.n) ∧ w'.cell? ⟨b2, o2 + k * 6 + 5, none⟩ = some (.slice ya x.list.length yc)))
      have HSY := Lib.hid (fun w' (h : Below wr.heap.size wr w') => syms_same x.list x.a ya x.cap yc w' (hla.1.mono (HR.out.trans (h.mono HR.out.size))) (hlb.1.mono (HR.out.trans (h.mono HR.out.size))) hla.2)
      have hcur : Hid (Below wr.heap.size wr wr.drew) := Lib.hid (Below.refl _ _).drew
      have HRS := Lib.hid HR.out.size
      clear hx hy hc1 hc2 hla hlb hbe hya hyc HA HB HE
      go_wp2_with fail
      go_region_held3 (fun w' => w'.cell? ⟨b1, o1 + k * 6, none⟩ = some (.int .i64 x.rel) ∧ w'.cell? ⟨b1, o1 + k * 6 + 1, none⟩ = some (.string x.var) ∧ w'.cell? ⟨b1, o1 + k * 6 + 2, none⟩ = some (.int .i64 x.s.k) ∧ w'.cell? ⟨b1, o1 + k * 6 + 3, none⟩ = some (.string x.s.t) ∧ w'.cell? ⟨b1, o1 + k * 6 + 4, none⟩ = some (.int .i64 x.s.n) ∧ w'.cell? ⟨b1, o1 + k * 6 + 5, none⟩ = some (.slice x.a x.list.length x.cap) ∧ w'.cell? ⟨b2, o2 + k * 6, none⟩ = some (.int .i64 x.rel) ∧ w'.cell? ⟨b2, o2 + k * 6 + 1, none⟩ = some (.string x.var) ∧ w'.cell? ⟨b2, o2 + k * 6 + 2, none⟩ = some (.int .i64 x.s.k) ∧ w'.cell? ⟨b2, o2 + k * 6 + 3, none⟩ = some (.string x.s.t) ∧ w'.cell? ⟨b2, o2 + k * 6 + 4, none⟩ = some (.int .i64 x.s.n) ∧ w'.cell? ⟨b2, o2 + k * 6 + 5, none⟩ = some (.slice ya x.list.length yc))
        (first | exact HC.out _ hcur.out | go_keep)
        (first | (go_at_call 27; (with_reducible refine (HSY.out _ hcur.out).mono ?_); rintro e wb ⟨rfl, hb⟩; replace hcur : Hid (Below wr.heap.size wr wb) := Lib.hid (hcur.out.trans (hb.mono hcur.out.size)); clear hb))
      all_goals
        go_wp2_with fail
        go_roundw
        case rel => exact ⟨k + 1, by omega, by go_num, rfl, Lib.hid (HR.out.trans (hcur.out.mono HRS.out))⟩
        case measure => simp [intOf]; omega
    · obtain rfl : k = l.length := by omega
      go_wp2_with fail
      go_ret
      exact ⟨rfl, HR.out⟩
open Go.RowKit
theorem quiet_load {P : Program} {ops : Array Oper} {C : World → Prop} {Q : Act → Prop} {a : Act} {o : Oper} {rest : List Oper} (hg : o.guard = none) (p : Operand) (t : TypeId) (ho : o.op = .load t p) {A : Addr} (hv : a.eval p = .pointer (some A)) {fs : Array Field} (hu : P.underlying t = some (.struct fs)) {cs : List Value} (hi : (P.info? t).map (·.size) = some cs.length)
    (hc : ∀ w, C w → ∀ j v, cs[j]? = some v → w.cell? (A.add j) = some v) (h : wpQuiet P ops C Q rest (a.put o.dst (.agg cs.toArray))) : wpQuiet P ops C Q (o :: rest) a := by
  refine wpQuiet_step (fun K hK => ?_)
  rw [if_pos (by simp [Region.wanted, hg])]
  refine ⟨.agg cs.toArray, fun w hw => ?_, hK _ h⟩
  have hl := run_loadVar_cells w A t cs _ hu rfl hi (hc w hw)
  unfold Oper.quietAt execOp
  simp only [ho, hv, Instr.loadAt, Instr.sureAddr, Sem.run_bind, Sem.run_pure, Result.andThen_ok, hl]
  exact ⟨rfl, rfl⟩
theorem quiet_same {P : Program} {ops : Array Oper} {C : World → Prop} {Q : Act → Prop} {a : Act} {o : Oper} {rest : List Oper} (hg : o.guard = none) (x y : Operand) (t t2 : TypeId) (ho : o.op = .binOp .neq t x y t2) {v : Value} (hx : a.eval x = v) (hy : a.eval y = v) (hq : ∀ w, (eqGuard .neq t x y v v).run P w = .ok () w) (hr : ∀ w, (binOp .neq t v v).run P w = .ok (.bool false) w)
    (h : wpQuiet P ops C Q rest (a.put o.dst (.bool false))) : wpQuiet P ops C Q (o :: rest) a := by
  refine wpQuiet_step (fun K hK => ?_)
  rw [if_pos (by simp [Region.wanted, hg])]
  refine ⟨.bool false, fun w hw => ?_, hK _ h⟩
  unfold Oper.quietAt execOp
  simp only [ho, hx, hy, Sem.run_bind, Sem.run_pure, Result.andThen_ok, hq, hr]
  exact ⟨rfl, rfl⟩
theorem guardAct (p q : Operand) (c d : Array Value) (w : World) : (eqGuard .neq 59 p q (.agg c) (.agg d)).run Try.prog w = .ok () w := by
  have h : Try.prog.eqGuardType Try.prog.depth 59 = false := by kernel_rfl
  simp [eqGuard, go_sem, h]
theorem neAct (x : Ac) (w : World) : (binOp .neq 59 (.agg #[.string x.id, .string x.at_.v, .int .i64 x.at_.s.k, .string x.at_.s.t, .int .i64 x.at_.s.n, .int .i64 x.v.op, .string x.v.l.v, .int .i64 x.v.l.s.k, .string x.v.l.s.t, .int .i64 x.v.l.s.n, .string x.v.r.v, .int .i64 x.v.r.s.k, .string x.v.r.s.t, .int .i64 x.v.r.s.n, .int .i64 x.pref, .string x.oth.v, .int .i64 x.oth.s.k, .string x.oth.s.t, .int .i64 x.oth.s.n]) (.agg #[.string x.id, .string x.at_.v, .int .i64 x.at_.s.k, .string x.at_.s.t, .int .i64 x.at_.s.n, .int .i64 x.v.op, .string x.v.l.v, .int .i64 x.v.l.s.k, .string x.v.l.s.t, .int .i64 x.v.l.s.n, .string x.v.r.v, .int .i64 x.v.r.s.k, .string x.v.r.s.t, .int .i64 x.v.r.s.n, .int .i64 x.pref, .string x.oth.v, .int .i64 x.oth.s.k, .string x.oth.s.t, .int .i64 x.oth.s.n])).run Try.prog w = .ok (.bool false) w := by
  simp [go_sem]
set_option maxRecDepth 100000 in
set_option maxHeartbeats 8000000 in
theorem acts_same (l : List Ac) (a b : Option Addr) (c d : Nat) (w : World) (ha : EltsK encA 19 w a l) (hb : EltsK encA 19 w b l) (hl : l.length ≤ 1000000000) :
    Calls Try.prog 51 #[.slice a l.length c, .slice b l.length d] w fun e w' => e = .returned (.bool true) ∧ Below w.heap.size w w' := by
  have hi19 : (Try.prog.info? 59).map (·.size) = some 19 := by kernel_rfl
  have H19 := Lib.hid hi19
  clear hi19
  have HA := Lib.hid ha
  have HB := Lib.hid hb
  clear ha hb
  go_enter Try.func51, Try.ntmps51
  go_wp2_with fail
  go_loopw [4, 5] (fun r i wr => ∃ k : Nat, k ≤ l.length ∧ i = .int .i64 k ∧ r = .bool false ∧ Hid (Below w.heap.size w wr)) (fun _ i _ => l.length - (intOf i).toNat)
  case atStart => exact ⟨0, Nat.zero_le _, rfl, rfl, Lib.hid (Below.refl _ _)⟩
  case round =>
    obtain ⟨k, hk, rfl, rfl, HR⟩ := hrel
    by_cases hlt : k < l.length
    · obtain ⟨b1, o1, rfl, hc1⟩ := HA.out.at hlt
      obtain ⟨b2, o2, rfl, hc2⟩ := HB.out.at hlt
      generalize l[k] = x at hc1 hc2
      have HR2 : Hid (∀ n, Below w.heap.size w (wr.drewN n)) := Lib.hid (fun n => bdN n HR.out)
      have HC1 := Lib.hid (fun w' (h : ∃ n, w' = wr.drewN n) (j : Nat) (v : Value) (hv : [.string x.id, .string x.at_.v, .int .i64 x.at_.s.k, .string x.at_.s.t, .int .i64 x.at_.s.n, .int .i64 x.v.op, .string x.v.l.v, .int .i64 x.v.l.s.k, .string x.v.l.s.t, .int .i64 x.v.l.s.n, .string x.v.r.v, .int .i64 x.v.r.s.k, .string x.v.r.s.t, .int .i64 x.v.r.s.n, .int .i64 x.pref, .string x.oth.v, .int .i64 x.oth.s.k, .string x.oth.s.t, .int .i64 x.oth.s.n][j]? = some v) => (by obtain ⟨n, rfl⟩ := h; rw [Addr.add_lit]; exact hc1 _ (HR2.out n) j v hv : w'.cell? ((⟨b1, o1 + k * 19, none⟩ : Addr).add j) = some v))
      have HC2 := Lib.hid (fun w' (h : ∃ n, w' = wr.drewN n) (j : Nat) (v : Value) (hv : [.string x.id, .string x.at_.v, .int .i64 x.at_.s.k, .string x.at_.s.t, .int .i64 x.at_.s.n, .int .i64 x.v.op, .string x.v.l.v, .int .i64 x.v.l.s.k, .string x.v.l.s.t, .int .i64 x.v.l.s.n, .string x.v.r.v, .int .i64 x.v.r.s.k, .string x.v.r.s.t, .int .i64 x.v.r.s.n, .int .i64 x.pref, .string x.oth.v, .int .i64 x.oth.s.k, .string x.oth.s.t, .int .i64 x.oth.s.n][j]? = some v) => (by obtain ⟨n, rfl⟩ := h; rw [Addr.add_lit]; exact hc2 _ (HR2.out n) j v hv : w'.cell? ((⟨b2, o2 + k * 19, none⟩ : Addr).add j) = some v))
      clear hc1 hc2 HA HB
      go_wp2_with fail
      refine wp_region_quiet_lit (by kernel_rfl) (by kernel_rfl) ?_
      iterate 3 (quiet_step (fail))
      refine quiet_load rfl (.tmp 19) 59 rfl (A := ⟨b1, o1 + k * 19, none⟩) rfl Try.underlying59 (cs := [.string x.id, .string x.at_.v, .int .i64 x.at_.s.k, .string x.at_.s.t, .int .i64 x.at_.s.n, .int .i64 x.v.op, .string x.v.l.v, .int .i64 x.v.l.s.k, .string x.v.l.s.t, .int .i64 x.v.l.s.n, .string x.v.r.v, .int .i64 x.v.r.s.k, .string x.v.r.s.t, .int .i64 x.v.r.s.n, .int .i64 x.pref, .string x.oth.v, .int .i64 x.oth.s.k, .string x.oth.s.t, .int .i64 x.oth.s.n]) H19.out HC1.out ?_
      iterate 3 (quiet_step (fail))
      refine quiet_load rfl (.tmp 23) 59 rfl (A := ⟨b2, o2 + k * 19, none⟩) rfl Try.underlying59 (cs := [.string x.id, .string x.at_.v, .int .i64 x.at_.s.k, .string x.at_.s.t, .int .i64 x.at_.s.n, .int .i64 x.v.op, .string x.v.l.v, .int .i64 x.v.l.s.k, .string x.v.l.s.t, .int .i64 x.v.l.s.n, .string x.v.r.v, .int .i64 x.v.r.s.k, .string x.v.r.s.t, .int .i64 x.v.r.s.n, .int .i64 x.pref, .string x.oth.v, .int .i64 x.oth.s.k, .string x.oth.s.t, .int .i64 x.oth.s.n]) H19.out HC2.out ?_
      refine quiet_same rfl (.tmp 20) (.tmp 24) 59 59 rfl (v := .agg #[.string x.id, .string x.at_.v, .int .i64 x.at_.s.k, .string x.at_.s.t, .int .i64 x.at_.s.n, .int .i64 x.v.op, .string x.v.l.v, .int .i64 x.v.l.s.k, .string x.v.l.s.t, .int .i64 x.v.l.s.n, .string x.v.r.v, .int .i64 x.v.r.s.k, .string x.v.r.s.t, .int .i64 x.v.r.s.n, .int .i64 x.pref, .string x.oth.v, .int .i64 x.oth.s.k, .string x.oth.s.t, .int .i64 x.oth.s.n]) rfl rfl (fun w => guardAct _ _ _ _ w) (neAct x) ?_
      refine wpQuiet_nil ?_
      intro w9 hw9
      obtain ⟨nq, rfl⟩ := hw9
      go_wp2_with fail
      go_roundw
      case rel => exact ⟨k + 1, by omega, by go_num, rfl, Lib.hid (HR2.out _)⟩
      case measure => simp [intOf]; omega
    · obtain rfl : k = l.length := by omega
      go_wp2_with fail
      go_ret
      exact ⟨rfl, HR.out⟩
open Go.RowKit
theorem bare_get : ∀ (l m : List Co), bareL m = bareL l → ∀ k (h : k < l.length) (h2 : k < m.length), bareL [m[k]] = bareL [l[k]]
  | [], m, _, k, h, _ => by simp at h
  | .mk h1 l1 :: l, [], he, k, _, h2 => by simp at h2
  | .mk h1 l1 :: l, .mk h2 l2 :: m, he, 0, _, _ => by
    simp only [bareL, List.cons.injEq] at he
    simp only [List.getElem_cons_zero, bareL, he.1]
  | .mk h1 l1 :: l, .mk h2 l2 :: m, he, k + 1, hk, hk2 => by
    simp only [bareL, List.cons.injEq] at he
    exact bare_get l m he.2 k (by simpa using hk) (by simpa using hk2)
def SameC (l : List Co) : Prop := ∀ (m : List Co) (a b : Option Addr) (c d : Nat) (w : World), bareL m = bareL l → sizeL l ≤ 1000 → wtL l ≤ 1000 → CondsAt w a l → CondsAt w b m →
  Calls Try.prog 25 #[.slice a l.length c, .slice b m.length d] w fun e w' => e = .returned (.bool true) ∧ Below w.heap.size w w'
set_option maxRecDepth 100000 in
set_option maxHeartbeats 8000000 in
theorem cond_same (x y : Co) (w : World) (ih : SameC x.l) (he : bareL [y] = bareL [x]) (hz : sizeL x.l ≤ 1000) (hw : wtL x.l ≤ 1000) (h1 : x.h.attr.length ≤ 1000) (h2 : x.h.value.length ≤ 1000)
    (ha : TestsAt w x.h.aa x.h.attr) (hv : TestsAt w x.h.va x.h.value) (hc : CondsAt w x.h.ca x.l) (ha' : TestsAt w y.h.aa y.h.attr) (hv' : TestsAt w y.h.va y.h.value) (hc' : CondsAt w y.h.ca y.l) :
    Calls Try.prog 54 #[.agg #[.int .i64 x.h.kind, .bool x.h.goal, .string x.h.id, .slice x.h.aa x.h.attr.length x.h.ac, .slice x.h.va x.h.value.length x.h.vc, .bool x.h.acc, .slice x.h.ca x.l.length x.h.cc], .agg #[.int .i64 y.h.kind, .bool y.h.goal, .string y.h.id, .slice y.h.aa y.h.attr.length y.h.ac, .slice y.h.va y.h.value.length y.h.vc, .bool y.h.acc, .slice y.h.ca y.l.length y.h.cc]] w fun e w' => e = .returned (.bool true) ∧ Below w.heap.size w w' := by
  obtain ⟨⟨k2, g2, i2, at2, aa2, ac2, vl2, va2, vc2, cc2, ca2, cp2⟩, l2⟩ := y
  simp only [Co.h, Co.l] at ha' hv' hc' ⊢
  obtain ⟨hk, hg, hi, hac, hat, hvl, hl⟩ : k2 = x.h.kind ∧ g2 = x.h.goal ∧ i2 = x.h.id ∧ cc2 = x.h.acc ∧ at2.map Ts.bare = x.h.attr.map Ts.bare ∧ vl2.map Ts.bare = x.h.value.map Ts.bare ∧ bareL l2 = bareL x.l := by
    obtain ⟨h, m⟩ := x
    simp only [bareL, Ch.bare, List.cons.injEq, Co.mk.injEq, Ch.mk.injEq, and_true, true_and] at he
    simp only [Co.h, Co.l]
    obtain ⟨⟨e1, e2, e3, e4, e5, e6⟩, e7⟩ := he
    exact ⟨e1, e2, e3, e6, e4, e5, e7⟩
  subst hk hg hi hac
  obtain ⟨W2, hW2⟩ : ∃ W2, W2 = (w.alloc (.cells #[.int .i64 x.h.kind, .bool x.h.goal, .string x.h.id, .slice x.h.aa x.h.attr.length x.h.ac, .slice x.h.va x.h.value.length x.h.vc, .bool x.h.acc, .slice x.h.ca x.l.length x.h.cc] 64)).alloc (.cells #[.int .i64 x.h.kind, .bool x.h.goal, .string x.h.id, .slice aa2 at2.length ac2, .slice va2 vl2.length vc2, .bool x.h.acc, .slice ca2 l2.length cp2] 64) := ⟨_, rfl⟩
  have hB : Below w.heap.size w W2 := by rw [hW2]; go_grown
  have hg1 : W2.heap[w.heap.size]? = some (.cells #[.int .i64 x.h.kind, .bool x.h.goal, .string x.h.id, .slice x.h.aa x.h.attr.length x.h.ac, .slice x.h.va x.h.value.length x.h.vc, .bool x.h.acc, .slice x.h.ca x.l.length x.h.cc] 64 (0, 0)) := by rw [hW2]; exact (Below.heap_alloc _ _ _ (by simp)).trans (new_at rfl)
  have hg2 : W2.heap[w.heap.size + 1]? = some (.cells #[.int .i64 x.h.kind, .bool x.h.goal, .string x.h.id, .slice aa2 at2.length ac2, .slice va2 vl2.length vc2, .bool x.h.acc, .slice ca2 l2.length cp2] 64 (0, 0)) := by rw [hW2]; exact new_at (by simp)
  have HC := Lib.hid (fun w' (h : Below W2.heap.size W2 w') => (⟨cell_at' ((h.block _ (heap_lt hg1)).trans hg1) 0 rfl, cell_at' ((h.block _ (heap_lt hg1)).trans hg1) 1 rfl, cell_at' ((h.block _ (heap_lt hg1)).trans hg1) 2 rfl, cell_at' ((h.block _ (heap_lt hg1)).trans hg1) 3 rfl, cell_at' ((h.block _ (heap_lt hg1)).trans hg1) 4 rfl, cell_at' ((h.block _ (heap_lt hg1)).trans hg1) 5 rfl, cell_at' ((h.block _ (heap_lt hg1)).trans hg1) 6 rfl, cell_at' ((h.block _ (heap_lt hg2)).trans hg2) 0 rfl, cell_at' ((h.block _ (heap_lt hg2)).trans hg2) 1 rfl, cell_at' ((h.block _ (heap_lt hg2)).trans hg2) 2 rfl, cell_at' ((h.block _ (heap_lt hg2)).trans hg2) 3 rfl, cell_at' ((h.block _ (heap_lt hg2)).trans hg2) 4 rfl, cell_at' ((h.block _ (heap_lt hg2)).trans hg2) 5 rfl, cell_at' ((h.block _ (heap_lt hg2)).trans hg2) 6 rfl⟩ : w'.cell? ⟨w.heap.size, 0, none⟩ = some (.int .i64 x.h.kind) ∧ w'.cell? ⟨w.heap.size, 1, none⟩ = some (.bool x.h.goal) ∧ w'.cell? ⟨w.heap.size, 2, none⟩ = some (.string x.h.id) ∧ w'.cell? ⟨w.heap.size, 3, none⟩ = some (.slice x.h.aa x.h.attr.length x.h.ac) ∧ w'.cell? ⟨w.heap.size, 4, none⟩ = some (.slice x.h.va x.h.value.length x.h.vc) ∧ w'.cell? ⟨w.heap.size, 5, none⟩ = some (.bool x.h.acc) ∧ w'.cell? ⟨w.heap.size, 6, none⟩ = some (.slice x.h.ca x.l.length x.h.cc) ∧ w'.cell? ⟨w.heap.size + 1, 0, none⟩ = some (.int .i64 x.h.kind) ∧ w'.cell? ⟨w.heap.size + 1, 1, none⟩ = some (.bool x.h.goal) ∧ w'.cell? ⟨w.heap.size + 1, 2, none⟩ = some (.string x.h.id) ∧ w'.cell? ⟨w.heap.size + 1, 3, none⟩ = some (.slice aa2 at2.length ac2) ∧ w'.cell? ⟨w.heap.size + 1, 4, none⟩ = some (.slice va2 vl2.length vc2) ∧ w'.cell? ⟨w.heap.size + 1, 5, none⟩ = some (.bool x.h.acc) ∧ w'.cell? ⟨w.heap.size + 1, 6, none⟩ = some (.slice ca2 l2.length cp2)))
  have HT := Lib.hid (fun w' (h : Below W2.heap.size W2 w') => tests_same x.h.attr at2 x.h.aa aa2 x.h.ac ac2 w' hat (ha.mono (hB.trans (h.mono hB.size))) (ha'.mono (hB.trans (h.mono hB.size))) (by omega))
  have HV := Lib.hid (fun w' (h : Below W2.heap.size W2 w') => tests_same x.h.value vl2 x.h.va va2 x.h.vc vc2 w' hvl (hv.mono (hB.trans (h.mono hB.size))) (hv'.mono (hB.trans (h.mono hB.size))) (by omega))
  have HI := Lib.hid (fun w' (h : Below W2.heap.size W2 w') => ih l2 x.h.ca ca2 x.h.cc cp2 w' hl hz hw (hc.mono (hB.trans (h.mono hB.size))) (hc'.mono (hB.trans (h.mono hB.size))))
  have HB := Lib.hid hB
  have HR := Lib.hid (Below.refl W2.heap.size W2)
  obtain ⟨b0, b1, b2, b3, b4, b5, b6, d0, d1, d2, d3, d4, d5, d6⟩ := HC.out W2 (Below.refl _ _)
  clear hB hg1 hg2 ha hv hc ha' hv' hc' ih hat hvl hl hz hw he
  subst hW2
  go_enter Try.func54, Try.ntmps54
  go_wp2_with fail
  refine (HT.out _ HR.out).mono ?_
  rintro e w3 ⟨rfl, hb⟩
  replace HR := Lib.hid (HR.out.trans (hb.mono HR.out.size))
  clear hb
  try clear b0
  try clear b1
  try clear b2
  try clear b3
  try clear b4
  try clear b5
  try clear b6
  try clear d0
  try clear d1
  try clear d2
  try clear d3
  try clear d4
  try clear d5
  try clear d6
  obtain ⟨b0, b1, b2, b3, b4, b5, b6, d0, d1, d2, d3, d4, d5, d6⟩ := HC.out _ HR.out
  go_wp2_with fail
  refine (HV.out _ HR.out).mono ?_
  rintro e w4 ⟨rfl, hb⟩
  replace HR := Lib.hid (HR.out.trans (hb.mono HR.out.size))
  clear hb
  try clear b0
  try clear b1
  try clear b2
  try clear b3
  try clear b4
  try clear b5
  try clear b6
  try clear d0
  try clear d1
  try clear d2
  try clear d3
  try clear d4
  try clear d5
  try clear d6
  obtain ⟨b0, b1, b2, b3, b4, b5, b6, d0, d1, d2, d3, d4, d5, d6⟩ := HC.out _ HR.out
  go_wp2_with fail
  refine (HI.out _ HR.out).mono ?_
  rintro e w5 ⟨rfl, hb⟩
  replace HR := Lib.hid (HR.out.trans (hb.mono HR.out.size))
  clear hb
  go_wp2_with fail
  go_ret
  exact ⟨rfl, HB.out.trans (HR.out.mono HB.out.size)⟩
set_option maxRecDepth 100000 in
set_option maxHeartbeats 8000000 in
theorem same_step (l : List Co) (ih : ∀ m, sizeL m < sizeL l → SameC m) : SameC l := by
  intro m a b c d w he hz hw hl hm
  have hn : m.length = l.length := by have := congrArg List.length he; rwa [bare_len, bare_len] at this
  rw [hn]
  have hln := len_size l
  have hlen : l.length ≤ 1000 := by omega
  have HA := Lib.hid hl.elts
  have HB := Lib.hid hm.elts
  have HN := Lib.hid hn
  have HCO := Lib.hid (fun k (h1 : k < l.length) (h2 : k < m.length) w' (hb : Below w.heap.size w w') => cond_same l[k] m[k] w' (ih l[k].l (size_inner l h1)) (bare_get l m he k h1 h2) (by have := size_inner l h1; omega) (by have := wt_take_succ l h1; have := wt_take_le l (k + 1); omega) (by have := wt_take_succ l h1; have := wt_take_le l (k + 1); omega) (by have := wt_take_succ l h1; have := wt_take_le l (k + 1); omega) ((hl.tests h1).1.mono hb) ((hl.tests h1).2.mono hb) ((hl.inner h1).mono hb) ((hm.tests h2).1.mono hb) ((hm.tests h2).2.mono hb) ((hm.inner h2).mono hb))
  clear he hz hw hl hm hn ih hln
  go_enter Try.func25, Try.ntmps25
  go_wp2_with fail
  go_loopw [4, 5] (fun r i wr => ∃ k : Nat, k ≤ l.length ∧ i = .int .i64 k ∧ r = .bool false ∧ Hid (Below w.heap.size w wr)) (fun _ i _ => l.length - (intOf i).toNat)
  case atStart => exact ⟨0, Nat.zero_le _, rfl, rfl, Lib.hid (Below.refl _ _)⟩
  case round =>
    obtain ⟨k, hk, rfl, rfl, HR⟩ := hrel
    by_cases hlt : k < l.length
    · have hlt2 : k < m.length := by have := HN.out; omega
      obtain ⟨b1, o1, rfl, hc1⟩ := HA.out.at hlt
      obtain ⟨b2, o2, rfl, hc2⟩ := HB.out.at hlt2
      have hco := HCO.out k hlt hlt2
      obtain ⟨x, hx⟩ : ∃ x, x = l[k] := ⟨_, rfl⟩
      obtain ⟨y, hy⟩ : ∃ y, y = m[k] := ⟨_, rfl⟩
      rw [← hx] at hc1 hco
      rw [← hy] at hc2 hco
      have HC := Lib.hid (fun w' (h : Below wr.heap.size wr w') => (⟨hc1 w' (HR.out.trans (h.mono HR.out.size)) 0 _ rfl, hc1 w' (HR.out.trans (h.mono HR.out.size)) 1 _ rfl, hc1 w' (HR.out.trans (h.mono HR.out.size)) 2 _ rfl, hc1 w' (HR.out.trans (h.mono HR.out.size)) 3 _ rfl, hc1 w' (HR.out.trans (h.mono HR.out.size)) 4 _ rfl, hc1 w' (HR.out.trans (h.mono HR.out.size)) 5 _ rfl, hc1 w' (HR.out.trans (h.mono HR.out.size)) 6 _ rfl, hc2 w' (HR.out.trans (h.mono HR.out.size)) 0 _ rfl, hc2 w' (HR.out.trans (h.mono HR.out.size)) 1 _ rfl, hc2 w' (HR.out.trans (h.mono HR.out.size)) 2 _ rfl, hc2 w' (HR.out.trans (h.mono HR.out.size)) 3 _ rfl, hc2 w' (HR.out.trans (h.mono HR.out.size)) 4 _ rfl, hc2 w' (HR.out.trans (h.mono HR.out.size)) 5 _ rfl, hc2 w' (HR.out.trans (h.mono HR.out.size)) 6 _ rfl⟩ : w'.cell? ⟨b1, o1 + k * 7, none⟩ = some (.int .i64 x.h.kind) ∧ w'.cell? ⟨b1, o1 + k * 7 + 1, none⟩ = some (.bool x.h.goal) ∧ w'.cell? ⟨b1, o1 + k * 7 + 2, none⟩ = some (.string x.h.id) ∧ w'.cell? ⟨b1, o1 + k * 7 + 3, none⟩ = some (.slice x.h.aa x.h.attr.length x.h.ac) ∧ w'.cell? ⟨b1, o1 + k * 7 + 4, none⟩ = some (.slice x.h.va x.h.value.length x.h.vc) ∧ w'.cell? ⟨b1, o1 + k * 7 + 5, none⟩ = some (.bool x.h.acc) ∧ w'.cell? ⟨b1, o1 + k * 7 + 6, none⟩ = some (.slice x.h.ca x.l.length x.h.cc) ∧ w'.cell? ⟨b2, o2 + k * 7, none⟩ = some (.int .i64 y.h.kind) ∧ w'.cell? ⟨b2, o2 + k * 7 + 1, none⟩ = some (.bool y.h.goal) ∧ w'.cell? ⟨b2, o2 + k * 7 + 2, none⟩ = some (.string y.h.id) ∧ w'.cell? ⟨b2, o2 + k * 7 + 3, none⟩ = some (.slice y.h.aa y.h.attr.length y.h.ac) ∧ w'.cell? ⟨b2, o2 + k * 7 + 4, none⟩ = some (.slice y.h.va y.h.value.length y.h.vc) ∧ w'.cell? ⟨b2, o2 + k * 7 + 5, none⟩ = some (.bool y.h.acc) ∧ w'.cell? ⟨b2, o2 + k * 7 + 6, none⟩ = some (.slice y.h.ca y.l.length y.h.cc)))
      have HCQ := Lib.hid (fun w' (h : Below wr.heap.size wr w') => hco w' (HR.out.trans (h.mono HR.out.size)))
      have hcur : Hid (Below wr.heap.size wr wr.drew) := Lib.hid (Below.refl _ _).drew
      have HRS := Lib.hid HR.out.size
      clear hx hy hc1 hc2 hco HA HB HCO
      go_wp2_with fail
      go_region_held3 (fun w' => w'.cell? ⟨b1, o1 + k * 7, none⟩ = some (.int .i64 x.h.kind) ∧ w'.cell? ⟨b1, o1 + k * 7 + 1, none⟩ = some (.bool x.h.goal) ∧ w'.cell? ⟨b1, o1 + k * 7 + 2, none⟩ = some (.string x.h.id) ∧ w'.cell? ⟨b1, o1 + k * 7 + 3, none⟩ = some (.slice x.h.aa x.h.attr.length x.h.ac) ∧ w'.cell? ⟨b1, o1 + k * 7 + 4, none⟩ = some (.slice x.h.va x.h.value.length x.h.vc) ∧ w'.cell? ⟨b1, o1 + k * 7 + 5, none⟩ = some (.bool x.h.acc) ∧ w'.cell? ⟨b1, o1 + k * 7 + 6, none⟩ = some (.slice x.h.ca x.l.length x.h.cc) ∧ w'.cell? ⟨b2, o2 + k * 7, none⟩ = some (.int .i64 y.h.kind) ∧ w'.cell? ⟨b2, o2 + k * 7 + 1, none⟩ = some (.bool y.h.goal) ∧ w'.cell? ⟨b2, o2 + k * 7 + 2, none⟩ = some (.string y.h.id) ∧ w'.cell? ⟨b2, o2 + k * 7 + 3, none⟩ = some (.slice y.h.aa y.h.attr.length y.h.ac) ∧ w'.cell? ⟨b2, o2 + k * 7 + 4, none⟩ = some (.slice y.h.va y.h.value.length y.h.vc) ∧ w'.cell? ⟨b2, o2 + k * 7 + 5, none⟩ = some (.bool y.h.acc) ∧ w'.cell? ⟨b2, o2 + k * 7 + 6, none⟩ = some (.slice y.h.ca y.l.length y.h.cc))
        (first | exact HC.out _ hcur.out | go_keep)
        (first | (go_at_call 54; (with_reducible refine (HCQ.out _ hcur.out).mono ?_); rintro e wb ⟨rfl, hb⟩; replace hcur : Hid (Below wr.heap.size wr wb) := Lib.hid (hcur.out.trans (hb.mono hcur.out.size)); clear hb))
      all_goals
        go_wp2_with fail
        go_roundw
        case rel => exact ⟨k + 1, by omega, by go_num, rfl, Lib.hid (HR.out.trans (hcur.out.mono HRS.out))⟩
        case measure => simp [intOf]; omega
    · obtain rfl : k = l.length := by omega
      go_wp2_with fail
      go_ret
      exact ⟨rfl, HR.out⟩
theorem conds_same (l : List Co) : SameC l := by
  have key : ∀ n, ∀ l : List Co, sizeL l ≤ n → SameC l := by
    intro n
    induction n with
    | zero => exact fun l h => same_step l (fun m hm => by omega)
    | succ n ih => exact fun l h => same_step l (fun m hm => ih m (by omega))
  exact key _ l (Nat.le_refl _)
open Go.RowKit
theorem W_new' (w : World) (c : Array Value) (t : TypeId) : (w.alloc (.cells c t)).heap[w.heap.size]? = some (.cells c t (0, 0)) := new_at rfl
set_option maxRecDepth 100000 in
set_option maxHeartbeats 4000000 in
theorem prod_same (p r : Pr) (w : World) (he : r.bare = p.bare) (hz : sizeL p.conds ≤ 1000) (hw : wtL p.conds ≤ 1000) (ha : p.acts.length ≤ 1000) (hp : PrAt w p) (hr : PrAt w r) :
    Calls Try.prog 18 #[.agg #[.string p.name, .slice p.ca p.conds.length p.cc, .slice p.aa p.acts.length p.ac], .agg #[.string r.name, .slice r.ca r.conds.length r.cc, .slice r.aa r.acts.length r.ac]] w fun e w' => e = .returned (.bool true) ∧ Below w.heap.size w w' := by
  obtain ⟨n2, cs2, ca2, cc2, ac2, aa2, cp2⟩ := r
  obtain ⟨hn, hc, hac⟩ : n2 = p.name ∧ bareL cs2 = bareL p.conds ∧ ac2 = p.acts := by
    simp only [Pr.bare, Pr.mk.injEq, and_true, true_and] at he
    exact ⟨he.1, he.2.1, he.2.2⟩
  subst hn hac
  have hrc := hr.conds
  have hra := hr.acts
  simp only at hrc hra ⊢
  obtain ⟨W2, hW2⟩ : ∃ W2, W2 = (w.alloc (.cells #[.string p.name, .slice p.ca p.conds.length p.cc, .slice p.aa p.acts.length p.ac] 25)).alloc (.cells #[.string p.name, .slice ca2 cs2.length cc2, .slice aa2 p.acts.length cp2] 25) := ⟨_, rfl⟩
  have hB : Below w.heap.size w W2 := by rw [hW2]; go_grown
  have hg1 : W2.heap[w.heap.size]? = some (.cells #[.string p.name, .slice p.ca p.conds.length p.cc, .slice p.aa p.acts.length p.ac] 25 (0, 0)) := by rw [hW2]; exact (Below.heap_alloc _ _ _ (by simp)).trans (new_at rfl)
  have hg2 : W2.heap[w.heap.size + 1]? = some (.cells #[.string p.name, .slice ca2 cs2.length cc2, .slice aa2 p.acts.length cp2] 25 (0, 0)) := by rw [hW2]; exact new_at (by simp)
  have HC := Lib.hid (fun w' (h : Below W2.heap.size W2 w') => (⟨cell_at' ((h.block _ (heap_lt hg1)).trans hg1) 2 rfl, cell_at' ((h.block _ (heap_lt hg2)).trans hg2) 2 rfl⟩ : w'.cell? ⟨w.heap.size, 2, none⟩ = some (.slice p.aa p.acts.length p.ac) ∧ w'.cell? ⟨w.heap.size + 1, 2, none⟩ = some (.slice aa2 p.acts.length cp2)))
  have HS := Lib.hid (conds_same p.conds cs2 p.ca ca2 p.cc cc2 W2 hc hz hw (hp.conds.mono hB) (hrc.mono hB))
  have HA := Lib.hid (fun w' (h : Below W2.heap.size W2 w') => acts_same p.acts p.aa aa2 p.ac cp2 w' (hp.acts.mono (hB.trans (h.mono hB.size))) (hra.mono (hB.trans (h.mono hB.size))) (by omega))
  have HB := Lib.hid hB
  have HR := Lib.hid (Below.refl W2.heap.size W2)
  clear hB hg1 hg2 hp hr hrc hra hc hz hw ha he
  subst hW2
  go_enter Try.func18, Try.ntmps18
  go_wp2_with fail
  refine HS.out.mono ?_
  rintro e w3 ⟨rfl, hb⟩
  replace HR := Lib.hid (HR.out.trans (hb.mono HR.out.size))
  clear hb
  obtain ⟨c2, d2⟩ := HC.out _ HR.out
  go_wp2_with fail
  refine (HA.out _ HR.out).mono ?_
  rintro e w4 ⟨rfl, hb⟩
  replace HR := Lib.hid (HR.out.trans (hb.mono HR.out.size))
  clear hb
  go_wp2_with fail
  go_ret
  exact ⟨rfl, HB.out.trans (HR.out.mono HB.out.size)⟩
theorem heavyC_wt : ∀ l : List Co, heavyC l = false → wtL l ≤ 21 * sizeL l
  | [], _ => by simp [wtL]
  | .mk h m :: l, hn => by
    simp only [heavyC, heavyH, Bool.or_eq_false_iff, decide_eq_false_iff_not] at hn
    have h1 := heavyC_wt m hn.1.2
    have h2 := heavyC_wt l hn.2
    have h3 := hn.1.1.1.1.2
    have h4 := hn.1.1.1.1.1.2
    simp only [wtL, sizeL]; omega
theorem same_sizes {p r : Pr} (h : r.bare = p.bare) : sizeL r.conds = sizeL p.conds ∧ wtL r.conds = wtL p.conds := by
  have hc : bareL r.conds = bareL p.conds := by have := congrArg Pr.conds h; exact this
  exact ⟨by rw [← bare_size, hc, bare_size], by rw [← bare_wt, hc, bare_wt]⟩
set_option maxRecDepth 100000 in
set_option maxHeartbeats 8000000 in
theorem checks_walk (w : World) (p : Pr) (hp : PrIn w p) : Calls Try.prog 4 #[.agg #[.string p.name, .slice p.ca p.conds.length p.cc, .slice p.aa p.acts.length p.ac]] w fun e w' => e = .returned (.bool true) ∧ Below w.heap.size w w' := by
  obtain ⟨W2, hW2⟩ : ∃ W2, W2 = w.alloc (.cells #[.string p.name, .slice p.ca p.conds.length p.cc, .slice p.aa p.acts.length p.ac] 25) := ⟨_, rfl⟩
  have hB : Below w.heap.size w W2 := by rw [hW2]; go_grown
  have hgp : W2.heap[w.heap.size]? = some (.cells #[.string p.name, .slice p.ca p.conds.length p.cc, .slice p.aa p.acts.length p.ac] 25 (0, 0)) := by rw [hW2]; exact new_at rfl
  have HL := Lib.hid (fun w' (h : Below W2.heap.size W2 w') (j : Nat) (v : Value) (hv : [.string p.name, .slice p.ca p.conds.length p.cc, .slice p.aa p.acts.length p.ac][j]? = some v) => (by rw [Addr.add_lit, Nat.zero_add, cells_of ((h.block _ (heap_lt hgp)).trans hgp)]; simpa using hv : w'.cell? ((⟨w.heap.size, 0, none⟩ : Addr).add j) = some v))
  have HC := Lib.hid (fun w' (h : Below W2.heap.size W2 w') => (⟨cell_at' ((h.block _ (heap_lt hgp)).trans hgp) 0 (v := .string p.name) rfl, cell_at' ((h.block _ (heap_lt hgp)).trans hgp) 1 (v := .slice p.ca p.conds.length p.cc) rfl, cell_at' ((h.block _ (heap_lt hgp)).trans hgp) 2 (v := .slice p.aa p.acts.length p.ac) rfl⟩ : w'.cell? ⟨w.heap.size, 0, none⟩ = some (.string p.name) ∧ w'.cell? ⟨w.heap.size, 1, none⟩ = some (.slice p.ca p.conds.length p.cc) ∧ w'.cell? ⟨w.heap.size, 2, none⟩ = some (.slice p.aa p.acts.length p.ac)))
  have hi25 : (Try.prog.info? 25).map (·.size) = some 3 := by kernel_rfl
  have H25 := Lib.hid hi25
  have HBW := Lib.hid hB
  have HB := Lib.hid (Below.refl W2.heap.size W2)
  have HH := Lib.hid (fun w' (hb : Below W2.heap.size W2 w') => heavy_any p w' ((hp.mono hB).mono hb))
  have HP := Lib.hid (fun w' (hb : Below W2.heap.size W2 w') (hn : heavyP p = false) => ((hp.mono hB).mono hb).light hn)
  have HWK := Lib.hid (fun w' => wakes_any w')
  clear hi25 hB hgp hp
  cases q : heavyP p with
  | true =>
    clear HP HC
    subst hW2
    go_enter Try.func4, Try.ntmps4
    go_wp2_with (refine wpList_load rfl (.tmp 1) 25 rfl (A := ⟨w.heap.size, 0, none⟩) rfl Try.underlying25 rfl (cs := [.string p.name, .slice p.ca p.conds.length p.cc, .slice p.aa p.acts.length p.ac]) H25.out (HL.out _ HB.out) ?_)
    refine (HH.out _ HB.out).mono ?_
    rintro e wz ⟨rfl, hh⟩
    replace HB := Lib.hid (HB.out.trans (hh.mono HB.out.size))
    clear hh
    rw [q]
    go_wp2_with fail
    refine (HWK.out _).mono ?_
    rintro e wz ⟨rfl, hh⟩
    replace HB := Lib.hid (HB.out.trans (hh.mono HB.out.size))
    clear hh
    go_wp2_with fail
    go_ret
    exact ⟨rfl, HBW.out.trans (HB.out.mono HBW.out.size)⟩
  | false =>
    have hno := heavyP_no q
    have hwt : wtL p.conds ≤ 900 := by have := heavyC_wt p.conds hno.2.2; omega
    have hsz : sizeL p.conds ≤ 900 := by have := hno.1; omega
    have hac : p.acts.length ≤ 900 := by have := hno.2.1; omega
    have HCP := Lib.hid (fun w' (hb : Below W2.heap.size W2 w') => copy_prod p w' (by omega) (by omega) (by omega) (HP.out w' hb q))
    have HRC := Lib.hid (fun w' (hb : Below W2.heap.size W2 w') => rcheck_any p w' hsz hwt hac (HP.out w' hb q))
    have HPP := Lib.hid (fun w' (hb : Below W2.heap.size W2 w') => HP.out w' hb q)
    rw [(check_rel p).1] at HRC
    clear HP hno
    subst hW2
    go_enter Try.func4, Try.ntmps4
    go_wp2_with (refine wpList_load rfl (.tmp 1) 25 rfl (A := ⟨w.heap.size, 0, none⟩) rfl Try.underlying25 rfl (cs := [.string p.name, .slice p.ca p.conds.length p.cc, .slice p.aa p.acts.length p.ac]) H25.out (HL.out _ HB.out) ?_)
    refine (HH.out _ HB.out).mono ?_
    rintro e wz ⟨rfl, hh⟩
    replace HB := Lib.hid (HB.out.trans (hh.mono HB.out.size))
    clear hh
    rw [q]
    go_wp2_with (refine wpList_load rfl (.tmp 1) 25 rfl (A := ⟨w.heap.size, 0, none⟩) rfl Try.underlying25 rfl (cs := [.string p.name, .slice p.ca p.conds.length p.cc, .slice p.aa p.acts.length p.ac]) H25.out (HL.out _ HB.out) ?_)
    refine (HCP.out _ HB.out).mono ?_
    rintro e w2 ⟨r, rfl, hbe, hpr, hh⟩
    replace HB := Lib.hid (HB.out.trans (hh.mono HB.out.size))
    clear hh
    obtain ⟨hs1, hs2⟩ := same_sizes hbe
    have hce := check_same hbe
    have hgr := W_new' w2 #[.string r.name, .slice r.ca r.conds.length r.cc, .slice r.aa r.acts.length r.ac] 25
    have HB3 := Lib.hid (HB.out.alloc HB.out.size (.cells #[.string r.name, .slice r.ca r.conds.length r.cc, .slice r.aa r.acts.length r.ac] 25))
    have HQB := Lib.hid (Below.refl (w2.alloc (.cells #[.string r.name, .slice r.ca r.conds.length r.cc, .slice r.aa r.acts.length r.ac] 25)).heap.size (w2.alloc (.cells #[.string r.name, .slice r.ca r.conds.length r.cc, .slice r.aa r.acts.length r.ac] 25)))
    have hbn : Below w2.heap.size w2 (w2.alloc (.cells #[.string r.name, .slice r.ca r.conds.length r.cc, .slice r.aa r.acts.length r.ac] 25)) := by go_grown
    have HPR := Lib.hid (fun w' (h : Below (w2.alloc (.cells #[.string r.name, .slice r.ca r.conds.length r.cc, .slice r.aa r.acts.length r.ac] 25)).heap.size (w2.alloc (.cells #[.string r.name, .slice r.ca r.conds.length r.cc, .slice r.aa r.acts.length r.ac] 25)) w') => (hpr.mono hbn).mono h)
    have HCK := Lib.hid (Check_any r (w2.alloc (.cells #[.string r.name, .slice r.ca r.conds.length r.cc, .slice r.aa r.acts.length r.ac] 25)) (by omega) (by omega) (hpr.mono hbn))
    rw [hce] at HCK
    have HGR := Lib.hid (fun w' (h : Below (w2.alloc (.cells #[.string r.name, .slice r.ca r.conds.length r.cc, .slice r.aa r.acts.length r.ac] 25)).heap.size (w2.alloc (.cells #[.string r.name, .slice r.ca r.conds.length r.cc, .slice r.aa r.acts.length r.ac] 25)) w') => (⟨cell_at' ((h.block _ (heap_lt hgr)).trans hgr) 0 (v := .string r.name) rfl, cell_at' ((h.block _ (heap_lt hgr)).trans hgr) 1 (v := .slice r.ca r.conds.length r.cc) rfl, cell_at' ((h.block _ (heap_lt hgr)).trans hgr) 2 (v := .slice r.aa r.acts.length r.ac) rfl⟩ : w'.cell? ⟨w2.heap.size, 0, none⟩ = some (.string r.name) ∧ w'.cell? ⟨w2.heap.size, 1, none⟩ = some (.slice r.ca r.conds.length r.cc) ∧ w'.cell? ⟨w2.heap.size, 2, none⟩ = some (.slice r.aa r.acts.length r.ac)))
    have HLQ := Lib.hid (cells_fn hgr)
    have HSM := Lib.hid (fun w' (h1 : PrAt w' p) (h2 : PrAt w' r) => prod_same p r w' hbe (by omega) (by omega) (by omega) h1 h2)
    generalize checkE p = ck at HCK HRC
    clear hgr hbn hpr hce hbe hs1 hs2 hwt hsz hac
    go_wp2_with (first | (refine wpList_store_new rfl (.tmp 3) (.tmp 12) 25 rfl rfl (c' := #[.string r.name, .slice r.ca r.conds.length r.cc, .slice r.aa r.acts.length r.ac]) rfl H25.out rfl (by simp [Value.oneCell']) ?_) | (refine wpList_load rfl (.tmp 3) 25 rfl (A := ⟨w2.heap.size, 0, none⟩) rfl Try.underlying25 rfl (cs := [.string r.name, .slice r.ca r.conds.length r.cc, .slice r.aa r.acts.length r.ac]) H25.out HLQ.out ?_))
    refine HCK.out.mono ?_
    rintro e w4 ⟨rfl, hh⟩
    replace HQB := Lib.hid (HQB.out.trans (hh.mono HQB.out.size))
    replace HB := Lib.hid (HB3.out.trans (hh.mono HB3.out.size))
    clear hh
    go_wp2_with (refine wpList_load rfl (.tmp 1) 25 rfl (A := ⟨w.heap.size, 0, none⟩) rfl Try.underlying25 rfl (cs := [.string p.name, .slice p.ca p.conds.length p.cc, .slice p.aa p.acts.length p.ac]) H25.out (HL.out _ HB.out) ?_)
    refine (HRC.out _ HB.out).mono ?_
    rintro e w5 ⟨rfl, hh⟩
    replace HQB := Lib.hid (HQB.out.trans (hh.mono HQB.out.size))
    replace HB := Lib.hid (HB.out.trans (hh.mono HB.out.size))
    clear hh
    obtain ⟨p0, p1, p2⟩ := HC.out _ HB.out
    obtain ⟨r0, r1, r2⟩ := HGR.out _ HQB.out
    go_wp2_with fail
    refine (HSM.out _ (HPP.out _ HB.out) (HPR.out _ HQB.out)).mono ?_
    rintro e wz ⟨rfl, hh⟩
    replace HB := Lib.hid (HB.out.trans (hh.mono HB.out.size))
    clear hh
    go_wp2_with fail
    refine (HWK.out _).mono ?_
    rintro e wz ⟨rfl, hh⟩
    replace HB := Lib.hid (HB.out.trans (hh.mono HB.out.size))
    clear hh
    go_wp2_with fail
    go_ret
    exact ⟨rfl, HBW.out.trans (HB.out.mono HBW.out.size)⟩
end Go.Proofs.Ytccphigpobnjmaa
