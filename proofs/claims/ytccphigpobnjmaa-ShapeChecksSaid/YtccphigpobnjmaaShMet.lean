/-
  The document's own answer on what is known behind a condition that is no All. No condition but bounds on sizes.
-/
import Derived.Maps.AppendAt
import Derived.Laws.AppendOwnNone
import Derived.Deep.RegionLaw
import Derived.Test.YtccphigpobnjmaaShTests
import Derived.Test.YtccphigpobnjmaaKitOwn
import Derived.Test.YtccphigpobnjmaaShLearn
namespace Go.Proofs.Ytccphigpobnjmaa
set_option linter.unusedVariables false
open Go.RowKit
theorem run_append_none_c {P : Program} {w : World} (base : Nat) (t ty e : TypeId) (i : TypeInfo) (size : Nat) (ht : P.underlying t = some (.slice e)) (hi : P.info? e = some i) (v : Value) (n c : Nat) (xs : List Value) (hown : w.ownsRow base e size v n xs) :
    (Builtin.append_ #[t, t] ty #[v, .slice none 0 c]).run P w = .ok v w := by
  rcases hown.2 with ⟨rfl, rfl⟩ | ⟨g, cap, cur, rfl, _, _, hnc, _⟩
  · simp [Builtin.append_, run_underlying ht, sizeOf, typeInfo, hi, Builtin.lenOf, Builtin.firstCells]
  · simp [Builtin.append_, run_underlying ht, sizeOf, typeInfo, hi, Builtin.lenOf, Builtin.firstCells, hnc, storeCells]
theorem flat_get {α : Type} {E : α → List Value} {K : Nat} (hE : ∀ x, (E x).length = K) : ∀ (l : List α) (j : Nat) (u : Value), (l.flatMap E)[j]? = some u → ∃ i, ∃ h : i < l.length, i * K ≤ j ∧ (E l[i])[j - i * K]? = some u
  | [], j, u, h => by simp at h
  | x :: l, j, u, h => by
    rw [List.flatMap_cons] at h
    by_cases hj : j < K
    · rw [List.getElem?_append_left (by rw [hE]; exact hj)] at h
      exact ⟨0, by simp, by simp, by simpa using h⟩
    · rw [List.getElem?_append_right (by rw [hE]; omega), hE] at h
      obtain ⟨i, hi, h1, h2⟩ := flat_get hE l (j - K) u h
      refine ⟨i + 1, by simpa using hi, by rw [Nat.succ_mul]; omega, ?_⟩
      rw [List.getElem_cons_succ, Nat.succ_mul, show j - (i * K + K) = j - K - i * K by omega]
      exact h2
theorem flat_at {α : Type} {E : α → List Value} {K : Nat} (hE : ∀ x, (E x).length = K) : ∀ (l : List α) (i j : Nat) (h : i < l.length) (c : Value), (E l[i])[j]? = some c → (l.flatMap E)[i * K + j]? = some c
  | [], i, j, h, c, _ => by simp at h
  | x :: l, 0, j, h, c, hc => by
    have hj : j < (E x).length := (List.getElem?_eq_some_iff.1 hc).1
    rw [List.flatMap_cons, Nat.zero_mul, Nat.zero_add, List.getElem?_append_left hj]; exact hc
  | x :: l, i + 1, j, h, c, hc => by
    rw [List.flatMap_cons, List.getElem?_append_right (by rw [hE, Nat.succ_mul]; omega), hE, Nat.succ_mul, show i * K + K + j - K = i * K + j by omega]
    exact flat_at hE l i j (by simpa using h) c hc
theorem flat_length {α : Type} {E : α → List Value} {K : Nat} (hE : ∀ x, (E x).length = K) : ∀ l : List α, (l.flatMap E).length = l.length * K
  | [] => by simp
  | x :: l => by rw [List.flatMap_cons, List.length_append, hE, flat_length hE l, List.length_cons, Nat.succ_mul]; omega
theorem elts_of_own {α : Type} {E : α → List Value} {K : Nat} (hE : ∀ x, (E x).length = K) {w : World} {base : Nat} {e : TypeId} {a : Option Addr} {m c : Nat} {l : List α} (h : w.ownsRow base e K (.slice a m c) l.length (l.flatMap E)) : EltsK E K w a l := by
  intro k hk
  obtain ⟨hl, ⟨h1, h2⟩ | ⟨g, cap, cur, h1, -, h3, -, -, -, h7⟩⟩ := h
  · omega
  · cases h1
    refine ⟨g, 0, rfl, heap_lt h3, fun j c hc => ?_⟩
    rw [cells_of h3, Nat.zero_add, ← Array.getElem?_toList]
    have h8 := flat_at hE l k j hk c hc
    rw [← h7, List.getElem?_take] at h8
    split at h8
    · exact h8
    · cases h8
theorem own_slice' {w : World} {base : Nat} {e : TypeId} {size : Nat} {v : Value} {n : Nat} {xs : List Value} (h : w.ownsRow base e size v n xs) : ∃ a c, v = .slice a n c := by
  obtain ⟨-, ⟨h1, h2⟩ | ⟨g, cap, cur, h1, -⟩⟩ := h
  · subst h2; exact ⟨none, 0, h1⟩
  · exact ⟨_, _, h1⟩
theorem run_append_elts {P : Program} {w : World} {α : Type} {E : α → List Value} {K : Nat} (hE : ∀ x, (E x).length = K) (hone : ∀ x, ∀ u ∈ E x, u.oneCell' = true) (base : Nat) (t ty e : TypeId) (i : TypeInfo) (z : Value) (bytes : Nat) (ht : P.underlying t = some (.slice e)) (hi : P.info? e = some i) (hz : i.zero = some z)
    (hsize : i.size = K) (hby : i.bytes = bytes) (hzs : z.cells.size = K) (hsz : 0 < K) (v : Value) (n : Nat) (xs : List Value) (hown : w.ownsRow base e K v n xs) (a : Option Addr) (c : Nat) (l : List α) (he : EltsK E K w a l)
    (h63 : n + l.length ≤ maxLen) (hbytes : (n + l.length) * bytes ≤ 140737488355328) (hbase : base ≤ w.heap.size) :
    ∃ v' w', (Builtin.append_ #[t, t] ty #[v, .slice a l.length c]).run P w = .ok v' w' ∧ w'.ownsRow base e K v' (n + l.length) (xs ++ l.flatMap E) ∧ w.grownBy w' v.ownBlock ∧ (v'.ownBlock = v.ownBlock ∨ v'.ownBlock = some w.heap.size) := by
  have some_case : ∀ ad : Addr, a = some ad → (∀ j u, (l.flatMap E)[j]? = some u → w.cell? (ad.add j) = some u) → ∃ v' w', (Builtin.append_ #[t, t] ty #[v, .slice a l.length c]).run P w = .ok v' w' ∧ w'.ownsRow base e K v' (n + l.length) (xs ++ l.flatMap E) ∧ w.grownBy w' v.ownBlock ∧ (v'.ownBlock = v.ownBlock ∨ v'.ownBlock = some w.heap.size) := by
    rintro ad rfl hn
    obtain ⟨v', w', h1, h2, h3, -, h5⟩ := run_append_own_at (P := P) w base t ty e i z K bytes ht hi hz hsize hby hzs hsz v n xs hown ad l.length c (l.flatMap E) (flat_length hE l) hn (fun u hu => by obtain ⟨x, -, hx⟩ := List.mem_flatMap.1 hu; exact hone x u hx) h63 hbytes hbase
    exact ⟨v', w', h1, h2, h3, h5⟩
  by_cases h0 : l.length = 0
  · obtain rfl : l = [] := List.eq_nil_of_length_eq_zero h0
    cases a with
    | none => exact ⟨v, w, run_append_none_c base t ty e i K ht hi v n c xs hown, by simpa using hown, ⟨rfl, rfl, rfl, Nat.le_refl _, fun _ _ _ => rfl⟩, .inl rfl⟩
    | some ad => exact some_case ad rfl (by simp)
  · obtain ⟨b, off, rfl, -, -⟩ := he 0 (by omega)
    refine some_case _ rfl (fun j u hu => ?_)
    obtain ⟨i, hi, h1, h2⟩ := flat_get hE l j u hu
    obtain ⟨b', off', e', -, h3⟩ := he i hi
    cases e'
    have := h3 _ _ h2
    rw [Addr.add_lit]
    rwa [show off + i * K + (j - i * K) = off + j by omega] at this
theorem wpList_append_elts {P : Program} {w : World} {ops : Array Oper} {rest : List Oper} {o : Oper} {act : Act} {Q : Exit → Act → World → Prop} {α : Type} {E : α → List Value} {K : Nat} (hE : ∀ x, (E x).length = K) (hone : ∀ x, ∀ u ∈ E x, u.oneCell' = true) (hgd : o.guard = none) (s x : Operand) (t : TypeId)
    (ho : o.op = .call { callee := .builtin .append, args := #[s, x], argTypes := #[t, t] })
    (base : Nat) (e : TypeId) (i : TypeInfo) (z : Value) (bytes : Nat) (ht : P.underlying t = some (.slice e)) (hi : P.info? e = some i) (hz : i.zero = some z)
    (hsize : i.size = K) (hby : i.bytes = bytes) (hzs : z.cells.size = K) (hsz : 0 < K) (v : Value) (n : Nat) (xs : List Value) (hs : act.eval s = v) (hown : w.ownsRow base e K v n xs) (a : Option Addr) (c : Nat) (l : List α) (hx : act.eval x = .slice a l.length c) (he : EltsK E K w a l)
    (h63 : n + l.length ≤ maxLen) (hbytes : (n + l.length) * bytes ≤ 140737488355328) (hbase : base ≤ w.heap.size)
    (h : ∀ v' w', w'.ownsRow base e K v' (n + l.length) (xs ++ l.flatMap E) → w.grownBy w' v.ownBlock → (v'.ownBlock = v.ownBlock ∨ v'.ownBlock = some w.heap.size) → wpList P ops Q rest (act.put o.dst v') w') : wpList P ops Q (o :: rest) act w := by
  refine wpList_plain hgd fun K2 hK2 => ?_
  obtain ⟨v', w', hr, h2, h3, h4⟩ := run_append_elts (P := P) (w := w) hE hone base t o.type e i z bytes ht hi hz hsize hby hzs hsz v n xs hown a c l he h63 hbytes hbase
  unfold Oper.wp execOp
  simp only [ho, resolve, invoke, builtin, Sem.run_bind, Sem.run_pure, Result.andThen_ok, List.map_toArray, List.map_cons, List.map_nil, hs, hx, hr]
  exact hK2 _ _ (h v' w' h2 h3 h4)
theorem step_append_elts {P : Program} {w : World} {ops : Array Oper} {o : Oper} {act : Act} {K2 : Act → World → Prop} {Q : Exit → Act → World → Prop} {E2 : Prop} {α : Type} {E : α → List Value} {K : Nat} (hE : ∀ x, (E x).length = K) (hone : ∀ x, ∀ u ∈ E x, u.oneCell' = true) (hgd : o.guard = none) (s x : Operand) (t : TypeId)
    (ho : o.op = .call { callee := .builtin .append, args := #[s, x], argTypes := #[t, t] })
    (base : Nat) (e : TypeId) (i : TypeInfo) (z : Value) (bytes : Nat) (ht : P.underlying t = some (.slice e)) (hi : P.info? e = some i) (hz : i.zero = some z)
    (hsize : i.size = K) (hby : i.bytes = bytes) (hzs : z.cells.size = K) (hsz : 0 < K) (v : Value) (n : Nat) (xs : List Value) (hs : act.eval s = v) (hown : w.ownsRow base e K v n xs) (a : Option Addr) (c : Nat) (l : List α) (hx : act.eval x = .slice a l.length c) (he : EltsK E K w a l)
    (h63 : n + l.length ≤ maxLen) (hbytes : (n + l.length) * bytes ≤ 140737488355328) (hbase : base ≤ w.heap.size)
    (h : ∀ v' w', w'.ownsRow base e K v' (n + l.length) (xs ++ l.flatMap E) → w.grownBy w' v.ownBlock → (v'.ownBlock = v.ownBlock ∨ v'.ownBlock = some w.heap.size) → K2 (act.put o.dst v') w') :
    if Region.wanted o (yielded ops act.tmps) = true then Oper.wp P o act w K2 Q else E2 := by
  have hw : Region.wanted o (yielded ops act.tmps) = true := by simp [Region.wanted, hgd]
  rw [if_pos hw]
  obtain ⟨v', w', hr, h2, h3, h4⟩ := run_append_elts (P := P) (w := w) hE hone base t o.type e i z bytes ht hi hz hsize hby hzs hsz v n xs hown a c l he h63 hbytes hbase
  unfold Oper.wp execOp
  simp only [ho, resolve, invoke, builtin, Sem.run_bind, Sem.run_pure, Result.andThen_ok, List.map_toArray, List.map_cons, List.map_nil, hs, hx, hr]
  exact h v' w' h2 h3 h4
/-- Behind an append to a row that was made since. -/
theorem below_app {B : Nat} {w w1 w2 : World} {base : Nat} {e : TypeId} {size n : Nat} {v : Value} {xs : List Value} (hb : Below B w w1) (hB : B ≤ base) (hw : B ≤ w.heap.size) (hown : w1.ownsRow base e size v n xs) (hg : w1.grownBy w2 v.ownBlock) : Below B w w2 :=
  hb.trans ⟨hg.os, hg.tape, hg.output, hg.size, fun k hk => hg.block k (Nat.lt_of_lt_of_le (Nat.lt_of_lt_of_le hk hw) hb.size) (fun e => by have := (hown.lt k e.symm).1; omega)⟩
/-- A list of texts. -/
def encB (s : ByteArray) : List Value := [.string s]
theorem encB_len (s : ByteArray) : (encB s).length = 1 := rfl
theorem encB_one (s : ByteArray) : ∀ u ∈ encB s, u.oneCell' = true := by simp [encB, Value.oneCell']
theorem encT_len (s : Ts) : (encT s).length = 6 := rfl
theorem encT_one (s : Ts) : ∀ u ∈ encT s, u.oneCell' = true := by simp [encT, Value.oneCell']
def hasB (l : List ByteArray) (s : ByteArray) : Bool := l.any fun x => decide (x = s)
theorem str_eq {x y : ByteArray} : x = y ↔ x.toList = y.toList := ⟨fun h => by rw [h], fun h => by simp only [Lib.toList_data] at h; exact ByteArray.ext (Array.toList_inj.mp h)⟩
set_option maxHeartbeats 1000000 in
theorem rhas_any (l : List ByteArray) (a : Option Addr) (cap : Nat) (s : ByteArray) (w : World) (hel : EltsK encB 1 w a l) (hz : l.length ≤ 1000000) : Calls Try.prog 79 #[.slice a l.length cap, .string s] w fun e w' => e = .returned (.bool (hasB l s)) ∧ w = w' := by
  have Hel := Lib.hid hel
  clear hel
  go_enter Try.func79, Try.ntmps79
  go_wp2_with fail
  go_loopw [4, 5] (fun r i wr => ∃ k : Nat, k ≤ l.length ∧ i = .int .i64 k ∧ r = .bool false ∧ wr = w ∧ hasB l s = hasB (l.drop k) s) (fun _ i _ => l.length - (intOf i).toNat)
  case atStart => exact ⟨0, Nat.zero_le _, rfl, rfl, rfl, rfl⟩
  case round =>
    obtain ⟨k, hk, rfl, rfl, rfl, hrun⟩ := hrel
    by_cases hlt : k < l.length
    · obtain ⟨b, off, rfl, hcell⟩ := Hel.out.at hlt
      have hc := hcell _ (Below.refl _ _)
      unfold hasB at hrun
      rw [List.drop_eq_getElem_cons hlt, List.any_cons] at hrun
      obtain ⟨x, hx⟩ : ∃ x, x = l[k] := ⟨_, rfl⟩
      rw [← hx] at hc hrun
      have c0 := hc 0 _ rfl
      rw [Nat.mul_one, Nat.add_zero] at c0
      clear hx hc hcell
      by_cases q : x = s
      · have HQ := Lib.hid (show hasB l s = true by unfold hasB; rw [hrun]; simp [q])
        have q1 : x.toList = s.toList := str_eq.1 q
        clear q hrun
        go_wp2_with fail
        go_ret
        exact ⟨by rw [HQ.out]; rfl, rfl⟩
      · have HQ := Lib.hid (show hasB l s = hasB (l.drop (k + 1)) s by unfold hasB; rw [hrun]; simp [q])
        have q1 : ¬ x.toList = s.toList := fun h => q (str_eq.2 h)
        have q2 : (x.toList == s.toList) = false := by simpa using q1
        clear q hrun
        go_wp2_with fail
        go_roundw
        case rel => exact ⟨k + 1, by omega, by go_num, rfl, by trivial, HQ.out⟩
        case measure => simp [intOf]; omega
    · obtain rfl : k = l.length := by omega
      have HQ := Lib.hid (show hasB l s = false by rw [hrun, List.drop_length]; rfl)
      clear hrun
      go_wp2_with fail
      go_ret
      exact ⟨by rw [HQ.out]; rfl, rfl⟩
open Go.RowKit
def tstM : List Ts → List ByteArray → Option (List ByteArray)
  | [], k => some k
  | t :: ts, k => if t.var.size = 0 then tstM ts k else if hasB k t.var = true then tstM ts k else if t.rel = 1 then tstM ts (k ++ [t.var]) else none
def idM (h : Ch) (k : List ByteArray) : Option (List ByteArray) := if hasB k h.id = true then some k else if h.goal = true then some (k ++ [h.id]) else none
def metM (h : Ch) (k : List ByteArray) : Option (List ByteArray) := (idM h k).bind (tstM (h.attr ++ h.value))
theorem tstM_step {ts : List Ts} {j : Nat} (h : j < ts.length) (k : List ByteArray) : tstM (ts.drop j) k = if ts[j].var.size = 0 then tstM (ts.drop (j + 1)) k else if hasB k ts[j].var = true then tstM (ts.drop (j + 1)) k else if ts[j].rel = 1 then tstM (ts.drop (j + 1)) (k ++ [ts[j].var]) else none := by
  rw [List.drop_eq_getElem_cons h]; rfl
theorem infoTEST : (Try.prog.info? 67).map (fun i => (i.zero, i.size, i.bytes)) = some (some (.agg #[.int .i64 0, .string ⟨#[]⟩, .int .i64 0, .string ⟨#[]⟩, .int .i64 0, .slice none 0 0]), 6, 80) := by kernel_rfl
theorem own_types {w : World} {base base' e e' size size' n n' : Nat} {v v' : Value} {xs xs' : List Value} (h : w.ownsRow base e size v n xs) (h' : w.ownsRow base' e' size' v' n' xs') (he : e ≠ e') : v.ownBlock = none ∨ v.ownBlock ≠ v'.ownBlock := by
  cases hv : v.ownBlock with
  | none => exact .inl rfl
  | some g =>
    refine .inr fun e2 => ?_
    obtain ⟨-, ⟨h1, -⟩ | ⟨g1, c1, cur1, h1, -, h3, -⟩⟩ := h
    · rw [h1] at hv; cases hv
    · obtain ⟨-, ⟨h1', -⟩ | ⟨g2, c2, cur2, h1', -, h3', -⟩⟩ := h'
      · rw [h1'] at e2; cases e2
      · rw [h1] at hv; cases hv; rw [h1'] at e2; cases e2; rw [h3] at h3'; simp at h3'; exact he h3'.2
theorem elts_single {w : World} {s : ByteArray} {T : TypeId} : EltsK encB 1 (w.alloc (.cells #[.string s] T)) (some ⟨w.heap.size, 0, none⟩) [s] := fun k hk => by
  obtain rfl : k = 0 := by simpa using hk
  refine ⟨w.heap.size, 0, rfl, by simp, fun j c hc => ?_⟩
  have hj : j = 0 := by have := (List.getElem?_eq_some_iff.1 hc).1; simpa [encB] using this
  subst hj
  rw [cells_of (new_at rfl)]; simpa [encB] using hc
theorem own_more {w : World} {base e : Nat} {v : Value} {k : List ByteArray} {s : ByteArray} (h : w.ownsRow base e 1 v (k.length + [s].length) (k.flatMap encB ++ [s].flatMap encB)) : w.ownsRow base e 1 v (k ++ [s]).length ((k ++ [s]).flatMap encB) := by
  rw [List.length_append, List.flatMap_append]; exact h
theorem cell_at' {w : World} {b : Nat} {c : Array Value} {t : TypeId} {f : Nat × Nat} (h : w.heap[b]? = some (.cells c t f)) (j : Nat) {v : Value} (hv : c[j]? = some v) : w.cell? ⟨b, j, none⟩ = some v := by rw [cells_of h]; exact hv
theorem box_alloc {w : World} {b : Nat} {o o' : Obj} (h : w.heap[b]? = some o) : (w.alloc o').heap[b]? = some o := (Below.heap_alloc _ _ _ (heap_lt h)).trans h
theorem box_drew {w : World} {b : Nat} {o : Obj} (h : w.heap[b]? = some o) : w.drew.heap[b]? = some o := h
theorem own_drew {w : World} {base e size n : Nat} {v : Value} {xs : List Value} (h : w.ownsRow base e size v n xs) : w.drew.ownsRow base e size v n xs := ⟨h.1, h.2⟩
theorem own_or (v : Value) : v.ownBlock = none ∨ v.ownBlock ≠ (Value.slice none 0 0).ownBlock := by cases h : v.ownBlock <;> simp [Value.ownBlock]
theorem two_step {S G : Prop} (main : (Nat → S) → G) (proof : S) : G := main (fun _ => proof)
theorem own_tests {w : World} {base e : Nat} {v : Value} {p q : List Ts} (h : w.ownsRow base e 6 v (0 + p.length + q.length) ([] ++ p.flatMap encT ++ q.flatMap encT)) : w.ownsRow base e 6 v (p ++ q).length ((p ++ q).flatMap encT) := by
  rw [List.length_append, List.flatMap_append]; simpa using h
/-- What met answers. -/
def MetPost (w : World) (r : Option (List ByteArray)) (e : Ending) (w' : World) : Prop := Below w.heap.size w w' ∧ match r with
  | none => e = .returned (.tuple #[.slice none 0 0, .bool false])
  | some k => ∃ a c, e = .returned (.tuple #[.slice a k.length c, .bool true]) ∧ EltsK encB 1 w' a k
theorem MetPost.no {w w' : World} {r : Option (List ByteArray)} {e : Ending} (hr : r = none) (hb : Below w.heap.size w w') (he : e = .returned (.tuple #[.slice none 0 0, .bool false])) : MetPost w r e w' := by subst hr; exact ⟨hb, he⟩
theorem MetPost.yes {w w' : World} {r : Option (List ByteArray)} {e : Ending} {k : List ByteArray} (hr : r = some k) (hb : Below w.heap.size w w') {a : Option Addr} {c : Nat} (he : e = .returned (.tuple #[.slice a k.length c, .bool true])) (hk : EltsK encB 1 w' a k) : MetPost w r e w' := by subst hr; exact ⟨hb, a, c, he, hk⟩
theorem box_app {w w' : World} {b : Nat} {o : Obj} {v : Value} {base e size n : Nat} {xs : List Value} (h : w.heap[b]? = some o) (hown : w.ownsRow base e size v n xs) (hb : b < base) (hg : w.grownBy w' v.ownBlock) : w'.heap[b]? = some o :=
  (hg.block b (heap_lt h) (fun e => by have := (hown.lt b e.symm).1; omega)).trans h
set_option maxRecDepth 100000 in
set_option maxHeartbeats 8000000 in
theorem met_any (c : Ch) (n : Nat) (k : List ByteArray) (a : Option Addr) (cap : Nat) (w : World) (ha : TestsAt w c.aa c.attr) (hv : TestsAt w c.va c.value) (hk : EltsK encB 1 w a k) (hkl : k.length ≤ 10000) (hal : c.attr.length ≤ 1000) (hvl : c.value.length ≤ 1000) :
    Calls Try.prog 78 #[.agg #[.int .i64 c.kind, .bool c.goal, .string c.id, .slice c.aa c.attr.length c.ac, .slice c.va c.value.length c.vc, .bool c.acc, .slice c.ca n c.cc], .slice a k.length cap] w fun e w' => MetPost w (metM c k) e w' := by
  obtain ⟨i0, hi, hz0, hz1, hz2⟩ := info_parts infoSTR
  obtain ⟨j0, hj, hj0, hj1, hj2⟩ := info_parts infoTEST
  obtain ⟨W2, hW2⟩ : ∃ W2, W2 = w.alloc (.cells #[.int .i64 c.kind, .bool c.goal, .string c.id, .slice c.aa c.attr.length c.ac, .slice c.va c.value.length c.vc, .bool c.acc, .slice c.ca n c.cc] 64) := ⟨_, rfl⟩
  have hB : Below w.heap.size w W2 := by rw [hW2]; go_grown
  have hgp : W2.heap[w.heap.size]? = some (.cells #[.int .i64 c.kind, .bool c.goal, .string c.id, .slice c.aa c.attr.length c.ac, .slice c.va c.value.length c.vc, .bool c.acc, .slice c.ca n c.cc] 64 (0, 0)) := by rw [hW2]; exact new_at rfl
  have hsz : w.heap.size + 1 ≤ W2.heap.size := by rw [hW2]; simp
  have HK := Lib.hid (hk.mono hB)
  have HTA := Lib.hid (fun w' (hb : Below w.heap.size w w') => (ha.mono hb).1)
  have HTV := Lib.hid (fun w' (hb : Below w.heap.size w w') => (hv.mono hb).1)
  have HB := Lib.hid hB
  have HGP := Lib.hid hgp
  have HSZ := Lib.hid hsz
  rw [hW2] at HK HB HGP HSZ
  have ta : Hid (0 = 0) := rfl
  clear hW2 hB hgp hk ha hv hsz W2
  cases q1 : hasB k c.id with
  | true =>
    have HM := Lib.hid (show metM c k = tstM (c.attr ++ c.value) k by unfold metM idM; rw [if_pos q1]; rfl)
    go_enter Try.func78, Try.ntmps78
    go_wp2_with (first | (have _t := ta; at_builtin; refine wpList_append_elts encB_len encB_one rfl (.const (.slice none 0 0)) (.tmp 9) 33 rfl (w.heap.size + 1) 9 i0 (.string ⟨#[]⟩) 16 Try.underlying33 hi hz0 hz1 hz2 rfl (by decide) (.slice none 0 0) 0 [] rfl (World.ownsRow_nil _ _ _ _) a cap k rfl HK.out (by unfold maxLen; omega) (by omega) HSZ.out ?_; intro v1 w1 hown hg hor; rw [Nat.zero_add, List.nil_append] at hown; obtain ⟨a1, c1, rfl⟩ := own_slice' hown; have HB1 := Lib.hid (below_app HB.out (Nat.le_succ _) (Nat.le_refl _) (World.ownsRow_nil _ (w.heap.size + 1) 9 1) hg); have HX1 := Lib.hid (box_app HGP.out (World.ownsRow_nil _ (w.heap.size + 1) 9 1) (Nat.lt_succ_self _) hg); have HO1 := Lib.hid hown; have HSZ1 : Hid (w.heap.size + 1 ≤ w1.heap.size) := Lib.hid (heap_lt HX1.out); have b1 := cell_at' HX1.out 1 (v := .bool c.goal) rfl; have b2 := cell_at' HX1.out 2 (v := .string c.id) rfl; have b3 := cell_at' HX1.out 3 (v := .slice c.aa c.attr.length c.ac) rfl; have b4 := cell_at' HX1.out 4 (v := .slice c.va c.value.length c.vc) rfl; clear _t ta hown hg hor) | (go_at_call 79; refine (rhas_any k a1 c1 c.id w1 (elts_of_own encB_len HO1.out) (by omega)).mono ?_; rintro e w2 ⟨rfl, rfl⟩; rw [q1]))
    have hkb : k.length ≤ 10001 := by first | omega | (simp; omega)
    have HSZ3 : Hid (w.heap.size + 1 ≤ w1.heap.size) := Lib.hid (heap_lt HX1.out)
    apply two_step
    case main =>
      intro HR
      go_region_law (first
      | (refine step_append_elts encT_len encT_one rfl (.const (.slice none 0 0)) (.tmp 25) 62 rfl (w.heap.size + 1) 67 j0 (.agg #[.int .i64 0, .string ⟨#[]⟩, .int .i64 0, .string ⟨#[]⟩, .int .i64 0, .slice none 0 0]) 80 Try.underlying62 hj hj0 hj1 hj2 rfl (by decide) (.slice none 0 0) 0 [] rfl (World.ownsRow_nil _ _ _ _) c.aa c.ac c.attr rfl (HTA.out _ (HB1.out.drew)) (by unfold maxLen; omega) (by omega) HSZ3.out ?_; intro v5 w5 hown5 hg5 hor5; have HB5 := Lib.hid (below_app HB1.out.drew (Nat.le_succ _) (Nat.le_refl _) (World.ownsRow_nil _ (w.heap.size + 1) 67 6) hg5); have HX5 := Lib.hid (box_app (box_drew HX1.out) (World.ownsRow_nil _ (w.heap.size + 1) 67 6) (Nat.lt_succ_self _) hg5); have HO5 := Lib.hid (World.ownsRow.kept (own_drew HO1.out) hg5 (own_or _)); have HP5 := Lib.hid hown5; have d4 := cell_at' HX5.out 4 (v := .slice c.va c.value.length c.vc) rfl; clear hown5 hg5 hor5)
      | (refine step_append_elts encT_len encT_one rfl (.tmp 26) (.tmp 28) 62 rfl (w.heap.size + 1) 67 j0 (.agg #[.int .i64 0, .string ⟨#[]⟩, .int .i64 0, .string ⟨#[]⟩, .int .i64 0, .slice none 0 0]) 80 Try.underlying62 hj hj0 hj1 hj2 rfl (by decide) v5 _ _ rfl HP5.out c.va c.vc c.value rfl (HTV.out _ HB5.out) (by unfold maxLen; omega) (by omega) (Nat.le_trans (Nat.succ_le_of_lt (heap_lt HX5.out)) (Nat.le_refl _)) ?_; intro v6 w6 hown6 hg6 hor6; have HB6 := Lib.hid (below_app HB5.out (Nat.le_succ _) (Nat.le_refl _) HP5.out hg6); have HO6 := Lib.hid (World.ownsRow.kept HO5.out hg6 (own_types HO5.out HP5.out (by decide))); have HP6 := Lib.hid (own_tests hown6); have HSZ6 : Hid (w.heap.size + 1 ≤ w6.heap.size) := Lib.hid (Nat.le_trans (Nat.succ_le_of_lt (heap_lt HX5.out)) hg6.size); clear hown6 hg6 hor6))
      all_goals
        clear HB5 HX5 HO5 HP5
        revert HB6 HO6 HP6 HSZ6
        revert v6 w6
        revert v5
        exact HR 0
    case proof =>
      intro v5 v6 w6 HB6 HO6 HP6 HSZ6
      obtain ⟨L, hL⟩ : ∃ L, L = c.attr ++ c.value := ⟨_, rfl⟩
      have hLl : L.length ≤ 2000 := by rw [hL, List.length_append]; omega
      rw [← hL] at HM HP6
      obtain ⟨aL, cL, rfl⟩ := own_slice' HP6.out
      clear hL
      go_wp2_with fail
      go_loopw [4, 5, 6, 8] (fun r ok o i wr => ∃ (j : Nat) (kk : List ByteArray) (a' : Option Addr) (c' : Nat), j ≤ L.length ∧ i = .int .i64 j ∧ r = .slice none 0 0 ∧ ok = .bool false ∧ o = .slice a' kk.length c' ∧ Hid (wr.ownsRow (w.heap.size + 1) 9 1 (.slice a' kk.length c') kk.length (kk.flatMap encB)) ∧ Hid (wr.ownsRow (w.heap.size + 1) 67 6 (.slice aL L.length cL) L.length (L.flatMap encT)) ∧ kk.length ≤ 10001 + j ∧ Hid (Below w.heap.size w wr) ∧ Hid (w.heap.size + 1 ≤ wr.heap.size) ∧ Hid (metM c k = tstM (L.drop j) kk)) (fun _ _ _ i _ => L.length - (intOf i).toNat)
      case atStart => exact ⟨0, k, a1, c1, Nat.zero_le _, rfl, rfl, rfl, (by first | rfl | (rw [List.length_append]; rfl)), HO6, HP6, hkb, HB6, HSZ6, HM⟩
      case round =>
        obtain ⟨j, kk, a', c', hjl, rfl, rfl, rfl, rfl, HO, HP, hkk, HBR, HSR, HMR⟩ := hrel
        by_cases hlt : j < L.length
        · obtain ⟨g, off, hgL, hcell⟩ := (elts_of_own encT_len HP.out).at hlt
          have hc := hcell wr (Below.refl _ _)
          have hst := HMR.out.trans (tstM_step hlt kk)
          obtain ⟨x, hx⟩ : ∃ x, x = L[j] := ⟨_, rfl⟩
          rw [← hx] at hc hst
          have x0 := hc 0 _ rfl
          have x1 := hc 1 _ rfl
          rw [Nat.add_zero] at x0
          subst hgL
          clear hx hc hcell
          by_cases qz : x.var.size = 0
          · have HQ := Lib.hid (show metM c k = tstM (L.drop (j + 1)) kk by rw [hst, if_pos qz])
            have he : x.var.toList = [] := by rw [Lib.toList_data]; exact bytes_nil _ qz
            have he2 : x.var.toList.isEmpty = true := by rw [he]; rfl
            clear hst qz
            go_wp2_with fail
            go_roundw
            case rel => exact ⟨j + 1, kk, a', c', by omega, by go_num, rfl, rfl, rfl, HO, HP, by omega, HBR, HSR, HQ⟩
            case measure => simp [intOf]; omega
          have hst2 := hst.trans (if_neg qz)
          have he : ¬ x.var.toList = [] := by rw [Lib.toList_data, bytes_cons _ (by omega)]; simp
          have he2 : x.var.toList.isEmpty = false := by rw [Lib.toList_data, bytes_cons _ (by omega)]; rfl
          clear hst
          cases qh : hasB kk x.var with
          | true =>
            have HQ := Lib.hid (show metM c k = tstM (L.drop (j + 1)) kk by rw [hst2, if_pos qh])
            clear hst2 qz
            go_wp2_with (go_at_call 79; refine (rhas_any kk a' c' x.var wr (elts_of_own encB_len HO.out) (by omega)).mono ?_; rintro e w7 ⟨rfl, rfl⟩; rw [qh])
            go_roundw
            case rel => exact ⟨j + 1, kk, a', c', by omega, by go_num, rfl, rfl, rfl, HO, HP, by omega, HBR, HSR, HQ⟩
            case measure => simp [intOf]; omega
          | false =>
            have hst3 := hst2.trans (if_neg (by rw [qh]; decide))
            clear hst2
            by_cases qr : x.rel = 1
            · have HQ := Lib.hid (show metM c k = tstM (L.drop (j + 1)) (kk ++ [x.var]) by rw [hst3, if_pos qr])
              rw [qr] at x0
              clear hst3 qz qr
              go_wp2_with (first | (go_at_call 79; refine (rhas_any kk a' c' x.var wr (elts_of_own encB_len HO.out) (by omega)).mono ?_; rintro e w7 ⟨rfl, rfl⟩; rw [qh]) | (at_builtin; refine wpList_append_elts encB_len encB_one rfl (.tmp 57) (.tmp 63) 33 rfl (w.heap.size + 1) 9 i0 (.string ⟨#[]⟩) 16 Try.underlying33 hi hz0 hz1 hz2 rfl (by decide) (.slice a' kk.length c') kk.length (kk.flatMap encB) rfl (HO.out.alloc _) (some ⟨wr.heap.size, 0, none⟩) 1 [x.var] rfl elts_single (by unfold maxLen; simp; omega) (by simp; omega) (Nat.le_trans HSR.out (by simp)) ?_; intro v9 w9 hown9 hg9 hor9; have HB9 := Lib.hid (below_app (HBR.out.alloc HBR.out.size _) (Nat.le_succ _) (Nat.le_refl _) (HO.out.alloc _) hg9); have HP9 := Lib.hid (World.ownsRow.kept (HP.out.alloc _) hg9 (own_types HP.out HO.out (by decide))); have HS9 := Lib.hid (Nat.le_trans HSR.out (Nat.le_trans (by simp) hg9.size)); replace hown9 := own_more hown9; obtain ⟨a9, c9, rfl⟩ := own_slice' hown9; have HO9 := Lib.hid hown9; clear hown9 hg9 hor9))
              go_roundw
              case rel => exact ⟨j + 1, kk ++ [x.var], a9, c9, by omega, by go_num, rfl, rfl, (by first | rfl | (rw [List.length_append]; rfl)), HO9, HP9, by simp; omega, HB9, HS9, HQ⟩
              case measure => simp [intOf]; omega
            · have HQ := Lib.hid (show metM c k = none by rw [hst3, if_neg qr])
              have qr2 : (x.rel != 1) = true := by simpa using qr
              clear hst3 qz
              go_wp2_with (go_at_call 79; refine (rhas_any kk a' c' x.var wr (elts_of_own encB_len HO.out) (by omega)).mono ?_; rintro e w7 ⟨rfl, rfl⟩; rw [qh])
              go_ret2
              exact MetPost.no HQ.out HBR.out rfl
        · obtain rfl : j = L.length := by omega
          have HQ := Lib.hid (show metM c k = some kk by rw [HMR.out, List.drop_length]; rfl)
          go_wp2_with fail
          go_ret2
          exact MetPost.yes HQ.out HBR.out rfl (elts_of_own encB_len HO.out)
  | false =>
    by_cases q2 : c.goal = true
    · have HM := Lib.hid (show metM c k = tstM (c.attr ++ c.value) (k ++ [c.id]) by unfold metM idM; rw [q1, if_neg (by decide), if_pos q2]; rfl)
      have Q2 := Lib.hid q2
      clear q2
      go_enter Try.func78, Try.ntmps78
      go_wp2_with (first | (have _t := ta; at_builtin; refine wpList_append_elts encB_len encB_one rfl (.const (.slice none 0 0)) (.tmp 9) 33 rfl (w.heap.size + 1) 9 i0 (.string ⟨#[]⟩) 16 Try.underlying33 hi hz0 hz1 hz2 rfl (by decide) (.slice none 0 0) 0 [] rfl (World.ownsRow_nil _ _ _ _) a cap k rfl HK.out (by unfold maxLen; omega) (by omega) HSZ.out ?_; intro v1 w1 hown hg hor; rw [Nat.zero_add, List.nil_append] at hown; obtain ⟨a1, c1, rfl⟩ := own_slice' hown; have HB1 := Lib.hid (below_app HB.out (Nat.le_succ _) (Nat.le_refl _) (World.ownsRow_nil _ (w.heap.size + 1) 9 1) hg); have HX1 := Lib.hid (box_app HGP.out (World.ownsRow_nil _ (w.heap.size + 1) 9 1) (Nat.lt_succ_self _) hg); have HO1 := Lib.hid hown; have HSZ1 : Hid (w.heap.size + 1 ≤ w1.heap.size) := Lib.hid (heap_lt HX1.out); have b1 := cell_at' HX1.out 1 (v := .bool true) (by rw [Q2.out]; rfl); have b2 := cell_at' HX1.out 2 (v := .string c.id) rfl; have b3 := cell_at' HX1.out 3 (v := .slice c.aa c.attr.length c.ac) rfl; have b4 := cell_at' HX1.out 4 (v := .slice c.va c.value.length c.vc) rfl; clear _t ta hown hg hor) | (go_at_call 79; refine (rhas_any k a1 c1 c.id w1 (elts_of_own encB_len HO1.out) (by omega)).mono ?_; rintro e w2 ⟨rfl, rfl⟩; rw [q1]) | (at_builtin; refine wpList_append_elts encB_len encB_one rfl (.tmp 19) (.tmp 22) 33 rfl (w.heap.size + 1) 9 i0 (.string ⟨#[]⟩) 16 Try.underlying33 hi hz0 hz1 hz2 rfl (by decide) (.slice a1 k.length c1) k.length (k.flatMap encB) rfl (HO1.out.alloc _) (some ⟨w1.heap.size, 0, none⟩) 1 [c.id] rfl elts_single (by unfold maxLen; simp; omega) (by simp; omega) (Nat.le_trans HSZ1.out (by simp)) ?_; intro v3 w3 hown hg hor; have HB3 := Lib.hid (below_app (HB1.out.alloc HB1.out.size _) (Nat.le_succ _) (Nat.le_refl _) (HO1.out.alloc _) hg); have HX3 := Lib.hid (box_app (box_alloc HX1.out) (HO1.out.alloc _) (Nat.lt_succ_self _) hg); replace hown := own_more hown; obtain ⟨a3, c3, rfl⟩ := own_slice' hown; have HO3 := Lib.hid hown; clear hown hg hor b1 b2 b3 b4; have b1 := cell_at' HX3.out 1 (v := .bool true) (by rw [Q2.out]; rfl); have b2 := cell_at' HX3.out 2 (v := .string c.id) rfl; have b3 := cell_at' HX3.out 3 (v := .slice c.aa c.attr.length c.ac) rfl; have b4 := cell_at' HX3.out 4 (v := .slice c.va c.value.length c.vc) rfl))
      have hkb : (k ++ [c.id]).length ≤ 10001 := by first | omega | (simp; omega)
      have HSZ3 : Hid (w.heap.size + 1 ≤ w3.heap.size) := Lib.hid (heap_lt HX3.out)
      apply two_step
      case main =>
        intro HR
        go_region_law (first
        | (refine step_append_elts encT_len encT_one rfl (.const (.slice none 0 0)) (.tmp 25) 62 rfl (w.heap.size + 1) 67 j0 (.agg #[.int .i64 0, .string ⟨#[]⟩, .int .i64 0, .string ⟨#[]⟩, .int .i64 0, .slice none 0 0]) 80 Try.underlying62 hj hj0 hj1 hj2 rfl (by decide) (.slice none 0 0) 0 [] rfl (World.ownsRow_nil _ _ _ _) c.aa c.ac c.attr rfl (HTA.out _ (HB3.out.drew)) (by unfold maxLen; omega) (by omega) HSZ3.out ?_; intro v5 w5 hown5 hg5 hor5; have HB5 := Lib.hid (below_app HB3.out.drew (Nat.le_succ _) (Nat.le_refl _) (World.ownsRow_nil _ (w.heap.size + 1) 67 6) hg5); have HX5 := Lib.hid (box_app (box_drew HX3.out) (World.ownsRow_nil _ (w.heap.size + 1) 67 6) (Nat.lt_succ_self _) hg5); have HO5 := Lib.hid (World.ownsRow.kept (own_drew HO3.out) hg5 (own_or _)); have HP5 := Lib.hid hown5; have d4 := cell_at' HX5.out 4 (v := .slice c.va c.value.length c.vc) rfl; clear hown5 hg5 hor5)
        | (refine step_append_elts encT_len encT_one rfl (.tmp 26) (.tmp 28) 62 rfl (w.heap.size + 1) 67 j0 (.agg #[.int .i64 0, .string ⟨#[]⟩, .int .i64 0, .string ⟨#[]⟩, .int .i64 0, .slice none 0 0]) 80 Try.underlying62 hj hj0 hj1 hj2 rfl (by decide) v5 _ _ rfl HP5.out c.va c.vc c.value rfl (HTV.out _ HB5.out) (by unfold maxLen; omega) (by omega) (Nat.le_trans (Nat.succ_le_of_lt (heap_lt HX5.out)) (Nat.le_refl _)) ?_; intro v6 w6 hown6 hg6 hor6; have HB6 := Lib.hid (below_app HB5.out (Nat.le_succ _) (Nat.le_refl _) HP5.out hg6); have HO6 := Lib.hid (World.ownsRow.kept HO5.out hg6 (own_types HO5.out HP5.out (by decide))); have HP6 := Lib.hid (own_tests hown6); have HSZ6 : Hid (w.heap.size + 1 ≤ w6.heap.size) := Lib.hid (Nat.le_trans (Nat.succ_le_of_lt (heap_lt HX5.out)) hg6.size); clear hown6 hg6 hor6))
        all_goals
          clear HB5 HX5 HO5 HP5
          revert HB6 HO6 HP6 HSZ6
          revert v6 w6
          revert v5
          exact HR 0
      case proof =>
        intro v5 v6 w6 HB6 HO6 HP6 HSZ6
        obtain ⟨L, hL⟩ : ∃ L, L = c.attr ++ c.value := ⟨_, rfl⟩
        have hLl : L.length ≤ 2000 := by rw [hL, List.length_append]; omega
        rw [← hL] at HM HP6
        obtain ⟨aL, cL, rfl⟩ := own_slice' HP6.out
        clear hL
        go_wp2_with fail
        go_loopw [4, 5, 6, 8] (fun r ok o i wr => ∃ (j : Nat) (kk : List ByteArray) (a' : Option Addr) (c' : Nat), j ≤ L.length ∧ i = .int .i64 j ∧ r = .slice none 0 0 ∧ ok = .bool false ∧ o = .slice a' kk.length c' ∧ Hid (wr.ownsRow (w.heap.size + 1) 9 1 (.slice a' kk.length c') kk.length (kk.flatMap encB)) ∧ Hid (wr.ownsRow (w.heap.size + 1) 67 6 (.slice aL L.length cL) L.length (L.flatMap encT)) ∧ kk.length ≤ 10001 + j ∧ Hid (Below w.heap.size w wr) ∧ Hid (w.heap.size + 1 ≤ wr.heap.size) ∧ Hid (metM c k = tstM (L.drop j) kk)) (fun _ _ _ i _ => L.length - (intOf i).toNat)
        case atStart => exact ⟨0, (k ++ [c.id]), a3, c3, Nat.zero_le _, rfl, rfl, rfl, (by first | rfl | (rw [List.length_append]; rfl)), HO6, HP6, hkb, HB6, HSZ6, HM⟩
        case round =>
          obtain ⟨j, kk, a', c', hjl, rfl, rfl, rfl, rfl, HO, HP, hkk, HBR, HSR, HMR⟩ := hrel
          by_cases hlt : j < L.length
          · obtain ⟨g, off, hgL, hcell⟩ := (elts_of_own encT_len HP.out).at hlt
            have hc := hcell wr (Below.refl _ _)
            have hst := HMR.out.trans (tstM_step hlt kk)
            obtain ⟨x, hx⟩ : ∃ x, x = L[j] := ⟨_, rfl⟩
            rw [← hx] at hc hst
            have x0 := hc 0 _ rfl
            have x1 := hc 1 _ rfl
            rw [Nat.add_zero] at x0
            subst hgL
            clear hx hc hcell
            by_cases qz : x.var.size = 0
            · have HQ := Lib.hid (show metM c k = tstM (L.drop (j + 1)) kk by rw [hst, if_pos qz])
              have he : x.var.toList = [] := by rw [Lib.toList_data]; exact bytes_nil _ qz
              have he2 : x.var.toList.isEmpty = true := by rw [he]; rfl
              clear hst qz
              go_wp2_with fail
              go_roundw
              case rel => exact ⟨j + 1, kk, a', c', by omega, by go_num, rfl, rfl, rfl, HO, HP, by omega, HBR, HSR, HQ⟩
              case measure => simp [intOf]; omega
            have hst2 := hst.trans (if_neg qz)
            have he : ¬ x.var.toList = [] := by rw [Lib.toList_data, bytes_cons _ (by omega)]; simp
            have he2 : x.var.toList.isEmpty = false := by rw [Lib.toList_data, bytes_cons _ (by omega)]; rfl
            clear hst
            cases qh : hasB kk x.var with
            | true =>
              have HQ := Lib.hid (show metM c k = tstM (L.drop (j + 1)) kk by rw [hst2, if_pos qh])
              clear hst2 qz
              go_wp2_with (go_at_call 79; refine (rhas_any kk a' c' x.var wr (elts_of_own encB_len HO.out) (by omega)).mono ?_; rintro e w7 ⟨rfl, rfl⟩; rw [qh])
              go_roundw
              case rel => exact ⟨j + 1, kk, a', c', by omega, by go_num, rfl, rfl, rfl, HO, HP, by omega, HBR, HSR, HQ⟩
              case measure => simp [intOf]; omega
            | false =>
              have hst3 := hst2.trans (if_neg (by rw [qh]; decide))
              clear hst2
              by_cases qr : x.rel = 1
              · have HQ := Lib.hid (show metM c k = tstM (L.drop (j + 1)) (kk ++ [x.var]) by rw [hst3, if_pos qr])
                rw [qr] at x0
                clear hst3 qz qr
                go_wp2_with (first | (go_at_call 79; refine (rhas_any kk a' c' x.var wr (elts_of_own encB_len HO.out) (by omega)).mono ?_; rintro e w7 ⟨rfl, rfl⟩; rw [qh]) | (at_builtin; refine wpList_append_elts encB_len encB_one rfl (.tmp 57) (.tmp 63) 33 rfl (w.heap.size + 1) 9 i0 (.string ⟨#[]⟩) 16 Try.underlying33 hi hz0 hz1 hz2 rfl (by decide) (.slice a' kk.length c') kk.length (kk.flatMap encB) rfl (HO.out.alloc _) (some ⟨wr.heap.size, 0, none⟩) 1 [x.var] rfl elts_single (by unfold maxLen; simp; omega) (by simp; omega) (Nat.le_trans HSR.out (by simp)) ?_; intro v9 w9 hown9 hg9 hor9; have HB9 := Lib.hid (below_app (HBR.out.alloc HBR.out.size _) (Nat.le_succ _) (Nat.le_refl _) (HO.out.alloc _) hg9); have HP9 := Lib.hid (World.ownsRow.kept (HP.out.alloc _) hg9 (own_types HP.out HO.out (by decide))); have HS9 := Lib.hid (Nat.le_trans HSR.out (Nat.le_trans (by simp) hg9.size)); replace hown9 := own_more hown9; obtain ⟨a9, c9, rfl⟩ := own_slice' hown9; have HO9 := Lib.hid hown9; clear hown9 hg9 hor9))
                go_roundw
                case rel => exact ⟨j + 1, kk ++ [x.var], a9, c9, by omega, by go_num, rfl, rfl, (by first | rfl | (rw [List.length_append]; rfl)), HO9, HP9, by simp; omega, HB9, HS9, HQ⟩
                case measure => simp [intOf]; omega
              · have HQ := Lib.hid (show metM c k = none by rw [hst3, if_neg qr])
                have qr2 : (x.rel != 1) = true := by simpa using qr
                clear hst3 qz
                go_wp2_with (go_at_call 79; refine (rhas_any kk a' c' x.var wr (elts_of_own encB_len HO.out) (by omega)).mono ?_; rintro e w7 ⟨rfl, rfl⟩; rw [qh])
                go_ret2
                exact MetPost.no HQ.out HBR.out rfl
          · obtain rfl : j = L.length := by omega
            have HQ := Lib.hid (show metM c k = some kk by rw [HMR.out, List.drop_length]; rfl)
            go_wp2_with fail
            go_ret2
            exact MetPost.yes HQ.out HBR.out rfl (elts_of_own encB_len HO.out)
    · have HM := Lib.hid (show metM c k = none by unfold metM idM; rw [q1, if_neg (by decide), if_neg q2]; rfl)
      have Q2 : Hid (c.goal = false) := Lib.hid (by simpa using q2)
      clear q2
      go_enter Try.func78, Try.ntmps78
      go_wp2_with (first | (have _t := ta; at_builtin; refine wpList_append_elts encB_len encB_one rfl (.const (.slice none 0 0)) (.tmp 9) 33 rfl (w.heap.size + 1) 9 i0 (.string ⟨#[]⟩) 16 Try.underlying33 hi hz0 hz1 hz2 rfl (by decide) (.slice none 0 0) 0 [] rfl (World.ownsRow_nil _ _ _ _) a cap k rfl HK.out (by unfold maxLen; omega) (by omega) HSZ.out ?_; intro v1 w1 hown hg hor; rw [Nat.zero_add, List.nil_append] at hown; obtain ⟨a1, c1, rfl⟩ := own_slice' hown; have HB1 := Lib.hid (below_app HB.out (Nat.le_succ _) (Nat.le_refl _) (World.ownsRow_nil _ (w.heap.size + 1) 9 1) hg); have HX1 := Lib.hid (box_app HGP.out (World.ownsRow_nil _ (w.heap.size + 1) 9 1) (Nat.lt_succ_self _) hg); have HO1 := Lib.hid hown; have HSZ1 : Hid (w.heap.size + 1 ≤ w1.heap.size) := Lib.hid (heap_lt HX1.out); have b1 := cell_at' HX1.out 1 (v := .bool false) (by rw [Q2.out]; rfl); have b2 := cell_at' HX1.out 2 (v := .string c.id) rfl; have b3 := cell_at' HX1.out 3 (v := .slice c.aa c.attr.length c.ac) rfl; have b4 := cell_at' HX1.out 4 (v := .slice c.va c.value.length c.vc) rfl; clear _t ta hown hg hor) | (go_at_call 79; refine (rhas_any k a1 c1 c.id w1 (elts_of_own encB_len HO1.out) (by omega)).mono ?_; rintro e w2 ⟨rfl, rfl⟩; rw [q1]))
      go_ret2
      exact MetPost.no HM.out HB1.out rfl
end Go.Proofs.Ytccphigpobnjmaa
