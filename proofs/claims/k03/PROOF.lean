import PyProof.Rows.All
import Wide.All
import OpenK.AllK
import Wide.FinOn
import HandS.ForMost
import HandS.IsInst
import HandS.Wide
import HandS.Defaults
import HandS.MakeKwOnly
import HandS.Conv
import HandS.Zip
import PySem.Challenge.RW_turnedties_k03_components_and_forest
set_option Elab.async false
set_option linter.all false
set_option maxRecDepth 100000
set_option maxHeartbeats 8000000
/-! ## Webs and the law's drawing, def by def, over the hand layer -/
namespace Wb
open PySem L2
def top (i : Nat) : Stmt := PySem.Challenge.pw_turnedties_k03_components_and_forest.main.body.getD i (.Pass ⟨0, 0, 0, 0⟩)
abbrev sIsInt : Stmt := top 2
abbrev sBetween : Stmt := top 3
abbrev sWeb : Stmt := top 16
abbrev sInit : Stmt := inClass (top 16) 0
abbrev sComps : Stmt := inClass (top 16) 5
abbrev sForest : Stmt := inClass (top 16) 6
abbrev sIsMod : Stmt := top 17
abbrev sIsEdge : Stmt := top 18
abbrev sCheck : Stmt := top 19
abbrev sGrown : Stmt := top 20
abbrev sTies : Stmt := top 21
abbrev sPool : Stmt := top 23
abbrev sTake : Stmt := top 24
abbrev sModulus : Stmt := top 25
abbrev sLinks : Stmt := top 26
abbrev sGroups : Stmt := top 27
abbrev sLaw : Stmt := top 28

/-! ### heaps: all but some addresses as it was -/
def But (l : List Addr) (H H' : Hp) : Prop := ∀ b o, b ∉ l → H b = some o → H' b = some o
theorem But.refl (l : List Addr) (H : Hp) : But l H H := fun _ _ _ h => h
theorem But.trans {l : List Addr} {H H1 H2 : Hp} (a : But l H H1) (b : But l H1 H2) : But l H H2 := fun c o n h => b c o n (a c o n h)
theorem But.of_same {l : List Addr} {H H' : Hp} (a : Same H H') : But l H H' := fun c o _ h => a c o h
theorem But.same {H H' : Hp} (a : But [] H H') : Same H H' := fun c o h => a c o (by simp) h
theorem But.at {l : List Addr} {H H' : Hp} (a : But l H H') {b : Addr} {o : HO} (n : b ∉ l) (h : H b = some o) : H' b = some o := a b o n h
theorem But.upd_in {l : List Addr} {H H' : Hp} {p : Addr} {o : HO} (a : But l H H') (h : p ∈ l) : But l H (upd H' p o) := fun b u n e => by
  rw [upd_ne (fun z => n (by rw [z]; exact h))]
  exact a b u n e
theorem But.new {l : List Addr} {H H' : Hp} {p : Addr} {o : HO} (a : But l H H') (h : H' p = none ∨ H p = none) : But l H (upd H' p o) := fun b u n e => by
  have e' := a b u n e
  rw [upd_ne]
  · exact e'
  · rintro rfl
    rcases h with h | h
    · rw [h] at e'; cases e'
    · rw [h] at e; cases e
theorem same_new {H H' : Hp} {p : Addr} {o : HO} (a : Same H H') (h : H' p = none ∨ H p = none) : Same H (upd H' p o) := fun b u e => by
  have e' := a b u e
  rw [upd_ne]
  · exact e'
  · rintro rfl
    rcases h with h | h
    · rw [h] at e'; cases e'
    · rw [h] at e; cases e
theorem But.free {l : List Addr} {H H' : Hp} (e : But l H H') {b : Addr} (n : b ∉ l) (h : H' b = none) : H b = none := by
  cases q : H b with
  | none => rfl
  | some o => rw [e b o n q] at h; cases h

/-! ### what is_integer says of a value's type -/
def IntB (K : PySem.W.Frag) (t : Value) (b : Bool) : Prop := ∃ b1, PySem.W.kitOne K t (.type "int") = some b1 ∧ (b1 = false → b = false) ∧ (b1 = true → ∃ b2, PySem.W.kitOne K t (.type "bool") = some b2 ∧ b = !b2)
theorem intB_int {K : PySem.W.Frag} : IntB K (.type "int") true := ⟨true, kit_ty (by decide +kernel), (fun h => nomatch h), (fun _ => ⟨false, kit_ty (by decide +kernel), rfl⟩)⟩

/-- the built-in names that stand for themselves -/
structure Bn (mg : Str → Option Value) : Prop where
  len : mg "len" = none
  range : mg "range" = none
  list : mg "list" = none
  min : mg "min" = none
  max : mg "max" = none
  enumerate : mg "enumerate" = none
  isinstance : mg "isinstance" = none
  int : mg "int" = none
  bool : mg "bool" = none
  tuple : mg "tuple" = none
  all : mg "all" = none

def spInt (K : PySem.W.Frag) : Sp := fun vs H Q _ => ∃ x t b, vs = [x] ∧ TyX K H x t ∧ IntB K t b ∧ Q (.bl b) H
/-- thing, low, high -/
def spBetween (K : PySem.W.Frag) : Sp := fun vs H Q _ => ∃ (x : V) (lo hi : Int) (t : Value) (b : Bool), vs = [x, .int lo, .int hi] ∧ TyX K H x t ∧ IntB K t b ∧ (b = false → Q (.bl false) H) ∧ (b = true → ∃ i, x = .int i ∧ Q (.bl (decide (lo ≤ i ∧ i ≤ hi))) H)

section
variable {P : Program} {w : World} {K : PySem.W.Frag} {mg : Str → Option Value} {base : Heap}
theorem scIsInt : FnScope ["thing"] ["thing"] (defScope sIsInt) := ⟨rfl, rfl, rfl, by decide +kernel, rfl, by decide +kernel, by decide +kernel⟩
theorem ok_isint {f : Addr} {fd : FuncData} (F : Fun K "is_integer" "is_integer" sIsInt f fd) (B : Bn mg) : FnOk P w K mg base CX0 1 f fd ["thing"] (spInt K) := by
  refine F.ok scIsInt (fun vs H Q E h => ?_) (fun cdv A outer s H vs Q E hr h => ?_)
  · obtain ⟨x, t, b, rfl, _⟩ := h
    rfl
  · obtain ⟨x, t, b, rfl, hty, ⟨b1, h1, hf, ht⟩, q⟩ := h
    refine ⟨_, pss_one (ps_ret (pe_and (pe_callB call_isi (by rfl) B.isinstance (by decide +kernel) (pa_cons (pv 0) (pa_cons (pe_bltn (v := .ty "int") (by rfl) B.int (by decide +kernel) rfl) pa_nil)))
      (pe_one (pe_not (pe_callB call_isi (by rfl) B.isinstance (by decide +kernel) (pa_cons (pv 0) (pa_cons (pe_bltn (v := .ty "bool") (by rfl) B.bool (by decide +kernel) rfl) pa_nil))))))), ?_⟩
    refine ⟨_, rfl, _, _, _, _, _, rfl, .ty _, hty, h1, _, rfl, ?_⟩
    cases b1 with
    | false =>
      refine iteF ?_
      rw [hf rfl] at q
      exact q
    | true =>
      obtain ⟨b2, h2, rfl⟩ := ht rfl
      refine iteT ?_
      exact ⟨_, rfl, _, _, _, _, _, rfl, .ty _, hty, h2, _, rfl, q⟩
theorem scBetween : FnScope ["thing", "low", "high"] ["thing", "low", "high"] (defScope sBetween) := ⟨rfl, rfl, rfl, by decide +kernel, rfl, by decide +kernel, by decide +kernel⟩
theorem ok_between {f g : Addr} {fd gd : FuncData} (F : Fun K "is_between" "is_between" sBetween f fd) (G : FnOk P w K mg base CX0 1 g gd ["thing"] (spInt K)) (mgG : mg "is_integer" = some (.ref g)) (kG : PySem.W.keepIn K (.ref g) = true) (bG : Binds K gd ["thing"] []) :
    FnOk P w K mg base CX0 2 f fd ["thing", "low", "high"] (spBetween K) := by
  refine F.ok scBetween (fun vs H Q E h => ?_) (fun cdv A outer s H vs Q E hr h => ?_)
  · obtain ⟨x, lo, hi, t, b, rfl, _⟩ := h
    rfl
  · obtain ⟨x, lo, hi, t, b, rfl, hty, hb, hf, ht⟩ := h
    refine ⟨_, pss_one (ps_ret (pe_and (pe_call G hr rfl mgG kG bG .nil pass0 (pa_cons (pv 0) pa_nil)) (pe_one (pe_chain op_le op_le (pv 1) (pv 0) (pv 2))))), ?_⟩
    refine ⟨_, rfl, x, t, b, rfl, hty, hb, b, rfl, ?_⟩
    cases b with
    | false => exact iteF (hf rfl)
    | true =>
      obtain ⟨i, rfl, q⟩ := ht rfl
      refine iteT ⟨_, rfl, _, rfl, _, _, rfl, rfl, _, rfl, ?_⟩
      refine ite2 (fun h1 => ?_) (fun h1 => ?_)
      · refine ⟨_, rfl, _, _, rfl, rfl, ?_⟩
        have h1' : lo ≤ i := of_decide_eq_true h1
        have e : decide (lo ≤ i ∧ i ≤ hi) = decide (i ≤ hi) := by
          by_cases h2 : i ≤ hi
          · rw [decide_eq_true h2, decide_eq_true ⟨h1', h2⟩]
          · rw [decide_eq_false h2, decide_eq_false fun z => h2 z.2]
        rw [e] at q
        exact q
      · have h1' : ¬ lo ≤ i := fun z => h1 (decide_eq_true z)
        rw [decide_eq_false fun z => h1' z.1] at q
        exact q
end
end Wb

namespace Wb
open PySem L2
/-! ### the law's own drawing -/
def PoolAt (H : Hp) (p : Addr) : Prop := ∃ a b : Int, H p = some (.lst [.int a, .int b]) ∧ 0 ≤ b ∧ b ≤ 2147483647
def spPool (K : PySem.W.Frag) : Sp := fun vs H Q _ => ∃ (a : Addr) (ns : List Int) (k : Int), vs = [.ref a, .int k] ∧ SqL K H a (ns.map V.int) ∧ ns.length ≤ 63 ∧ 0 ≤ k ∧ k ≤ 63 ∧
  ∀ H' p, Same H H' → H p = none → PoolAt H' p → Q (.ref p) H'
def spTake : Sp := fun vs H Q _ => ∃ (p : Addr) (k : Int), vs = [.ref p, .int k] ∧ PoolAt H p ∧ 0 < k ∧ k ≤ 10 ^ 18 ∧
  ∀ H' r, But [p] H H' → PoolAt H' p → 0 ≤ r → r < k → Q (.int r) H'
def spModulus : Sp := fun vs H Q _ => ∃ (p : Addr), vs = [.ref p] ∧ PoolAt H p ∧
  ∀ H' m, But [p] H H' → PoolAt H' p → m ∈ ([0, 2, 3, 4, 5, 12, 60] : List Int) → Q (.int m) H'
/-- a list of pairs lies at a -/
def PairsAt (H : Hp) (ts : List Addr) (ps : List (Nat × Nat)) : Prop := ts.length = ps.length ∧ ∀ (i : Nat) (t : Addr) (p : Nat × Nat), ts[i]? = some t → ps[i]? = some p → H t = some (.tup [.int p.1, .int p.2])
def EdgesAt (H : Hp) (a : Addr) (ts : List Addr) (ps : List (Nat × Nat)) : Prop := H a = some (.lst (ts.map V.ref)) ∧ PairsAt H ts ps
def Within (n : Nat) (ps : List (Nat × Nat)) : Prop := ∀ e ∈ ps, e.1 < n ∧ e.2 < n
theorem PairsAt.same {H H' : Hp} {ts : List Addr} {ps : List (Nat × Nat)} (h : PairsAt H ts ps) (s : Same H H') : PairsAt H' ts ps := ⟨h.1, fun i t p a b => s _ _ (h.2 i t p a b)⟩
theorem PairsAt.but {l : List Addr} {H H' : Hp} {ts : List Addr} {ps : List (Nat × Nat)} (h : PairsAt H ts ps) (s : But l H H') (n : ∀ b ∈ l, ∀ xs, H b ≠ some (.tup xs)) : PairsAt H' ts ps :=
  ⟨h.1, fun i t p a b => s _ _ (fun z => n t z _ (h.2 i t p a b)) (h.2 i t p a b)⟩
theorem PairsAt.snoc {H H' : Hp} {ts : List Addr} {ps : List (Nat × Nat)} {t : Addr} {p : Nat × Nat} (h : PairsAt H ts ps) (s : Same H H') (ht : H' t = some (.tup [.int p.1, .int p.2])) : PairsAt H' (ts ++ [t]) (ps ++ [p]) := by
  refine ⟨by simp [h.1], fun i u q a b => ?_⟩
  by_cases hi : i < ts.length
  · rw [List.getElem?_append_left hi] at a
    rw [List.getElem?_append_left (by rw [← h.1]; exact hi)] at b
    exact s _ _ (h.2 i u q a b)
  · have e : i = ts.length := by
      have := (List.getElem?_eq_some_iff.mp a).1
      simp at this
      omega
    subst e
    rw [List.getElem?_append_right (Nat.le_refl _)] at a
    rw [h.1, List.getElem?_append_right (Nat.le_refl _)] at b
    simp at a b
    subst a b
    exact ht
/-- many links, all in the pool's own heap's future -/
def spLinks : Sp := fun vs H Q _ => ∃ (p : Addr) (n m : Nat), vs = [.ref p, .int n, .int m] ∧ PoolAt H p ∧ 0 < n ∧ n ≤ 30 ∧ m ≤ 60 ∧
  ∀ H' a ts ps, But [p] H H' → PoolAt H' p → H a = none → EdgesAt H' a ts ps → Within n ps → ps.length ≤ m → Q (.ref a) H'
theorem PoolAt.nl {H : Hp} {p : Addr} (h : PoolAt H p) : ∃ xs, H p = some (.lst xs) := let ⟨_, _, h, _⟩ := h; ⟨_, h⟩

section
variable {P : Program} {w : World} {K : PySem.W.Frag} {mg : Str → Option Value} {base : Heap}
theorem scPool : FnScope ["_law_script", "_law_k", "_law_cell", "_law_seed"] ["_law_script", "_law_k"] (defScope sPool) := ⟨rfl, rfl, rfl, by decide +kernel, rfl, by decide +kernel, by decide +kernel⟩
theorem ok_pool {f : Addr} {fd : FuncData} (F : Fun K "_law_pool" "_law_pool" sPool f fd) (B : Bn mg) : FnOk P w K mg base CX0 1 f fd ["_law_script", "_law_k"] (spPool K) := by
  refine F.ok scPool (fun vs H Q E h => ?_) (fun cdv A outer s H vs Q E hr h => ?_)
  · obtain ⟨a, ns, k, rfl, _⟩ := h
    rfl
  · obtain ⟨a, ns, k, rfl, hS, hl, k0, k1, q⟩ := h
    refine ⟨_, pss_cons (ps_set (i := 2) scPool.nd rfl (Or.inl rfl) pe_int)
      (pss_cons (ps_if (pt_cmpR op_lt (pv 1) (pe_callB call_len_seq (by rfl) B.len PySem.boot_len (pa_cons (pv 0) pa_nil)) (nomark _)) (pss_one (ps_set (i := 2) scPool.nd rfl (Or.inl rfl) (pe_ix ix_list (pv 0) (pv 1) (fun _ _ => rfl)))) pss_nil)
      (pss_cons (ps_set (i := 3) scPool.nd rfl (Or.inl rfl) (pe_op op_mod (pe_op op_mul (pe_op op_add (pe_op op_add (pe_op op_mod (pv 2) pe_int) (pe_op op_mul (pe_op op_mul pe_int (pv 1)) (pv 1))) pe_int) pe_int) pe_int))
      (pss_cons (ps_if (pt_cmpR op_lt (pv 2) (pe_op op_pow pe_int pe_int) (nomark _)) (pss_one (ps_set (i := 2) scPool.nd rfl (Or.inl rfl) pe_int)) pss_nil)
      (pss_one (ps_ret (pe_lst (pa_cons (pv 2) (pa_cons (pe_op op_add (pe_op op_mod (pe_op op_mul (pv 3) (pv 3)) pe_int) pe_int) pa_nil)))))))), ?_⟩
    -- behind the first if: any cell
    have rest : ∀ c : Int, tSeq (tAsg (tOp (rI (fun _ j => 0 < j) fun i j => .int (i % j)) (tOp (rI CMul fun i j => .int (i * j)) (tOp (rI0 fun i j => .int (i + j)) (tOp (rI0 fun i j => .int (i + j)) (tOp (rI (fun _ j => 0 < j) fun i j => .int (i % j)) (tVar 2) (tC (.int 2147483629)))
        (tOp (rI CMul fun i j => .int (i * j)) (tOp (rI CMul fun i j => .int (i * j)) (tC (.int 7919)) (tVar 1)) (tVar 1))) (tC (.int 13))) (tC (.int 48271))) (tC (.int 2147483647))) (gName 3))
        (tSeq (tIfS (tTest (tOp (rI0 fun i j => .bl (decide (i < j))) (tVar 2) (tOp (rI CPow fun i j => .int (i ^ j.toNat)) (tC (.int 10)) (tC (.int 18))))) (tAsg (tC (.int 0)) (gName 2)) tNext)
          (tRet (tLst (tCons (tVar 2) (tCons (tOp (rI0 fun i j => .int (i + j)) (tOp (rI (fun _ j => 0 < j) fun i j => .int (i % j)) (tOp (rI CMul fun i j => .int (i * j)) (tVar 3) (tVar 3)) (tC (.int 2147483587))) (tC (.int 1))) tNil)))))
        { nx := fun _ H' => Q .non H', rt := Q } [some (.ref a), some (.int k), some (.int c), none] H := by
      intro c
      have b1 : 0 ≤ c % 2147483629 ∧ c % 2147483629 < 2147483629 := ⟨Int.emod_nonneg _ (by decide), Int.emod_lt_of_pos _ (by decide)⟩
      have b2 : 0 ≤ 7919 * k * k ∧ 7919 * k * k ≤ 7919 * 63 * 63 := by
        have h1 : 0 ≤ 7919 * k := by omega
        have h2 : 7919 * k ≤ 7919 * 63 := by omega
        exact ⟨Int.mul_nonneg h1 k0, Int.mul_le_mul h2 k1 k0 (by decide)⟩
      refine ⟨_, rfl, _, _, rfl, rfl, (by show (0 : Int) < 2147483629; decide), _, rfl, _, _, rfl, rfl, .inl ⟨by decide, by decide⟩, _, rfl, _, _, rfl, rfl, .inl ⟨by omega, by omega⟩, _, _, rfl, rfl, _, _, rfl, rfl, _, _, rfl, rfl, .inr ⟨by decide, by decide⟩, _, _, rfl, rfl, (by show (0 : Int) < 2147483647; decide), ?_⟩
      refine ⟨_, rfl, _, _, rfl, rfl, ⟨by decide, by decide, by decide⟩, _, _, rfl, rfl, _, rfl, ?_⟩
      have fin : ∀ c' sd : Int, 0 ≤ sd → sd < 2147483647 → (tRet (tLst (tCons (tVar 2) (tCons (tOp (rI0 fun i j => .int (i + j)) (tOp (rI (fun _ j => 0 < j) fun i j => .int (i % j)) (tOp (rI CMul fun i j => .int (i * j)) (tVar 3) (tVar 3)) (tC (.int 2147483587))) (tC (.int 1))) tNil)))) { nx := fun _ H' => Q .non H', rt := Q } [some (.ref a), some (.int k), some (.int c'), some (.int sd)] H := by
        intro c' sd h0 h1
        refine ⟨_, rfl, _, rfl, _, rfl, _, _, rfl, rfl, .inl ⟨by omega, by omega⟩, _, _, rfl, rfl, (by show (0 : Int) < 2147483587; decide), _, _, rfl, rfl, (by show 2 ≤ sizeLine; decide), fun p hp => ?_⟩
        have b4 : 0 ≤ sd * sd % 2147483587 ∧ sd * sd % 2147483587 < 2147483587 := ⟨Int.emod_nonneg _ (by decide), Int.emod_lt_of_pos _ (by decide)⟩
        exact q _ p (same_new (Same.refl H) (.inl hp)) hp ⟨_, _, upd_same, by omega, by omega⟩
      refine ite2 (fun _ => ?_) (fun _ => ?_)
      · exact fin 0 _ (Int.emod_nonneg _ (by decide)) (Int.emod_lt_of_pos _ (by decide))
      · exact fin c _ (Int.emod_nonneg _ (by decide)) (Int.emod_lt_of_pos _ (by decide))
    refine ⟨_, rfl, _, rfl, a, _, rfl, .inl hS, _, _, rfl, rfl, _, rfl, ?_⟩
    refine ite2 (fun h => ?_) (fun h => ?_)
    · have hlt : k < ((ns.map V.int).length : Int) := of_decide_eq_true h
      rw [List.length_map] at hlt
      obtain ⟨j, rfl⟩ : ∃ j : Nat, k = (j : Int) := ⟨k.toNat, (Int.toNat_of_nonneg k0).symm⟩
      have hj : j < ns.length := by omega
      exact ⟨_, rfl, _, rfl, a, _, _, .int ns[j], rfl, rfl, hS, atI_nat (by rw [List.getElem?_map, List.getElem?_eq_getElem hj]; rfl), rest ns[j]⟩
    · exact rest 0
theorem scTake : FnScope ["_law_pool_here", "_law_sides", "_law_found"] ["_law_pool_here", "_law_sides"] (defScope sTake) := ⟨rfl, rfl, rfl, by decide +kernel, rfl, by decide +kernel, by decide +kernel⟩
theorem ok_take {f : Addr} {fd : FuncData} (F : Fun K "_law_take" "_law_take" sTake f fd) : FnOk P w K mg base CX0 1 f fd ["_law_pool_here", "_law_sides"] spTake := by
  refine F.ok scTake (fun vs H Q E h => ?_) (fun cdv A outer s H vs Q E hr h => ?_)
  · obtain ⟨p, k, rfl, _⟩ := h
    rfl
  · obtain ⟨p, k, rfl, ⟨a, b, hp, b0, b1⟩, k0, k1, q⟩ := h
    refine ⟨_, pss_cons (ps_if (pt_cmpR op_gt (pe_ix ix_list (pv 0) pe_int (fun _ _ => rfl)) pe_int (nomark _))
        (pss_cons (ps_set (i := 2) scTake.nd rfl (Or.inl rfl) (pe_op op_mod (pe_ix ix_list (pv 0) pe_int (fun _ _ => rfl)) (pv 1)))
        (pss_cons (ps_asg (pe_op op_fdivW (pe_ix ix_list (pv 0) pe_int (fun _ _ => rfl)) (pv 1)) (pg_sub (pv 0) pe_int set_list)) (pss_one (ps_ret (pv 2))))) pss_nil)
      (pss_cons (ps_asg (pe_op op_mod (pe_op op_add (pe_op op_mul (pe_ix ix_list (pv 0) pe_int (fun _ _ => rfl)) pe_int) pe_int) pe_int) (pg_sub (pv 0) pe_int set_list))
      (pss_one (ps_ret (pe_op op_mod (pe_op op_fdiv (pe_op op_mod (pe_op op_mul (pe_ix ix_list (pv 0) pe_int (fun _ _ => rfl)) (pe_ix ix_list (pv 0) pe_int (fun _ _ => rfl))) pe_int) pe_int) (pv 1))))), ?_⟩
    refine ⟨_, rfl, p, _, _, .int a, rfl, rfl, SqL.of hp, rfl, _, _, rfl, rfl, _, rfl, ?_⟩
    refine ite2 (fun _ => ?_) (fun _ => ?_)
    · refine ⟨_, rfl, p, _, _, .int a, rfl, rfl, SqL.of hp, rfl, _, rfl, _, _, rfl, rfl, k0, ?_⟩
      refine ⟨_, rfl, p, _, _, .int a, rfl, rfl, SqL.of hp, rfl, _, rfl, _, _, rfl, rfl, wide_div (b := 60) k0 (by omega) (by decide) (by decide), ?_⟩
      refine ⟨_, rfl, p, _, _, 0, rfl, rfl, hp, rfl, ?_⟩
      exact ⟨_, rfl, q _ _ ((But.refl _ H).upd_in (by simp)) ⟨_, _, upd_same, b0, b1⟩ (Int.emod_nonneg _ (by omega)) (Int.emod_lt_of_pos _ k0)⟩
    · refine ⟨_, rfl, p, _, _, .int b, rfl, rfl, SqL.of hp, rfl, _, _, rfl, rfl, .inl ⟨by omega, by omega⟩, _, _, rfl, rfl, _, _, rfl, rfl, (by show (0 : Int) < 2147483647; decide), ?_⟩
      refine ⟨_, rfl, p, _, _, 1, rfl, rfl, hp, rfl, ?_⟩
      have b3 : 0 ≤ (b * 48271 + 11) % 2147483647 ∧ (b * 48271 + 11) % 2147483647 < 2147483647 := ⟨Int.emod_nonneg _ (by decide), Int.emod_lt_of_pos _ (by decide)⟩
      have hp2 : upd H p (.lst ([.int a, .int b].set 1 (.int ((b * 48271 + 11) % 2147483647)))) p = some (.lst [.int a, .int ((b * 48271 + 11) % 2147483647)]) := upd_same
      refine ⟨_, rfl, p, _, _, .int ((b * 48271 + 11) % 2147483647), rfl, rfl, SqL.of hp2, rfl, _, rfl, p, _, _, .int ((b * 48271 + 11) % 2147483647), rfl, rfl, SqL.of hp2, rfl, _, _, rfl, rfl, .inl ⟨by omega, by omega⟩, _, _, rfl, rfl, (by show (0 : Int) < 2147483629; decide),
        _, _, rfl, rfl, ⟨by decide, by decide⟩, _, rfl, _, _, rfl, rfl, k0, ?_⟩
      exact q _ _ ((But.refl _ H).upd_in (by simp)) ⟨_, _, hp2, b3.1, by omega⟩ (Int.emod_nonneg _ (by omega)) (Int.emod_lt_of_pos _ k0)
end
end Wb

namespace Wb
open PySem L2
theorem at_moduli {r : Int} (h0 : 0 ≤ r) (h1 : r < 8) : ∃ m : Int, m ∈ ([0, 2, 3, 4, 5, 12, 60] : List Int) ∧ atI ([.int 0, .int 0, .int 2, .int 3, .int 4, .int 5, .int 12, .int 60] : List V) r = some (.int m) := by
  have e : r = 0 ∨ r = 1 ∨ r = 2 ∨ r = 3 ∨ r = 4 ∨ r = 5 ∨ r = 6 ∨ r = 7 := by omega
  rcases e with rfl | rfl | rfl | rfl | rfl | rfl | rfl | rfl
  · exact ⟨0, by decide, rfl⟩
  · exact ⟨0, by decide, rfl⟩
  · exact ⟨2, by decide, rfl⟩
  · exact ⟨3, by decide, rfl⟩
  · exact ⟨4, by decide, rfl⟩
  · exact ⟨5, by decide, rfl⟩
  · exact ⟨12, by decide, rfl⟩
  · exact ⟨60, by decide, rfl⟩
theorem PoolAt.new {H : Hp} {p l : Addr} {o : HO} (h : PoolAt H p) (n : H l = none) : PoolAt (upd H l o) p := by
  obtain ⟨a, b, hp, b0, b1⟩ := h
  exact ⟨a, b, by rw [upd_ne (ne_of_none hp n)]; exact hp, b0, b1⟩
theorem PoolAt.notup {H : Hp} {p : Addr} (h : PoolAt H p) : ∀ b ∈ [p], ∀ xs, H b ≠ some (.tup xs) := fun b hb xs e => by
  obtain ⟨_, _, hp, _⟩ := h
  have e' : b = p := by simpa using hb
  subst e'
  rw [hp] at e
  cases e
theorem PoolAt.ne {H : Hp} {p l : Addr} (h : PoolAt H p) (n : H l = none) : l ∉ [p] := fun hl => by
  obtain ⟨_, _, hp, _⟩ := h
  have e' : l = p := by simpa using hl
  subst e'
  rw [hp] at n
  cases n
section
variable {P : Program} {w : World} {K : PySem.W.Frag} {mg : Str → Option Value} {base : Heap}
theorem scModulus : FnScope ["_law_pool_here"] ["_law_pool_here"] (defScope sModulus) := ⟨rfl, rfl, rfl, by decide +kernel, rfl, by decide +kernel, by decide +kernel⟩
theorem ok_modulus {f g : Addr} {fd gd : FuncData} (F : Fun K "_law_modulus" "_law_modulus" sModulus f fd) (G : FnOk P w K mg base CX0 1 g gd ["_law_pool_here", "_law_sides"] spTake) (mgG : mg "_law_take" = some (.ref g)) (kG : PySem.W.keepIn K (.ref g) = true) (bG : Binds K gd ["_law_pool_here", "_law_sides"] []) :
    FnOk P w K mg base CX0 2 f fd ["_law_pool_here"] spModulus := by
  refine F.ok scModulus (fun vs H Q E h => ?_) (fun cdv A outer s H vs Q E hr h => ?_)
  · obtain ⟨p, rfl, _⟩ := h
    rfl
  · obtain ⟨p, rfl, hp, q⟩ := h
    refine ⟨_, pss_one (ps_ret (pe_ix ix_list (pe_lst (pa_cons pe_int (pa_cons pe_int (pa_cons pe_int (pa_cons pe_int (pa_cons pe_int (pa_cons pe_int (pa_cons pe_int (pa_cons pe_int pa_nil)))))))))
      (pe_call G hr rfl mgG kG bG .nil pass0 (pa_cons (pv 0) (pa_cons pe_int pa_nil))) (fun _ _ => rfl))), ?_⟩
    refine ⟨(by show 8 ≤ sizeLine; decide), fun l hl => ⟨_, rfl, p, 8, rfl, hp.new hl, by decide, by decide, fun H' r hb hp' r0 r1 => ?_⟩⟩
    obtain ⟨m, hm, hat⟩ := at_moduli r0 r1
    refine ⟨l, _, r, .int m, rfl, rfl, SqL.of (hb.at (hp.ne hl) upd_same), hat, ?_⟩
    exact q _ _ (((But.refl _ H).new (.inl hl)).trans hb) hp' hm
theorem scLinks : FnScope ["_law_pool_here", "_law_nodes", "_law_most", "_law_found", "_law_turn"] ["_law_pool_here", "_law_nodes", "_law_most"] (defScope sLinks) := ⟨rfl, rfl, rfl, by decide +kernel, rfl, by decide +kernel, by decide +kernel⟩
theorem ok_links {f g : Addr} {fd gd : FuncData} (F : Fun K "_law_links" "_law_links" sLinks f fd) (B : Bn mg) (G : FnOk P w K mg base CX0 1 g gd ["_law_pool_here", "_law_sides"] spTake) (mgG : mg "_law_take" = some (.ref g)) (kG : PySem.W.keepIn K (.ref g) = true) (bG : Binds K gd ["_law_pool_here", "_law_sides"] []) :
    FnOk P w K mg base CX0 2 f fd ["_law_pool_here", "_law_nodes", "_law_most"] spLinks := by
  refine F.ok scLinks (fun vs H Q E h => ?_) (fun cdv A outer s H vs Q E hr h => ?_)
  · obtain ⟨p, n, m, rfl, _⟩ := h
    rfl
  · obtain ⟨p, n, m, rfl, hp, n0, n1, m1, q⟩ := h
    refine ⟨_, pss_cons (ps_set (i := 3) scLinks.nd rfl (Or.inl rfl) (pe_lst pa_nil))
      (pss_cons (ps_for PassesOwn.never rfl (pi_range1 rfl B.range (pa_cons (pe_call G hr rfl mgG kG bG .nil pass0 (pa_cons (pv 0) (pa_cons (pe_op op_add (pv 2) pe_int) pa_nil))) pa_nil)) (pg_name (i := 4) scLinks.nd rfl (Or.inl rfl))
        (pss_one (ps_expr (pe_bm PySem.F.plainAttrs_list PySem.F.slot_list_append PySem.F.type_list_append mt_append (pv 3) (pa_cons (pe_tup (pa_cons (pe_call G hr rfl mgG kG bG .nil pass0 (pa_cons (pv 0) (pa_cons (pv 1) pa_nil)))
          (pa_cons (pe_call G hr rfl mgG kG bG .nil pass0 (pa_cons (pv 0) (pa_cons (pv 1) pa_nil))) pa_nil))) pa_nil)))))
      (pss_one (ps_ret (pv 3)))), ?_⟩
    refine ⟨Nat.zero_le _, fun l hl => ?_⟩
    have nlp := hp.ne hl
    refine ⟨_, rfl, _, rfl, _, _, rfl, rfl, p, (m : Int) + 1, rfl, hp.new hl, by omega, by omega, fun H1 r hb1 hp1 r0 r1 => ?_⟩
    have hb1' : But [p] H H1 := ((But.refl _ H).new (.inl hl)).trans hb1
    refine ⟨r, rfl, by omega, by omega, for_range (lo := 0) (n := r.toNat) (fun i σ H' => ∃ ts ps v, σ = [some (.ref p), some (.int n), some (.int m), some (.ref l), v] ∧ But [p] H H' ∧ PoolAt H' p ∧ EdgesAt H' l ts ps ∧ Within n ps ∧ ps.length = i)
      ⟨[], [], none, rfl, hb1', hp1, ⟨hb1.at nlp upd_same, rfl, fun i t p a => by simp at a⟩, fun e he => by simp at he, rfl⟩ ?_ ?_⟩
    · rintro i σ H2 hi ⟨ts, ps, v, rfl, hb2, hp2, ⟨hl2, hps2⟩, hw2, hlen2⟩
      refine ⟨_, rfl, .inl ⟨rfl, _, SqL.of hl2⟩, ?_⟩
      refine ⟨_, rfl, _, rfl, p, (n : Int), rfl, hp2, by omega, by omega, fun H3 a hb3 hp3 a0 a1 => ?_⟩
      refine ⟨_, rfl, _, rfl, p, (n : Int), rfl, hp3, by omega, by omega, fun H4 b hb4 hp4 c0 c1 => ?_⟩
      refine ⟨(by show 2 ≤ sizeLine; decide), fun t ht => ?_⟩
      have hb24 : But [p] H2 H4 := hb3.trans hb4
      have hl4 := hb24.at nlp hl2
      refine ⟨l, _, _, rfl, rfl, (by rw [upd_ne (ne_of_none hl4 ht)]; exact hl4), ?_, ?_⟩
      · rw [List.length_map, hps2.1, hlen2]
        have h9 : i ≤ 60 := by omega
        exact Nat.lt_of_le_of_lt h9 (by decide)
      · obtain ⟨a', rfl⟩ : ∃ j : Nat, a = (j : Int) := ⟨a.toNat, (Int.toNat_of_nonneg a0).symm⟩
        obtain ⟨b', rfl⟩ : ∃ j : Nat, b = (j : Int) := ⟨b.toNat, (Int.toNat_of_nonneg c0).symm⟩
        have ntl : t ≠ l := (ne_of_none hl4 ht).symm
        have hps4 : PairsAt H4 ts ps := hps2.but hb24 hp2.notup
        refine ⟨ts ++ [t], ps ++ [(a', b')], _, rfl, ?_, ?_, ⟨?_, ?_⟩, ?_, by simp [hlen2]⟩
        · exact ((hb2.trans hb24).new (.inl ht)).new (.inr hl)
        · obtain ⟨x, y, e, y0, y1⟩ := hp4
          refine ⟨x, y, ?_, y0, y1⟩
          have npl : p ≠ l := fun z => nlp (by simp [z])
          rw [upd_ne npl, upd_ne (ne_of_none e ht)]
          exact e
        · rw [upd_same]
          simp
        · have s1 : Same H4 (upd H4 t (.tup [.int (a' : Int), .int (b' : Int)])) := same_new (Same.refl _) (.inl ht)
          have h5 : PairsAt (upd H4 t (.tup [.int (a' : Int), .int (b' : Int)])) (ts ++ [t]) (ps ++ [(a', b')]) := hps4.snoc s1 upd_same
          refine ⟨h5.1, fun i u pr e1 e2 => ?_⟩
          have h6 := h5.2 i u pr e1 e2
          have nul : u ≠ l := by
            rintro rfl
            rw [upd_ne ntl.symm, hl4] at h6
            cases h6
          rw [upd_ne nul]
          exact h6
        · intro e he
          rcases List.mem_append.mp he with he | he
          · exact hw2 e he
          · have e' : e = (a', b') := by simpa using he
            subst e'
            exact ⟨by show a' < n; omega, by show b' < n; omega⟩
    · rintro σ H2 ⟨ts, ps, v, rfl, hb2, hp2, hE, hw2, hlen2⟩
      exact ⟨_, rfl, q H2 l ts ps hb2 hp2 hl hE hw2 (by omega)⟩
end
end Wb

/-! ### the mathematics: labels by the earliest node, two ways -/
namespace Wm
abbrev Es := List (Nat × Nat)
def gs (f : Nat → Nat) (e : Nat × Nat) : Nat → Nat := fun v => if f v = max (f e.1) (f e.2) then min (f e.1) (f e.2) else f v
def F (ps : Es) : Nat → Nat := ps.foldl gs id
def ls (f : Nat → Nat) (e : Nat × Nat) : Nat → Nat := fun v => if v = e.2 then min (f e.1) (f e.2) else if v = e.1 then min (f e.1) (f e.2) else f v
def sweep (ps : Es) (f : Nat → Nat) : Nat → Nat := ps.foldl ls f
def R (ps : Es) : Nat → Nat → Nat
  | 0 => id
  | t + 1 => sweep ps (R ps t)
structure Root (ps : Es) (f : Nat → Nat) : Prop where
  le : ∀ v, f v ≤ v
  idem : ∀ v, f (f v) = f v
  edge : ∀ e ∈ ps, f e.1 = f e.2
  conn : ∀ g : Nat → Nat, (∀ e ∈ ps, g e.1 = g e.2) → ∀ v, g (f v) = g v
theorem min_or (a b : Nat) : min a b = a ∧ max a b = b ∨ min a b = b ∧ max a b = a := by
  by_cases h : a ≤ b
  · exact .inl ⟨Nat.min_eq_left h, Nat.max_eq_right h⟩
  · exact .inr ⟨Nat.min_eq_right (by omega), Nat.max_eq_left (by omega)⟩
theorem gs_le (f : Nat → Nat) (e : Nat × Nat) (v : Nat) : gs f e v ≤ f v := by
  unfold gs
  split
  · rename_i h
    rw [h]
    exact Nat.le_trans (Nat.min_le_left _ _) (Nat.le_max_left _ _)
  · exact Nat.le_refl _
theorem gs_hit {f : Nat → Nat} {e : Nat × Nat} {v : Nat} (h : f v = max (f e.1) (f e.2)) : gs f e v = min (f e.1) (f e.2) := if_pos h
theorem gs_miss {f : Nat → Nat} {e : Nat × Nat} {v : Nat} (h : ¬ f v = max (f e.1) (f e.2)) : gs f e v = f v := if_neg h
theorem Root.step {ps : Es} {f : Nat → Nat} (r : Root ps f) (e : Nat × Nat) : Root (ps ++ [e]) (gs f e) := by
  have mm := min_or (f e.1) (f e.2)
  have fmin : f (min (f e.1) (f e.2)) = min (f e.1) (f e.2) := by
    rcases mm with ⟨h, _⟩ | ⟨h, _⟩ <;> rw [h] <;> exact r.idem _
  refine ⟨fun v => Nat.le_trans (gs_le f e v) (r.le v), fun v => ?_, fun e' he => ?_, fun g hg v => ?_⟩
  · by_cases h : f v = max (f e.1) (f e.2)
    · rw [gs_hit h]
      by_cases h2 : f (min (f e.1) (f e.2)) = max (f e.1) (f e.2)
      · rw [gs_hit h2]
      · rw [gs_miss h2]; exact fmin
    · rw [gs_miss h]
      have h2 : ¬ f (f v) = max (f e.1) (f e.2) := by rw [r.idem]; exact h
      rw [gs_miss h2]; exact r.idem v
  · rcases List.mem_append.mp he with he | he
    · have q := r.edge e' he
      unfold gs
      rw [q]
    · have e1 : e' = e := by simpa using he
      subst e1
      have one : ∀ x, f x = f e'.1 ∨ f x = f e'.2 → gs f e' x = min (f e'.1) (f e'.2) := fun x hx => by
        by_cases h : f x = max (f e'.1) (f e'.2)
        · exact gs_hit h
        · rw [gs_miss h]
          rcases mm with ⟨a, b⟩ | ⟨a, b⟩ <;> rcases hx with hx | hx <;> first | (rw [a, hx]; done) | (exact absurd (hx.trans b.symm) h)
      rw [one e'.1 (.inl rfl), one e'.2 (.inr rfl)]
  · have hold := r.conn g (fun e' he => hg e' (List.mem_append_left _ he))
    have hge := hg e (List.mem_append_right _ (by simp))
    have h1 := hold e.1
    have h2 := hold e.2
    by_cases h : f v = max (f e.1) (f e.2)
    · rw [gs_hit h]
      have h3 := hold v
      rw [h] at h3
      rcases mm with ⟨a, b⟩ | ⟨a, b⟩
      · rw [a, h1, hge, ← h2, ← b]; exact h3
      · rw [a, h2, ← hge, ← h1, ← b]; exact h3
    · rw [gs_miss h]; exact hold v
theorem Root.nil : Root [] id := ⟨fun _ => Nat.le_refl _, fun _ => rfl, (fun _ h => nomatch h), fun _ _ _ => rfl⟩
theorem F_snoc (ps : Es) (e : Nat × Nat) : F (ps ++ [e]) = gs (F ps) e := by
  unfold F
  rw [List.foldl_append]
  rfl
theorem take_snoc {α : Type} {l : List α} {k : Nat} {x : α} (h : l[k]? = some x) : l.take (k + 1) = l.take k ++ [x] := by
  rw [List.take_add_one, h]
  rfl
theorem root_F : ∀ (k : Nat) (ps : Es), Root (ps.take k) (F (ps.take k))
  | 0, ps => by rw [List.take_zero]; exact Root.nil
  | k + 1, ps => by
    cases h : ps[k]? with
    | none =>
      have e : ps.take (k + 1) = ps.take k := by
        have hl := List.getElem?_eq_none_iff.mp h
        rw [List.take_of_length_le hl, List.take_of_length_le (by omega)]
      rw [e]
      exact root_F k ps
    | some e =>
      rw [take_snoc h, F_snoc]
      exact (root_F k ps).step e
theorem rootF (ps : Es) : Root ps (F ps) := by
  have h := root_F ps.length ps
  rw [List.take_length] at h
  exact h
/-! the law's sweeps -/
theorem ls_le (f : Nat → Nat) (e : Nat × Nat) (v : Nat) : ls f e v ≤ f v := by
  unfold ls
  split
  · rename_i h; rw [h]; exact Nat.min_le_right _ _
  · split
    · rename_i h; rw [h]; exact Nat.min_le_left _ _
    · exact Nat.le_refl _
theorem sweep_le : ∀ (ps : Es) (f : Nat → Nat) (v : Nat), sweep ps f v ≤ f v
  | [], _, _ => Nat.le_refl _
  | e :: ps, f, v => Nat.le_trans (sweep_le ps (ls f e) v) (ls_le f e v)
theorem ls_1 (f : Nat → Nat) (e : Nat × Nat) : ls f e e.1 = min (f e.1) (f e.2) := by
  unfold ls
  split
  · rfl
  · rw [if_pos rfl]
theorem ls_2 (f : Nat → Nat) (e : Nat × Nat) : ls f e e.2 = min (f e.1) (f e.2) := by
  unfold ls
  rw [if_pos rfl]
theorem sweep_edge : ∀ (ps : Es) (f : Nat → Nat) (e : Nat × Nat), e ∈ ps → sweep ps f e.1 ≤ min (f e.1) (f e.2) ∧ sweep ps f e.2 ≤ min (f e.1) (f e.2)
  | [], _, _, h => by cases h
  | d :: ps, f, e, h => by
    rcases List.mem_cons.mp h with rfl | h
    · have h1 := sweep_le ps (ls f e) e.1
      have h2 := sweep_le ps (ls f e) e.2
      rw [ls_1] at h1
      rw [ls_2] at h2
      exact ⟨h1, h2⟩
    · have ih := sweep_edge ps (ls f d) e h
      have a := ls_le f d e.1
      have b := ls_le f d e.2
      have m : min (ls f d e.1) (ls f d e.2) ≤ min (f e.1) (f e.2) := by
        rcases min_or (f e.1) (f e.2) with ⟨q, _⟩ | ⟨q, _⟩ <;> rw [q]
        · exact Nat.le_trans (Nat.min_le_left _ _) a
        · exact Nat.le_trans (Nat.min_le_right _ _) b
      exact ⟨Nat.le_trans ih.1 m, Nat.le_trans ih.2 m⟩
theorem ls_conn {g f : Nat → Nat} {e : Nat × Nat} (he : g e.1 = g e.2) (h : ∀ v, g (f v) = g v) (v : Nat) : g (ls f e v) = g v := by
  have hm : g (min (f e.1) (f e.2)) = g e.1 := by
    rcases min_or (f e.1) (f e.2) with ⟨q, _⟩ | ⟨q, _⟩ <;> rw [q, h]
    exact he.symm
  unfold ls
  split
  · rename_i q; rw [hm, q]; exact he
  · split
    · rename_i q; rw [hm, q]
    · exact h v
theorem sweep_conn {g : Nat → Nat} : ∀ (ps : Es) (f : Nat → Nat), (∀ e ∈ ps, g e.1 = g e.2) → (∀ v, g (f v) = g v) → ∀ v, g (sweep ps f v) = g v
  | [], _, _, h => h
  | e :: ps, f, hg, h => sweep_conn ps (ls f e) (fun d hd => hg d (List.mem_cons_of_mem _ hd)) (ls_conn (hg e (List.mem_cons_self ..)) h)
theorem R_conn {g : Nat → Nat} {ps : Es} (hg : ∀ e ∈ ps, g e.1 = g e.2) : ∀ (t v : Nat), g (R ps t v) = g v
  | 0, _ => rfl
  | t + 1, v => sweep_conn ps (R ps t) hg (R_conn hg t) v
theorem R_le (ps : Es) : ∀ (t v : Nat), R ps t v ≤ v
  | 0, _ => Nat.le_refl _
  | t + 1, v => Nat.le_trans (sweep_le ps (R ps t) v) (R_le ps t v)
theorem F_le_R (ps : Es) (t v : Nat) : F ps v ≤ R ps t v := by
  have r := rootF ps
  have h := R_conn (g := F ps) (ps := ps) r.edge t v
  rw [← h]
  exact r.le _
theorem countP_lt {p q : Nat → Bool} : ∀ {l : List Nat}, (∀ x ∈ l, p x = true → q x = true) → (∃ x ∈ l, q x = true ∧ p x = false) → l.countP p < l.countP q
  | [], _, ⟨_, h, _⟩ => by cases h
  | a :: l, hpq, ⟨x, hx, qx, px⟩ => by
    have mono : l.countP p ≤ l.countP q := List.countP_mono_left fun y hy => hpq y (List.mem_cons_of_mem _ hy)
    rcases List.mem_cons.mp hx with rfl | hx
    · rw [List.countP_cons_of_pos qx, List.countP_cons_of_neg (by simp [px])]
      omega
    · have ih := countP_lt (l := l) (fun y hy => hpq y (List.mem_cons_of_mem _ hy)) ⟨x, hx, qx, px⟩
      by_cases ha : p a = true
      · rw [List.countP_cons_of_pos ha, List.countP_cons_of_pos (hpq a (List.mem_cons_self ..) ha)]
        omega
      · rw [List.countP_cons_of_neg ha]
        by_cases hb : q a = true
        · rw [List.countP_cons_of_pos hb]; omega
        · rw [List.countP_cons_of_neg hb]; exact ih
def hit (ps : Es) (t : Nat) : Nat → Bool := fun v => decide (R ps t v = F ps v)
theorem hit_mono (ps : Es) (t v : Nat) (h : hit ps t v = true) : hit ps (t + 1) v = true := by
  have h' : R ps t v = F ps v := of_decide_eq_true h
  have a := F_le_R ps (t + 1) v
  have b : R ps (t + 1) v ≤ R ps t v := sweep_le ps (R ps t) v
  exact decide_eq_true (by omega)
theorem hit_all_or (ps : Es) (n : Nat) (wi : ∀ e ∈ ps, e.1 < n ∧ e.2 < n) (t : Nat) : (∀ v, hit ps t v = true) ∨ (List.range n).countP (hit ps t) < (List.range n).countP (hit ps (t + 1)) := by
  by_cases hx : ∃ e ∈ ps, hit ps t e.1 ≠ hit ps t e.2
  · right
    obtain ⟨e, he, hne⟩ := hx
    have r := rootF ps
    have fe := r.edge e he
    have sw := sweep_edge ps (R ps t) e he
    have a1 := F_le_R ps (t + 1) e.1
    have a2 := F_le_R ps (t + 1) e.2
    have both : R ps (t + 1) e.1 ≤ min (R ps t e.1) (R ps t e.2) ∧ R ps (t + 1) e.2 ≤ min (R ps t e.1) (R ps t e.2) := sw
    have m1 := Nat.min_le_left (R ps t e.1) (R ps t e.2)
    have m2 := Nat.min_le_right (R ps t e.1) (R ps t e.2)
    have either : hit ps t e.1 = true ∨ hit ps t e.2 = true := by
      cases h1 : hit ps t e.1 with
      | true => exact .inl rfl
      | false =>
        cases h2 : hit ps t e.2 with
        | true => exact .inr rfl
        | false => rw [h1, h2] at hne; exact absurd rfl hne
    have n1 : hit ps (t + 1) e.1 = true := by
      rcases either with h | h
      · exact hit_mono ps t _ h
      · have h' : R ps t e.2 = F ps e.2 := of_decide_eq_true h
        exact decide_eq_true (by omega)
    have n2 : hit ps (t + 1) e.2 = true := by
      rcases either with h | h
      · have h' : R ps t e.1 = F ps e.1 := of_decide_eq_true h
        exact decide_eq_true (by omega)
      · exact hit_mono ps t _ h
    refine countP_lt (fun x _ => hit_mono ps t x) ?_
    cases h1 : hit ps t e.1 with
    | false => exact ⟨e.1, List.mem_range.mpr (wi e he).1, n1, h1⟩
    | true =>
      refine ⟨e.2, List.mem_range.mpr (wi e he).2, n2, ?_⟩
      cases h2 : hit ps t e.2 with
      | false => rfl
      | true => rw [h1, h2] at hne; exact absurd rfl hne
  · left
    intro v
    have r := rootF ps
    have hg : ∀ e ∈ ps, (fun u => (hit ps t u).toNat) e.1 = (fun u => (hit ps t u).toNat) e.2 := fun e he => by
      by_cases q : hit ps t e.1 = hit ps t e.2
      · show (hit ps t e.1).toNat = (hit ps t e.2).toNat
        rw [q]
      · exact absurd ⟨e, he, q⟩ hx
    have c := r.conn (fun u => (hit ps t u).toNat) hg v
    have root : hit ps t (F ps v) = true := by
      have a := R_le ps t (F ps v)
      have b := F_le_R ps t (F ps v)
      rw [r.idem] at b
      refine decide_eq_true ?_
      rw [r.idem]
      omega
    have c' : (hit ps t (F ps v)).toNat = (hit ps t v).toNat := c
    rw [root] at c'
    cases q : hit ps t v with
    | true => rfl
    | false => rw [q] at c'; cases c'
theorem count_le (ps : Es) (n : Nat) (wi : ∀ e ∈ ps, e.1 < n ∧ e.2 < n) : ∀ t, (∀ v, hit ps t v = true) ∨ t ≤ (List.range n).countP (hit ps t)
  | 0 => .inr (Nat.zero_le _)
  | t + 1 => by
    rcases count_le ps n wi t with h | h
    · exact .inl fun v => hit_mono ps t v (h v)
    · rcases hit_all_or ps n wi t with h2 | h2
      · exact .inl fun v => hit_mono ps t v (h2 v)
      · exact .inr (by omega)
theorem R_is_F (ps : Es) (n : Nat) (wi : ∀ e ∈ ps, e.1 < n ∧ e.2 < n) : ∀ v, v < n → R ps n v = F ps v := by
  intro v hv
  have all : hit ps n v = true := by
    rcases count_le ps n wi n with h | h
    · exact h v
    · have hl := List.countP_le_length (p := hit ps n) (l := List.range n)
      rw [List.length_range] at hl
      have e : (List.range n).countP (hit ps n) = (List.range n).length := by rw [List.length_range]; omega
      exact List.countP_eq_length.mp e v (List.mem_range.mpr hv)
  exact of_decide_eq_true all
/-! groups -/
def groupOf (n : Nat) (f : Nat → Nat) (first : Nat) : List Nat := (List.range n).filter fun v => decide (f v = first)
def groups (n : Nat) (f : Nat → Nat) : List (List Nat) := ((List.range n).filter fun a => decide (f a = a)).map (groupOf n f)
theorem groupOf_congr {n : Nat} {f g : Nat → Nat} (h : ∀ v, v < n → f v = g v) (a : Nat) : groupOf n f a = groupOf n g a := by
  unfold groupOf
  exact List.filter_congr fun v hv => by rw [h v (List.mem_range.mp hv)]
theorem groups_congr {n : Nat} {f g : Nat → Nat} (h : ∀ v, v < n → f v = g v) : groups n f = groups n g := by
  unfold groups
  rw [List.filter_congr (fun a ha => by rw [h a (List.mem_range.mp ha)])]
  exact List.map_congr_left fun a _ => groupOf_congr h a
/-- a name that stands among the labels is its own label -/
theorem mem_labels {ps : Es} {n a : Nat} (ha : a < n) : a ∈ (List.range n).map (F ps) ↔ F ps a = a := by
  have r := rootF ps
  constructor
  · intro h
    obtain ⟨v, _, e⟩ := List.mem_map.mp h
    rw [← e, r.idem]
  · intro h
    exact List.mem_map.mpr ⟨a, List.mem_range.mpr ha, h⟩
/-- a group has both exactly if their labels agree -/
theorem both_in {ps : Es} {n t h : Nat} (ht : t < n) (hh : h < n) : ((groups n (F ps)).filter fun g => decide (t ∈ g) && decide (h ∈ g)) = [] ↔ F ps t ≠ F ps h := by
  have r := rootF ps
  constructor
  · intro e q
    have hm : groupOf n (F ps) (F ps t) ∈ groups n (F ps) := by
      refine List.mem_map.mpr ⟨F ps t, List.mem_filter.mpr ⟨List.mem_range.mpr (Nat.lt_of_le_of_lt (r.le t) ht), decide_eq_true (r.idem t)⟩, rfl⟩
    have hf : groupOf n (F ps) (F ps t) ∈ (groups n (F ps)).filter fun g => decide (t ∈ g) && decide (h ∈ g) := by
      refine List.mem_filter.mpr ⟨hm, ?_⟩
      have a : t ∈ groupOf n (F ps) (F ps t) := List.mem_filter.mpr ⟨List.mem_range.mpr ht, decide_eq_true rfl⟩
      have b : h ∈ groupOf n (F ps) (F ps t) := List.mem_filter.mpr ⟨List.mem_range.mpr hh, decide_eq_true q.symm⟩
      rw [decide_eq_true a, decide_eq_true b]
      rfl
    rw [e] at hf
    cases hf
  · intro q
    refine List.filter_eq_nil_iff.mpr fun g hg hb => ?_
    obtain ⟨a, _, rfl⟩ := List.mem_map.mp hg
    simp only [Bool.and_eq_true, decide_eq_true_eq] at hb
    have h1 := of_decide_eq_true (List.mem_filter.mp hb.1).2
    have h2 := of_decide_eq_true (List.mem_filter.mp hb.2).2
    exact q (h1.trans h2.symm)
/-- the forest's numbers among the first k edges -/
def at2 (ps : Es) (i : Nat) : Nat × Nat := ps.getD i (0, 0)
def grows (ps : Es) (i : Nat) : Bool := decide (F (ps.take i) (at2 ps i).1 ≠ F (ps.take i) (at2 ps i).2)
def nums (ps : Es) (k : Nat) : List Nat := (List.range k).filter (grows ps)
theorem nums_succ (ps : Es) (k : Nat) : nums ps (k + 1) = if grows ps k = true then nums ps k ++ [k] else nums ps k := by
  unfold nums
  rw [List.range_succ, List.filter_append]
  cases h : grows ps k with
  | true => simp [h]
  | false => simp [h]
theorem at2_get {ps : Es} {i : Nat} {e : Nat × Nat} (h : ps[i]? = some e) : at2 ps i = e := by
  unfold at2
  rw [List.getD_eq_getElem?_getD, h]
  rfl
end Wm

namespace Wb
open PySem L2
/-! ### targets and walks that the layer lacks -/
/-- o.f as a target -/
def gAttr (K : PySem.W.Frag) (to : TE) (f : Str) : TG := fun v σ H Q => to σ H fun x H1 => ∃ a C dx fs, x = .ref a ∧ H1 a = some (.ins C dx fs) ∧ Cls K C ∧ NoAttr K C f ∧ fs.length < 1000 ∧ Q σ (upd H1 a (.ins C dx (putF f v fs)))
theorem pg_attr {X : Cx} {o : Expr} {f : Str} {pos : Pos} {to : TE} (ho : PE X o to) : PG X (.Attribute o f pos) (gAttr X.K to f) := by
  refine ⟨fun pins s σ H v u Q I r h => ?_⟩
  rw [assign_Attribute]
  refine wpAny_bind (wpAny_holding (thn (ho.run pins s σ H _ I h) fun ov s1 ⟨x, H1, I1, r1, a, C, dx, fs, ex, ea, c, n, l, q⟩ => ?_))
  subst ex
  obtain rfl : ov = Value.ref a := r1
  exact wpAny_bind (wpAny_standAt (wpAny_bind (wpAny_holding (setattr_ok I1 ea c n l r fun s2 I2 => wpAny_release ⟨σ, _, I2, q⟩))))
/-- for .. in enumerate(list) -/
theorem for_enum {K : PySem.W.Frag} {a : Addr} {xs : List V} {g : TG} {tb : TS} {D : Ends} {σ : L2.St} {H : Hp} (Pv : Nat → L2.St → Hp → Prop) (h0 : Pv 0 σ H) (hl : ∀ i σ H, i ≤ xs.length → Pv i σ H → SqL K H a xs)
    (hs : ∀ i x T σ H, xs[i]? = some x → Pv i σ H → H T = none → g (.ref T) σ (upd H T (.tup [.int (i : Nat), x])) fun σ2 H2 => tb { D with nx := Pv (i + 1), ct := Pv (i + 1), bk := D.nx } σ2 H2) (hd : ∀ σ H, Pv xs.length σ H → D.nx σ H) :
    ∃ W : Nat → Nat → L2.St → Hp → Prop, (∃ m, W 0 m σ H) ∧ ∀ i m σ H, W i m σ H →
      ((Ite K a).stop i H ∧ D.nx σ H) ∨ ((Ite K a).go i H ∧ ∃ N : L2.St → Hp → Prop, (∀ σ' H', N σ' H' → ∃ m', m' < m ∧ W (i + 1) m' σ' H') ∧ ∀ x H', (Ite K a).yld i H x H' → g x σ H' fun σ2 H2 => tb { D with nx := N, ct := N, bk := D.nx } σ2 H2) := by
  refine ⟨fun i m σ H => m = xs.length - i ∧ i ≤ xs.length ∧ Pv i σ H, ⟨xs.length, by simp, Nat.zero_le _, h0⟩, ?_⟩
  rintro i m σ H ⟨rfl, hi, p⟩
  have q := hl i σ H hi p
  by_cases hlt : i < xs.length
  · refine .inr ⟨⟨xs, xs[i], q, by simp [hlt]⟩, Pv (i + 1), fun σ' H' p' => ⟨xs.length - (i + 1), by omega, rfl, hlt, p'⟩, fun x H' y => ?_⟩
    obtain ⟨T, z, rfl, hT, rfl, y⟩ := y
    exact hs i z T σ H (y xs q) p hT
  · have e : i = xs.length := by omega
    subst e
    exact .inl ⟨⟨xs, q, Nat.le_refl _⟩, hd σ H p⟩
/-! ### types of values under more heap -/
theorem tyX_same {K : PySem.W.Frag} {H H' : Hp} {x : V} {t : Value} (s : Same H H') (h : TyX K H x t) : TyX K H' x t := by
  cases h with
  | base b =>
    refine .base ?_
    cases b with
    | non => exact .non
    | bl y => exact .bl y
    | int i => exact .int i
    | str y => exact .str y
    | flt y => exact .flt y
    | lst e => exact .lst (s _ _ e)
    | frz e => exact .frz (s _ _ e)
    | tup e => exact .tup (s _ _ e)
    | dK e => exact .dK (s _ _ e)
    | dT e => exact .dT (s _ _ e)
    | ins e cl ha hn htk hm => exact .ins (s _ _ e) cl ha hn htk hm
  | byt b => exact .byt b
  | set e => exact .set (s _ _ e)
  | kList e c => exact .kList e c
  | kTuple e c => exact .kTuple e c
  | kDict e c => exact .kDict e c
  | fTuple e => exact .fTuple (s _ _ e)
  | fDict e => exact .fDict (s _ _ e)
theorem tyes {σ : L2.St} {H : Hp} {A B : Hp → Prop} (h : A H) : tYes σ H (fun b H3 => if b = true then A H3 else B H3) := by
  show if true = true then A H else B H
  rw [if_pos rfl]
  exact h
/-! ### lists of numbers -/
def ivs (l : List Nat) : List V := l.map fun (v : Nat) => V.int (v : Int)
def lab (n : Nat) (f : Nat → Nat) : List V := ivs ((List.range n).map f)
theorem ivs_at {l : List Nat} {i k : Nat} (h : l[i]? = some k) : atI (ivs l) (i : Int) = some (.int (k : Int)) := atI_nat (by unfold ivs; rw [List.getElem?_map, h]; rfl)
theorem lab_at {n : Nat} {f : Nat → Nat} {i : Nat} (h : i < n) : atI (lab n f) (i : Int) = some (.int (f i : Int)) := ivs_at (by rw [List.getElem?_map, List.getElem?_range h]; rfl)
theorem lab_len (n : Nat) (f : Nat → Nat) : (lab n f).length = n := by simp [lab, ivs]
theorem lab_get {n : Nat} {f : Nat → Nat} {i : Nat} (h : i < n) : (lab n f)[i]? = some (.int (f i : Int)) := by
  unfold lab ivs
  rw [List.getElem?_map, List.getElem?_map, List.getElem?_range h]
  rfl
theorem lab_congr {n : Nat} {f g : Nat → Nat} (h : ∀ v, v < n → f v = g v) : lab n f = lab n g := by
  unfold lab
  rw [List.map_congr_left fun v hv => h v (List.mem_range.mp hv)]
/-- the constants of the module -/
structure Cs (mg : Str → Option Value) : Prop where
  nodes : ∃ t, mg "MOST_NODES" = some (.int 30 t)
  edges : ∃ t, mg "MOST_EDGES" = some (.int 60 t)
  least : ∃ t, mg "LEAST_MODULUS" = some (.int 2 t)
  most : ∃ t, mg "MOST_MODULUS" = some (.int 60 t)
/-- a def by its name, its promise, its place: what a caller wants -/
structure Df (P : Program) (w : World) (K : PySem.W.Frag) (mg : Str → Option Value) (base : Heap) (k : Nat) (x : Str) (ps : List Str) (sp : Sp) : Prop where
  ex : ∃ (g : Addr) (gd : FuncData), FnOk P w K mg base CX0 k g gd ps sp ∧ mg x = some (.ref g) ∧ PySem.W.keepIn K (.ref g) = true ∧ Binds K gd ps []
def spIsMod (K : PySem.W.Frag) : Sp := fun vs H Q _ => ∃ (x : V) (t : Value) (b : Bool), vs = [x] ∧ TyX K H x t ∧ IntB K t b ∧ (b = false → Q (.bl false) H) ∧ (b = true → ∃ i, x = .int i ∧ Q (.bl (decide (i = 0 ∨ 2 ≤ i ∧ i ≤ 60))) H)
/-- b: x is a node below n -/
def NodeV (K : PySem.W.Frag) (H : Hp) (n : Nat) (x : V) (b : Bool) : Prop := ∃ t c, TyX K H x t ∧ IntB K t c ∧ (c = false → b = false) ∧ (c = true → ∃ i : Int, x = .int i ∧ b = decide (0 ≤ i ∧ i ≤ (n : Int) - 1))
theorem NodeV.same {K : PySem.W.Frag} {H H' : Hp} {n : Nat} {x : V} {b : Bool} (s : Same H H') (h : NodeV K H n x b) : NodeV K H' n x b := let ⟨t, c, h1, h2⟩ := h; ⟨t, c, tyX_same s h1, h2⟩
theorem NodeV.int {K : PySem.W.Frag} {H : Hp} {n v : Nat} (h : v < n) : NodeV K H n (.int (v : Int)) true := ⟨_, true, .base (.int _), intB_int, (fun z => nomatch z), fun _ => ⟨v, rfl, (decide_eq_true (by omega)).symm⟩⟩
def spIsEdge (K : PySem.W.Frag) : Sp := fun vs H Q _ => ∃ (n : Nat) (x : V), vs = [.int n, x] ∧
  ((∃ t, TyX K H x t ∧ PySem.W.kitOne K t (.type "tuple") = some false ∧ Q (.bl false) H) ∨ (∃ a xs, x = .ref a ∧ H a = some (.tup xs) ∧ xs.length ≠ 2 ∧ Q (.bl false) H) ∨
   (∃ a u v bu bv, x = .ref a ∧ H a = some (.tup [u, v]) ∧ NodeV K H n u bu ∧ NodeV K H n v bv ∧ ∀ H', Same H H' → Q (.bl (bu && bv)) H'))
def spCheck (K : PySem.W.Frag) : Sp := fun vs H Q _ => ∃ (n : Nat) (a : Addr) (ts : List Addr) (ps : List (Nat × Nat)), vs = [.int n, .ref a] ∧ EdgesAt H a ts ps ∧ Within n ps ∧ ps.length ≤ 60 ∧ ∀ H', Same H H' → Q .non H'
section
variable {P : Program} {w : World} {K : PySem.W.Frag} {mg : Str → Option Value} {base : Heap}
theorem scIsMod : FnScope ["thing"] ["thing"] (defScope sIsMod) := ⟨rfl, rfl, rfl, by decide +kernel, rfl, by decide +kernel, by decide +kernel⟩
theorem ok_ismod {f : Addr} {fd : FuncData} (F : Fun K "is_modulus" "is_modulus" sIsMod f fd) (C : Cs mg) (D : Df P w K mg base 1 "is_integer" ["thing"] (spInt K)) : FnOk P w K mg base CX0 2 f fd ["thing"] (spIsMod K) := by
  obtain ⟨g, gd, G, mgG, kG, bG⟩ := D.ex
  obtain ⟨t1, c1⟩ := C.least
  obtain ⟨t2, c2⟩ := C.most
  refine F.ok scIsMod (fun vs H Q E h => ?_) (fun cdv A outer s H vs Q E hr h => ?_)
  · obtain ⟨x, t, b, rfl, _⟩ := h
    rfl
  · obtain ⟨x, t, b, rfl, hty, hb, hf, ht⟩ := h
    refine ⟨_, pss_one (ps_ret (pe_and (pe_call G hr rfl mgG kG bG .nil pass0 (pa_cons (pv 0) pa_nil)) (pe_one (pe_or (pe_cmpR op_eq (pv 0) pe_int (nomark _))
      (pe_one (pe_chain op_le op_le (pe_glob rfl c1 (v := .int 2) ⟨_, rfl⟩) (pv 0) (pe_glob rfl c2 (v := .int 60) ⟨_, rfl⟩))))))), ?_⟩
    refine ⟨_, rfl, x, t, b, rfl, hty, hb, b, rfl, ?_⟩
    cases b with
    | false => exact iteF (hf rfl)
    | true =>
      obtain ⟨i, rfl, q⟩ := ht rfl
      refine iteT ⟨_, rfl, rfl, _, rfl, ?_⟩
      by_cases h0 : i = 0
      · subst h0
        refine if_pos (show decide (V.int 0 = V.int 0) = true from rfl) ▸ ?_
        exact q
      · have e0 : decide (V.int i = V.int 0) = false := decide_eq_false fun z => h0 (V.int.inj z)
        rw [e0]
        refine iteF ⟨_, rfl, _, _, rfl, rfl, _, rfl, ?_⟩
        refine ite2 (fun h1 => ?_) (fun h1 => ?_)
        · have h1' : 2 ≤ i := of_decide_eq_true h1
          refine ⟨_, _, rfl, rfl, ?_⟩
          have e : decide (i = 0 ∨ 2 ≤ i ∧ i ≤ 60) = decide (i ≤ 60) := by
            by_cases h2 : i ≤ 60
            · rw [decide_eq_true h2, decide_eq_true (.inr ⟨h1', h2⟩)]
            · rw [decide_eq_false h2, decide_eq_false (by omega)]
          rw [e] at q
          exact q
        · have h1' : ¬ 2 ≤ i := fun z => h1 (decide_eq_true z)
          rw [decide_eq_false (by omega)] at q
          exact q
theorem scIsEdge : FnScope ["size", "thing", "node"] ["size", "thing"] (defScope sIsEdge) := ⟨rfl, rfl, rfl, by decide +kernel, rfl, by decide +kernel, by decide +kernel⟩
theorem ok_isedge {f : Addr} {fd : FuncData} (F : Fun K "is_edge" "is_edge" sIsEdge f fd) (B : Bn mg) (D : Df P w K mg base 2 "is_between" ["thing", "low", "high"] (spBetween K)) : FnOk P w K mg base CX0 3 f fd ["size", "thing"] (spIsEdge K) := by
  obtain ⟨g, gd, G, mgG, kG, bG⟩ := D.ex
  refine F.ok scIsEdge (fun vs H Q E h => ?_) (fun cdv A outer s H vs Q E hr h => ?_)
  · obtain ⟨n, x, rfl, _⟩ := h
    rfl
  · obtain ⟨n, x, rfl, h⟩ := h
    refine ⟨_, pss_cons (ps_if (PW.pt (pw_or (pt_not (pt_val (pe_callB call_isi (by rfl) B.isinstance (by decide +kernel) (pa_cons (pv 1) (pa_cons (pe_bltn (v := .ty "tuple") (by rfl) B.tuple (by decide +kernel) rfl) pa_nil)))))
        (pw_or1 (pt_cmpR op_ne (pe_callB call_len_seq (by rfl) B.len PySem.boot_len (pa_cons (pv 1) pa_nil)) pe_int (nomark _))))) (pss_one (ps_ret pe_bl)) pss_nil)
      (pss_one (ps_ret (pe_callB (cr_all rfl) (by rfl) B.all (by decide +kernel) (pa_cons (pe_lc (own := [("node", 2)]) (g := gName 2) rfl scIsEdge.nd (pi_tup (pv 1)) (blkOk_by (N := ["size", "thing", "node"]) (sc := defScope sIsEdge) (by decide +kernel))
        (fun _ _ _ _ _ => pg_name (i := 2) scIsEdge.nd rfl (Or.inl rfl)) (fun _ _ _ _ _ => pts_nil) (fun _ _ _ _ _ => pe_call G hr rfl mgG kG bG .nil pass0 (pa_cons (pv 2) (pa_cons pe_int (pa_cons (pe_op op_sub (pv 0) pe_int) pa_nil))))) pa_nil)))), ?_⟩
    rcases h with ⟨t, hty, hk, q⟩ | ⟨a, xs, rfl, ha, hl, q⟩ | ⟨a, u, v, bu, bv, rfl, ha, hu, hv, q⟩
    · exact ⟨_, rfl, _, _, _, _, _, rfl, .ty _, hty, hk, _, rfl, iteT (iteT q)⟩
    · refine ⟨_, rfl, _, _, _, _, _, rfl, .ty _, .base (.tup ha), kit_ty (r := true) (by decide +kernel), _, rfl, iteF ⟨_, rfl, a, _, rfl, .inr (SqT.of ha), rfl, _, rfl, ?_⟩⟩
      have e : (!decide (V.int (xs.length : Int) = V.int 2)) = true := by
        rw [decide_eq_false fun z => hl (by have := V.int.inj z; omega)]
        rfl
      rw [e]
      exact iteT q
    · refine ⟨_, rfl, _, _, _, _, _, rfl, .ty _, .base (.tup ha), kit_ty (r := true) (by decide +kernel), _, rfl, iteF ⟨_, rfl, a, _, rfl, .inr (SqT.of ha), rfl, _, rfl, iteF ?_⟩⟩
      refine ⟨_, rfl, a, rfl, ⟨_, SqT.of ha⟩, fun D hD => lc_tup (xs := [u, v]) (fun i H' => Same H H' ∧ H' D = some (.lst (([bu, bv].take i).map V.bl)))
        ⟨same_new (Same.refl _) (.inl hD), upd_same⟩ (fun i H' _ ⟨s1, _⟩ => SqT.of (s1 _ _ ha)) ?_ ?_⟩
      · have one : ∀ (i : Nat) (x : V) (b : Bool) (H' : Hp), NodeV K H n x b → [bu, bv][i]? = some b → Same H H' → H' D = some (.lst (([bu, bv].take i).map V.bl)) →
            (tCall (spBetween K) [] E0 (tCons (tVar 2) (tCons (tC (.int 0)) (tCons (tOp (rI0 fun i j => .int (i - j)) (tVar 0) (tC (.int 1))) tNil)))) [some (.int n), some (.ref a), some x] H' fun y H4 => ∃ acc, H4 D = some (.lst acc) ∧ acc.length < sizeLine ∧
              (Same H (upd H4 D (.lst (acc ++ [y]))) ∧ (upd H4 D (.lst (acc ++ [y]))) D = some (.lst (([bu, bv].take (i + 1)).map V.bl))) := by
          intro i x b H' hx hb s1 hD'
          obtain ⟨t, c, h1, h2, h3, h4⟩ := hx
          have fin : ∀ b', b' = b → ∃ acc, H' D = some (.lst acc) ∧ acc.length < sizeLine ∧ (Same H (upd H' D (.lst (acc ++ [V.bl b']))) ∧ (upd H' D (.lst (acc ++ [V.bl b']))) D = some (.lst (([bu, bv].take (i + 1)).map V.bl))) := by
            rintro b' rfl
            refine ⟨_, hD', ?_, same_new s1 (.inr hD), ?_⟩
            · rw [List.length_map, List.length_take]
              exact Nat.lt_of_le_of_lt (Nat.min_le_right i 2) (by decide)
            · rw [upd_same, Wm.take_snoc hb, List.map_append]
              rfl
          refine ⟨_, rfl, _, rfl, _, _, rfl, rfl, x, 0, (n : Int) - 1, t, c, rfl, tyX_same s1 h1, h2, fun hc => ?_, fun hc => ?_⟩
          · exact fin false (h3 hc).symm
          · obtain ⟨z, rfl, e⟩ := h4 hc
            exact ⟨z, rfl, fin _ e.symm⟩
        intro i x H' hi ⟨s1, hD'⟩
        match i, hi with
        | 0, hi =>
          have e : u = x := Option.some.inj hi
          subst e
          exact ⟨rfl, tyes (one 0 u bu H' hu rfl s1 hD')⟩
        | 1, hi =>
          have e : v = x := Option.some.inj hi
          subst e
          exact ⟨rfl, tyes (one 1 v bv H' hv rfl s1 hD')⟩
      · intro H' ⟨s1, hD'⟩
        refine ⟨D, [bu, bv], rfl, SqL.of hD', ?_⟩
        have e : [bu, bv].all id = (bu && bv) := by simp
        rw [e]
        exact q H' s1
theorem scCheck : FnScope ["size", "edges", "entry"] ["size", "edges"] (defScope sCheck) := ⟨rfl, rfl, rfl, by decide +kernel, rfl, by decide +kernel, by decide +kernel⟩
theorem ok_check {f : Addr} {fd : FuncData} (F : Fun K "check_edges" "check_edges" sCheck f fd) (B : Bn mg) (C : Cs mg) (D : Df P w K mg base 3 "is_edge" ["size", "thing"] (spIsEdge K)) : FnOk P w K mg base CX0 4 f fd ["size", "edges"] (spCheck K) := by
  obtain ⟨g, gd, G, mgG, kG, bG⟩ := D.ex
  obtain ⟨t1, c1⟩ := C.edges
  refine F.ok scCheck (fun vs H Q E h => ?_) (fun cdv A outer s H vs Q E hr h => ?_)
  · obtain ⟨n, a, ts, ps, rfl, _⟩ := h
    rfl
  · obtain ⟨n, a, ts, ps, rfl, hE, hw, hl, q⟩ := h
    refine ⟨_, pss_cons (ps_if (pt_not (pt_val (pe_callB call_isiT (by rfl) B.isinstance (by decide +kernel) (pa_cons (pv 1) (pa_cons (pe_tup (pa_cons (pe_bltn (v := .ty "list") (by rfl) B.list (by decide +kernel) rfl) (pa_cons (pe_bltn (v := .ty "tuple") (by rfl) B.tuple (by decide +kernel) rfl) pa_nil))) pa_nil))))) (pss_one ps_never) pss_nil)
      (pss_cons (ps_for PassesOwn.never rfl (pi_list (pv 1)) (pg_name (i := 2) scCheck.nd rfl (Or.inl rfl)) (pss_one (ps_if (pt_not (pt_val (pe_call G hr rfl mgG kG bG .nil pass0 (pa_cons (pv 0) (pa_cons (pv 2) pa_nil))))) (pss_one ps_never) pss_nil)))
      (pss_one (ps_if (pt_cmpR op_gt (pe_callB call_len_seq (by rfl) B.len PySem.boot_len (pa_cons (pv 1) pa_nil)) (pe_glob rfl c1 (v := .int 60) ⟨_, rfl⟩) (nomark _)) (pss_one ps_never) pss_nil))), ?_⟩
    refine ⟨_, rfl, (by show 2 ≤ sizeLine; decide), fun tp htp => ⟨_, tp, _, _, _, true, rfl, upd_same, .cons (.ty _) (.cons (.ty _) .nil), .base (.lst (by rw [upd_ne (ne_of_none hE.1 htp)]; exact hE.1)), kitAny_cons (b := true) (kit_ty (by decide +kernel)) (fun z => nomatch z) (fun _ => rfl), _, rfl, iteF ?_⟩⟩
    have s0 : Same H (upd H tp (.tup [.ty "list", .ty "tuple"])) := same_new (Same.refl _) (.inl htp)
    refine ⟨_, rfl, a, rfl, ⟨_, SqL.of (s0 _ _ hE.1)⟩, for_list (K := K) (xs := ts.map V.ref) (fun i σ H' => ∃ v, σ = [some (.int n), some (.ref a), v] ∧ Same H H') ⟨none, rfl, s0⟩ (fun i σ H' _ ⟨_, _, s1⟩ => SqL.of (s1 _ _ hE.1)) ?_ ?_⟩
    · rintro i x σ H' hi ⟨v, rfl, s1⟩
      obtain ⟨t, ht, rfl⟩ : ∃ t, ts[i]? = some t ∧ x = V.ref t := by
        rw [List.getElem?_map] at hi
        cases e : ts[i]? with
        | none => rw [e] at hi; cases hi
        | some t => rw [e] at hi; exact ⟨t, rfl, (Option.some.inj hi).symm⟩
      have hi' : i < ps.length := by rw [← hE.2.1]; exact (List.getElem?_eq_some_iff.mp ht).1
      have hp : ps[i]? = some ps[i] := List.getElem?_eq_getElem hi'
      have hw' := hw ps[i] (List.getElem_mem hi')
      refine ⟨_, rfl, _, rfl, n, .ref t, rfl, .inr (.inr ⟨t, _, _, true, true, rfl, s1 _ _ (hE.2.2 i t _ ht hp), .int hw'.1, .int hw'.2, fun H2 s2 => ⟨_, rfl, iteF ⟨_, rfl, s1.trans s2⟩⟩⟩)⟩
    · rintro σ H' ⟨v, rfl, s1⟩
      refine ⟨_, rfl, a, _, rfl, .inl (SqL.of (s1 _ _ hE.1)), _, _, rfl, rfl, _, rfl, ?_⟩
      have e : decide ((60 : Int) < ((ts.map V.ref).length : Int)) = false := decide_eq_false (by rw [List.length_map, hE.2.1]; omega)
      rw [e]
      exact iteF (q H' s1)
end
end Wb

namespace Wb
open PySem L2
theorem imin (a b : Nat) : (if (b : Int) < (a : Int) then (b : Int) else (a : Int)) = ((min a b : Nat) : Int) := by
  rcases Wm.min_or a b with ⟨h, h2⟩ | ⟨h, h2⟩
  · rw [h, if_neg (by have := Nat.min_le_right a b; omega)]
  · rw [h]
    split
    · rfl
    · have := Nat.min_le_left a b
      omega
theorem imax (a b : Nat) : (if (b : Int) > (a : Int) then (b : Int) else (a : Int)) = ((max a b : Nat) : Int) := by
  rcases Wm.min_or a b with ⟨h, h2⟩ | ⟨h, h2⟩
  · rw [h2]
    split
    · rfl
    · have := Nat.le_max_left a b
      omega
  · rw [h2, if_neg (by have := Nat.le_max_right a b; omega)]
theorem dint (a b : Nat) : decide (V.int (a : Int) = V.int (b : Int)) = decide (a = b) := by
  by_cases h : a = b
  · subst h; simp
  · rw [decide_eq_false h, decide_eq_false fun z => h (by have := V.int.inj z; omega)]
theorem refs_get {ts : List Addr} {i : Nat} {x : V} (h : (ts.map V.ref)[i]? = some x) : ∃ t, ts[i]? = some t ∧ x = V.ref t := by
  rw [List.getElem?_map] at h
  cases e : ts[i]? with
  | none => rw [e] at h; cases h
  | some t => rw [e] at h; exact ⟨t, rfl, (Option.some.inj h).symm⟩
theorem ivs_get {l : List Nat} {i : Nat} {x : V} (h : (ivs l)[i]? = some x) : ∃ k, l[i]? = some k ∧ x = V.int (k : Int) := by
  unfold ivs at h
  rw [List.getElem?_map] at h
  cases e : l[i]? with
  | none => rw [e] at h; cases h
  | some t => rw [e] at h; exact ⟨t, rfl, (Option.some.inj h).symm⟩
theorem gs_same {f : Nat → Nat} {e : Nat × Nat} (h : f e.1 = f e.2) : Wm.gs f e = f := by
  funext v
  by_cases h2 : f v = max (f e.1) (f e.2)
  · rw [Wm.gs_hit h2, h2, h]
    simp
  · exact Wm.gs_miss h2
theorem rg_lab (n : Nat) : rgV 0 (n : Int) = lab n id := by
  unfold rgV lab ivs
  rw [List.map_id]
  have e : ((n : Int) - 0).toNat = n := by omega
  rw [e]
  exact List.map_congr_left fun i _ => by rw [Int.zero_add]
theorem rgOk {n : Nat} (h : n ≤ 1000) : RgOk 0 (n : Int) := RgOk.of_le (Int.le_refl _) (by omega) (by decide) (by omega)
theorem PairsAt.get {H : Hp} {ts : List Addr} {ps : List (Nat × Nat)} (h : PairsAt H ts ps) {i : Nat} {t : Addr} (ht : ts[i]? = some t) : ∃ e, ps[i]? = some e ∧ H t = some (.tup [.int e.1, .int e.2]) := by
  have hi : i < ps.length := by rw [← h.1]; exact (List.getElem?_eq_some_iff.mp ht).1
  exact ⟨ps[i], List.getElem?_eq_getElem hi, h.2 i t _ ht (List.getElem?_eq_getElem hi)⟩
theorem mem_of_get {α : Type} {l : List α} {i : Nat} {x : α} (h : l[i]? = some x) : x ∈ l := by
  obtain ⟨hi, rfl⟩ := List.getElem?_eq_some_iff.mp h
  exact List.getElem_mem hi
def spGrown : Sp := fun vs H Q _ => ∃ (n : Nat) (a : Addr) (ts : List Addr) (ps : List (Nat × Nat)), vs = [.int n, .ref a] ∧ EdgesAt H a ts ps ∧ Within n ps ∧ ps.length ≤ 60 ∧ n ≤ 30 ∧
  ∀ H' t nl fl, Same H H' → H' t = some (.tup [.ref nl, .ref fl]) → H nl = none → H fl = none → H' nl = some (.lst (ivs (Wm.nums ps ps.length))) → H' fl = some (.lst (lab n (Wm.F ps))) → Q (.ref t) H'
section
variable {P : Program} {w : World} {K : PySem.W.Frag} {mg : Str → Option Value} {base : Heap}
theorem scGrown : FnScope ["size", "pairs", "numbers", "firsts", "number", "tail", "head", "low", "high", "first"] ["size", "pairs"] (defScope sGrown) := ⟨rfl, rfl, rfl, by decide +kernel, rfl, by decide +kernel, by decide +kernel⟩
theorem ok_grown {f : Addr} {fd : FuncData} (F : Fun K "grown_forest" "grown_forest" sGrown f fd) (B : Bn mg) : FnOk P w K mg base CX0 1 f fd ["size", "pairs"] spGrown := by
  refine F.ok scGrown (fun vs H Q E h => ?_) (fun cdv A outer s H vs Q E hr h => ?_)
  · obtain ⟨n, a, ts, ps, rfl, _⟩ := h
    rfl
  · obtain ⟨n, a, ts, ps, rfl, hE, hw, hl, hn, q⟩ := h
    refine ⟨_, pss_cons (ps_set (i := 2) scGrown.nd rfl (Or.inl rfl) (pe_lst pa_nil))
      (pss_cons (ps_set (i := 3) scGrown.nd rfl (Or.inl rfl) (pe_listRg rfl rfl B.list (prg_1 rfl B.range (pv 0))))
      (pss_cons (ps_for PassesOwn.never rfl (pi_enum rfl B.enumerate (pa_cons (pv 1) pa_nil))
          (pg_tup rfl (pgs_cons (pg_name (i := 4) scGrown.nd rfl (Or.inl rfl)) (pgs_cons (pg_tup rfl (pgs_cons (pg_name (i := 5) scGrown.nd rfl (Or.inl rfl)) (pgs_cons (pg_name (i := 6) scGrown.nd rfl (Or.inl rfl)) pgs_nil))) pgs_nil)))
        (pss_one (ps_if (pt_cmpR op_ne (pe_ix ix_list (pv 3) (pv 5) (fun _ _ => rfl)) (pe_ix ix_list (pv 3) (pv 6) (fun _ _ => rfl)) (nomark _))
          (pss_cons (ps_expr (pe_bm PySem.F.plainAttrs_list PySem.F.slot_list_append PySem.F.type_list_append mt_append (pv 2) (pa_cons (pv 4) pa_nil)))
          (pss_cons (ps_set (i := 7) scGrown.nd rfl (Or.inr rfl) (pe_callB (call_min2 rfl) (by rfl) B.min (by decide +kernel) (pa_cons (pe_ix ix_list (pv 3) (pv 5) (fun _ _ => rfl)) (pa_cons (pe_ix ix_list (pv 3) (pv 6) (fun _ _ => rfl)) pa_nil))))
          (pss_cons (ps_set (i := 8) scGrown.nd rfl (Or.inr rfl) (pe_callB (call_max2 rfl) (by rfl) B.max (by decide +kernel) (pa_cons (pe_ix ix_list (pv 3) (pv 5) (fun _ _ => rfl)) (pa_cons (pe_ix ix_list (pv 3) (pv 6) (fun _ _ => rfl)) pa_nil))))
          (pss_one (ps_setLc (i := 3) (own := [("first", 9)]) (g := gName 9) rfl scGrown.nd rfl rfl (sw_true rfl rfl rfl (by decide +kernel)) (pi_list (pv 3)) (blkOk_by (N := ["size", "pairs", "numbers", "firsts", "number", "tail", "head", "low", "high", "first"]) (sc := defScope sGrown) (by decide +kernel))
            (fun _ _ _ _ _ => pg_name (i := 9) scGrown.nd rfl (Or.inl rfl)) (fun _ _ _ _ _ => pts_nil) (fun _ _ _ _ _ => pe_ifExp (pt_cmpR op_eq (pv 9) (pv 8) (nomark _)) (pv 7) (pv 9))))))) pss_nil)))
      (pss_one (ps_ret (pe_tup (pa_cons (pv 2) (pa_cons (pv 3) pa_nil))))))), ?_⟩
    refine ⟨Nat.zero_le _, fun nl hnl => ?_⟩
    refine ⟨_, rfl, _, rfl, rgOk (by omega), fun fl hfl => ?_⟩
    rw [rg_lab]
    have hfl0 : H fl = none := (same_new (Same.refl H) (.inl hnl)).free hfl
    have nfn : nl ≠ fl := fun z => by rw [← z, upd_same] at hfl; cases hfl
    have s0 : Same H (upd (upd H nl (.lst [])) fl (.lst (lab n id))) := same_new (same_new (Same.refl H) (.inl hnl)) (.inr hfl0)
    refine ⟨_, rfl, a, _, rfl, SqL.of (s0 _ _ hE.1), for_enum (K := K) (xs := ts.map V.ref) (fun i σ H' => ∃ fl v4 v5 v6 v7 v8, σ = [some (.int n), some (.ref a), some (.ref nl), some (.ref fl), v4, v5, v6, v7, v8, none] ∧ Same H H' ∧ H fl = none ∧ nl ≠ fl ∧
        H' nl = some (.lst (ivs (Wm.nums ps i))) ∧ H' fl = some (.lst (lab n (Wm.F (ps.take i)))))
      ⟨fl, none, none, none, none, none, rfl, s0, hfl0, nfn, by rw [upd_ne nfn, upd_same]; rfl, upd_same⟩ (fun i σ H' _ ⟨_, _, _, _, _, _, _, s1, _⟩ => SqL.of (s1 _ _ hE.1)) ?_ ?_⟩
    · rintro i x T σ H1 hi ⟨fl, v4, v5, v6, v7, v8, rfl, s1, hfl0, nfn, h1n, h1f⟩ hT
      obtain ⟨t, ht, rfl⟩ := refs_get hi
      obtain ⟨e, he, het⟩ := (hE.2.same s1).get ht
      have hwe := hw e (mem_of_get he)
      have hi60 : i < ps.length := (List.getElem?_eq_some_iff.mp he).1
      have s2 : Same H1 (upd H1 T (.tup [.int (i : Nat), .ref t])) := same_new (Same.refl H1) (.inl hT)
      have h2n := s2 _ _ h1n
      have h2f := s2 _ _ h1f
      have s02 := s1.trans s2
      generalize hH2 : upd H1 T (.tup [.int (i : Nat), .ref t]) = H2 at *
      refine ⟨T, _, rfl, SqT.of (by rw [← hH2]; exact upd_same), rfl, _, _, rfl, _, _, rfl, t, _, rfl, SqT.of (s2 _ _ het), rfl, _, _, rfl, _, _, rfl, rfl, rfl, ?_⟩
      have hF := Wm.root_F i ps
      generalize hf : Wm.F (ps.take i) = f at *
      have hF' : Wm.F (ps.take (i + 1)) = Wm.gs f e := by rw [Wm.take_snoc he, Wm.F_snoc, hf]
      refine ⟨_, rfl, _, rfl, fl, _, _, _, rfl, rfl, SqL.of h2f, lab_at hwe.1, _, rfl, _, rfl, fl, _, _, _, rfl, rfl, SqL.of h2f, lab_at hwe.2, rfl, _, rfl, ?_⟩
      rw [dint]
      by_cases hd : f e.1 = f e.2
      · rw [decide_eq_true hd]
        refine iteF ?_
        refine ⟨fl, _, _, _, _, _, rfl, s02, hfl0, nfn, ?_, ?_⟩
        · rw [Wm.nums_succ, if_neg]
          · exact h2n
          · unfold Wm.grows
            rw [Wm.at2_get he, hf]
            simp [hd]
        · rw [hF', gs_same hd]
          exact h2f
      · rw [decide_eq_false hd]
        refine iteT ?_
        have hg : Wm.grows ps i = true := by
          unfold Wm.grows
          rw [Wm.at2_get he, hf]
          simp [hd]
        refine ⟨_, rfl, .inl ⟨rfl, _, SqL.of h2n⟩, _, rfl, nl, _, _, rfl, rfl, h2n, ?_, ?_⟩
        · unfold ivs
          rw [List.length_map]
          have hle : (Wm.nums ps i).length ≤ i := by
            unfold Wm.nums
            exact Nat.le_trans (List.length_filter_le _ _) (by rw [List.length_range]; exact Nat.le_refl _)
          exact small1000 (by omega)
        · have h3f : upd H2 nl (.lst (ivs (Wm.nums ps i) ++ [.int (i : Nat)])) fl = some (.lst (lab n f)) := by rw [upd_ne nfn.symm]; exact h2f
          have s03 : Same H (upd H2 nl (.lst (ivs (Wm.nums ps i) ++ [.int (i : Nat)]))) := same_new s02 (.inr hnl)
          generalize hH3 : upd H2 nl (.lst (ivs (Wm.nums ps i) ++ [.int (i : Nat)])) = H3 at *
          have h3n : H3 nl = some (.lst (ivs (Wm.nums ps (i + 1)))) := by
            rw [← hH3, upd_same, Wm.nums_succ, if_pos hg]
            unfold ivs
            rw [List.map_append]
            rfl
          refine ⟨_, rfl, _, rfl, fl, _, _, _, rfl, rfl, SqL.of h3f, lab_at hwe.1, _, rfl, _, rfl, fl, _, _, _, rfl, rfl, SqL.of h3f, lab_at hwe.2, _, _, rfl, ?_⟩
          rw [imin]
          refine ⟨_, rfl, _, rfl, fl, _, _, _, rfl, rfl, SqL.of h3f, lab_at hwe.1, _, rfl, _, rfl, fl, _, _, _, rfl, rfl, SqL.of h3f, lab_at hwe.2, _, _, rfl, ?_⟩
          rw [imax]
          refine ⟨_, rfl, fl, rfl, ⟨_, SqL.of h3f⟩, fun D hD => lc_list (K := K) (xs := lab n f) (fun j H' => Same H3 H' ∧ H' D = some (.lst ((lab n (Wm.gs f e)).take j)))
            ⟨same_new (Same.refl _) (.inl hD), upd_same⟩ (fun j H' _ ⟨s4, _⟩ => SqL.of (s4 _ _ h3f)) ?_ ?_⟩
          · rintro j x H4 hj ⟨s4, h4⟩
            have hjn : j < n := by have := (List.getElem?_eq_some_iff.mp hj).1; rw [lab_len] at this; exact this
            have ex : x = .int (f j : Int) := by rw [lab_get hjn] at hj; exact (Option.some.inj hj).symm
            subst ex
            refine ⟨rfl, tyes ?_⟩
            have fin : ∀ z : V, z = .int (Wm.gs f e j : Int) → ∃ acc, H4 D = some (.lst acc) ∧ acc.length < sizeLine ∧ (Same H3 (upd H4 D (.lst (acc ++ [z]))) ∧ (upd H4 D (.lst (acc ++ [z]))) D = some (.lst ((lab n (Wm.gs f e)).take (j + 1)))) := by
              rintro z rfl
              refine ⟨_, h4, ?_, same_new s4 (.inr hD), ?_⟩
              · rw [List.length_take, lab_len]
                exact small1000 (by have := Nat.min_le_right j n; omega)
              · rw [upd_same, Wm.take_snoc (lab_get hjn)]
            refine ⟨_, rfl, _, rfl, rfl, _, rfl, ?_⟩
            rw [dint]
            by_cases hm : f j = max (f e.1) (f e.2)
            · rw [decide_eq_true hm]
              exact iteT ⟨_, rfl, fin _ (by rw [Wm.gs_hit hm])⟩
            · rw [decide_eq_false hm]
              exact iteF ⟨_, rfl, fin _ (by rw [Wm.gs_miss hm])⟩
          · rintro H4 ⟨s4, h4⟩
            have e4 : (lab n (Wm.gs f e)).take (lab n f).length = lab n (Wm.gs f e) := by rw [List.take_of_length_le (by rw [lab_len, lab_len]; exact Nat.le_refl _)]
            rw [e4] at h4
            refine ⟨D, _, _, _, _, _, rfl, s03.trans s4, s03.free hD, ?_, s4 _ _ h3n, ?_⟩
            · rintro rfl
              rw [h3n] at hD
              cases hD
            · rw [hF']
              exact h4
    · rintro σ H1 ⟨fl, v4, v5, v6, v7, v8, rfl, s1, hfl0, nfn, h1n, h1f⟩
      have el : (ts.map V.ref).length = ps.length := by rw [List.length_map]; exact hE.2.1
      rw [el] at h1n h1f
      rw [List.take_length] at h1f
      refine ⟨_, rfl, _, rfl, (by show 2 ≤ sizeLine; decide), fun t ht => ?_⟩
      have s2 : Same H1 (upd H1 t (.tup [.ref nl, .ref fl])) := same_new (Same.refl _) (.inl ht)
      exact q _ t nl fl (s1.trans s2) upd_same hnl hfl0 (s2 _ _ h1n) (s2 _ _ h1f)
end
end Wb

namespace Wb
open PySem L2
/-! ### ties -/
def TiesI (H0 H : Hp) (D : Addr) (n b : Nat) : Prop := ∃ ls : List Addr, H D = some (.lst (ls.map V.ref)) ∧ ls.length = n ∧ ∀ l ∈ ls, H0 l = none ∧ l ≠ D ∧ ∃ xs, H l = some (.lst xs) ∧ xs.length ≤ b
theorem TiesI.same {H0 H H' : Hp} {D : Addr} {n b : Nat} (h : TiesI H0 H D n b) (s : Same H H') : TiesI H0 H' D n b := by
  obtain ⟨ls, h1, h2, h3⟩ := h
  refine ⟨ls, s _ _ h1, h2, fun l hl => ?_⟩
  obtain ⟨a1, a2, xs, a3, a4⟩ := h3 l hl
  exact ⟨a1, a2, xs, s _ _ a3, a4⟩
/-- the list at place i, one item more -/
theorem TiesI.grow {H0 H : Hp} {D : Addr} {n b i : Nat} (h : TiesI H0 H D n b) (hi : i < n) : ∃ (vs : List V) (l : Addr) (xs : List V), H D = some (.lst vs) ∧ atI vs (i : Int) = some (.ref l) ∧ H l = some (.lst xs) ∧ xs.length ≤ b ∧ H0 l = none ∧
    ∀ H' y, Same H H' → TiesI H0 (upd H' l (.lst (xs ++ [y]))) D n (b + 1) := by
  obtain ⟨ls, h1, h2, h3⟩ := h
  have hi' : i < ls.length := by rw [h2]; exact hi
  have hm : ls[i] ∈ ls := List.getElem_mem hi'
  obtain ⟨a1, a2, xs, a3, a4⟩ := h3 _ hm
  refine ⟨_, ls[i], xs, h1, atI_nat (by rw [List.getElem?_map, List.getElem?_eq_getElem hi']; rfl), a3, a4, a1, fun H' y s => ⟨ls, ?_, h2, fun l hl => ?_⟩⟩
  · rw [upd_ne (Ne.symm a2)]
    exact s _ _ h1
  · obtain ⟨c1, c2, zs, c3, c4⟩ := h3 l hl
    refine ⟨c1, c2, ?_⟩
    by_cases e : l = ls[i]
    · rw [e]
      exact ⟨_, upd_same, by rw [List.length_append]; exact Nat.add_le_add_right a4 1⟩
    · exact ⟨zs, by rw [upd_ne e]; exact s _ _ c3, Nat.le_succ_of_le c4⟩
def spTies : Sp := fun vs H Q _ => ∃ (n : Nat) (a nl : Addr) (ts : List Addr) (ps : List (Nat × Nat)) (ks : List Nat), vs = [.int n, .ref a, .ref nl] ∧ EdgesAt H a ts ps ∧ Within n ps ∧ n ≤ 30 ∧ H nl = some (.lst (ivs ks)) ∧ (∀ k ∈ ks, k < ps.length) ∧ ks.length ≤ 60 ∧
  ∀ H' p, Same H H' → H p = none → Q (.ref p) H'
/-! ### groups as they lie in a heap: all new since H0 -/
def GroupsAt (H0 H : Hp) (a : Addr) (gs : List (List Nat)) : Prop := ∃ ls : List Addr, H a = some (.lst (ls.map V.ref)) ∧ ls.length = gs.length ∧ H0 a = none ∧
  (∀ (i : Nat) (l : Addr) (g : List Nat), ls[i]? = some l → gs[i]? = some g → H l = some (.lst (ivs g))) ∧ ∀ l ∈ ls, H0 l = none ∧ l ≠ a
theorem GroupsAt.same {H0 H H' : Hp} {a : Addr} {gs : List (List Nat)} (h : GroupsAt H0 H a gs) (s : Same H H') : GroupsAt H0 H' a gs := by
  obtain ⟨ls, h1, h2, h3, h4, h5⟩ := h
  exact ⟨ls, s _ _ h1, h2, h3, fun i l g e1 e2 => s _ _ (h4 i l g e1 e2), h5⟩
theorem GroupsAt.back {H00 H0 H : Hp} {a : Addr} {gs : List (List Nat)} (h : GroupsAt H0 H a gs) (s : Same H00 H0) : GroupsAt H00 H a gs := by
  obtain ⟨ls, h1, h2, h3, h4, h5⟩ := h
  exact ⟨ls, h1, h2, s.free h3, h4, fun l hl => ⟨s.free (h5 l hl).1, (h5 l hl).2⟩⟩
theorem GroupsAt.nil {H0 H : Hp} {a : Addr} (h : H0 a = none) : GroupsAt H0 (upd H a (.lst [])) a [] := ⟨[], upd_same, rfl, h, fun i l g e _ => by simp at e, fun l hl => by simp at hl⟩
/-- one group more -/
theorem GroupsAt.snoc {H0 H H' : Hp} {a p : Addr} {gs : List (List Nat)} {g : List Nat} (h : GroupsAt H0 H a gs) (s : Same H H') (hp : H p = none) (hp' : H' p = some (.lst (ivs g))) :
    ∃ ls : List Addr, H' a = some (.lst (ls.map V.ref)) ∧ ls.length = gs.length ∧ ∀ (_ : Same H0 H), GroupsAt H0 (upd H' a (.lst (ls.map V.ref ++ [.ref p]))) a (gs ++ [g]) := by
  obtain ⟨ls, h1, h2, h3, h4, h5⟩ := h
  refine ⟨ls, s _ _ h1, h2, fun s0 => ⟨ls ++ [p], by rw [upd_same]; simp, by simp [h2], h3, fun i l d e1 e2 => ?_, fun l hl => ?_⟩⟩
  · have npa : p ≠ a := by
      rintro rfl
      rw [h1] at hp
      cases hp
    by_cases hi : i < ls.length
    · rw [List.getElem?_append_left hi] at e1
      rw [List.getElem?_append_left (by rw [← h2]; exact hi)] at e2
      have q := h4 i l d e1 e2
      rw [upd_ne (h5 l (mem_of_get e1)).2]
      exact s _ _ q
    · have e : i = ls.length := by
        have := (List.getElem?_eq_some_iff.mp e1).1
        simp at this
        omega
      subst e
      rw [List.getElem?_append_right (Nat.le_refl _)] at e1
      rw [h2, List.getElem?_append_right (Nat.le_refl _)] at e2
      simp at e1 e2
      subst e1 e2
      rw [upd_ne npa]
      exact hp'
  · rcases List.mem_append.mp hl with hl | hl
    · exact h5 l hl
    · have e : l = p := by simpa using hl
      subst e
      refine ⟨s0.free hp, ?_⟩
      rintro rfl
      rw [h1] at hp
      cases hp
/-- the scope of a list comprehension's block; what a return hands back -/
def lcScope : Expr → Scope
  | .ListComp _ _ sc _ => sc
  | _ => { kind := .function, names := [], isGenerator := false, isCoroutine := false }
def retE : Stmt → Expr
  | .Return (some e) _ => e
  | _ => .Name "" ⟨0, 0, 0, 0⟩
def spGroups : Sp := fun vs H Q _ => ∃ (n : Nat) (a : Addr) (ts : List Addr) (ps : List (Nat × Nat)), vs = [.int n, .ref a] ∧ EdgesAt H a ts ps ∧ Within n ps ∧ ps.length ≤ 60 ∧ n ≤ 30 ∧
  ∀ H' p, Same H H' → GroupsAt H H' p (Wm.groups n (Wm.F ps)) → Q (.ref p) H'
theorem lab_set (n : Nat) (f : Nat → Nat) (i m : Nat) : (lab n f).set i (.int (m : Int)) = lab n fun v => if v = i then m else f v := by
  apply List.ext_getElem?
  intro j
  by_cases hj : j < n
  · rw [lab_get hj]
    by_cases e : i = j
    · subst e
      rw [List.getElem?_set_self (by rw [lab_len]; exact hj), if_pos rfl]
    · rw [List.getElem?_set_ne e, lab_get hj, if_neg (Ne.symm e)]
  · rw [List.getElem?_eq_none (by rw [List.length_set, lab_len]; omega), List.getElem?_eq_none (by rw [lab_len]; omega)]
theorem ixN_nat' {n j : Nat} (hj : j < n) : ixN n (j : Int) = some j := by
  unfold ixN
  rw [if_pos (by omega), if_pos (by omega)]
  simp
theorem flat_ivs (l : List Nat) : (ivs l).all flatV = true := by
  unfold ivs
  rw [List.all_map]
  exact List.all_eq_true.mpr fun _ _ => rfl
theorem inV_ivs (a : Nat) : ∀ l : List Nat, inV (.int (a : Int)) (ivs l) = decide (a ∈ l)
  | [] => rfl
  | b :: l => by
    have ih := inV_ivs a l
    have e : inV (.int (a : Int)) (ivs (b :: l)) = (((b : Int) == (a : Int)) || inV (.int (a : Int)) (ivs l)) := rfl
    rw [e, ih]
    by_cases h : a = b
    · subst h; simp
    · have h2 : ((b : Int) == (a : Int)) = false := beq_eq_false_iff_ne.mpr (by omega)
      rw [h2, Bool.false_or]
      simp [h]
theorem range_filter_succ (p : Nat → Bool) (k : Nat) : (List.range (k + 1)).filter p = if p k = true then (List.range k).filter p ++ [k] else (List.range k).filter p := by
  rw [List.range_succ, List.filter_append]
  cases h : p k with
  | true => simp [h]
  | false => simp [h]
theorem filter_len (p : Nat → Bool) (k : Nat) : ((List.range k).filter p).length ≤ k := Nat.le_trans (List.length_filter_le _ _) (by rw [List.length_range]; exact Nat.le_refl _)
section
variable {P : Program} {w : World} {K : PySem.W.Frag} {mg : Str → Option Value} {base : Heap}
theorem scTies : FnScope ["size", "pairs", "numbers", "ties", "number", "tail", "head", "node"] ["size", "pairs", "numbers"] (defScope sTies) := ⟨rfl, rfl, rfl, by decide +kernel, rfl, by decide +kernel, by decide +kernel⟩
theorem ok_ties {f : Addr} {fd : FuncData} (F : Fun K "ties_of" "ties_of" sTies f fd) (B : Bn mg) : FnOk P w K mg base CX0 1 f fd ["size", "pairs", "numbers"] spTies := by
  refine F.ok scTies (fun vs H Q E h => ?_) (fun cdv A outer s H vs Q E hr h => ?_)
  · obtain ⟨n, a, nl, ts, ps, ks, rfl, _⟩ := h
    rfl
  · obtain ⟨n, a, nl, ts, ps, ks, rfl, hE, hw, hn, hnl, hk, hkl, q⟩ := h
    refine ⟨_, pss_cons (ps_setLc (i := 3) (own := [("node", 7)]) (g := gName 7) rfl scTies.nd rfl rfl (sw_true rfl rfl rfl (by decide +kernel)) (pi_range1 rfl B.range (pa_cons (pv 0) pa_nil)) (blkOk_by (N := ["size", "pairs", "numbers", "ties", "number", "tail", "head", "node"]) (sc := defScope sTies) (by decide +kernel))
            (fun _ _ _ _ _ => pg_name (i := 7) scTies.nd rfl (Or.inl rfl)) (fun _ _ _ _ _ => pts_nil) (fun _ _ _ _ _ => pe_lst pa_nil))
      (pss_cons (ps_for PassesOwn.never rfl (pi_list (pv 2)) (pg_name (i := 4) scTies.nd rfl (Or.inl rfl))
        (pss_cons (ps_asg (pe_ix ix_list (pv 1) (pv 4) (fun _ _ => rfl)) (pg_tup rfl (pgs_cons (pg_name (i := 5) scTies.nd rfl (Or.inl rfl)) (pgs_cons (pg_name (i := 6) scTies.nd rfl (Or.inl rfl)) pgs_nil))))
        (pss_cons (ps_expr (pe_bm PySem.F.plainAttrs_list PySem.F.slot_list_append PySem.F.type_list_append mt_append (pe_ix ix_list (pv 3) (pv 5) (fun _ _ => rfl)) (pa_cons (pe_tup (pa_cons (pe_tup (pa_cons (pv 4) (pa_cons pe_int pa_nil))) (pa_cons (pv 6) pa_nil))) pa_nil)))
        (pss_one (ps_expr (pe_bm PySem.F.plainAttrs_list PySem.F.slot_list_append PySem.F.type_list_append mt_append (pe_ix ix_list (pv 3) (pv 6) (fun _ _ => rfl)) (pa_cons (pe_tup (pa_cons (pe_tup (pa_cons (pv 4) (pa_cons (pe_un un_neg pe_int) pa_nil))) (pa_cons (pv 5) pa_nil))) pa_nil)))))))
      (pss_one (ps_ret (pv 3)))), ?_⟩
    refine ⟨_, rfl, n, rfl, by omega, by omega, fun D hD => lc_range (lo := 0) (n := (n : Int).toNat) (fun i H' => Same H H' ∧ TiesI H H' D i 0)
      ⟨same_new (Same.refl _) (.inl hD), [], upd_same, rfl, fun l hl => by simp at hl⟩ ?_ ?_⟩
    · rintro i H1 hi ⟨s1, ls, h1, h2, h3⟩
      refine ⟨rfl, tyes ?_⟩
      refine ⟨Nat.zero_le _, fun l hl => ?_⟩
      have h1' : upd H1 l (.lst []) D = some (.lst (ls.map V.ref)) := by rw [upd_ne (ne_of_none h1 hl)]; exact h1
      have nlD : l ≠ D := (ne_of_none h1 hl).symm
      refine ⟨_, h1', ?_, same_new (same_new s1 (.inl hl)) (.inr hD), ls ++ [l], by rw [upd_same]; simp, by simp [h2], fun m hm => ?_⟩
      · rw [List.length_map, h2]
        exact small1000 (by omega)
      · rcases List.mem_append.mp hm with hm | hm
        · obtain ⟨a1, a2, xs, a3, a4⟩ := h3 m hm
          exact ⟨a1, a2, xs, by rw [upd_ne a2, upd_ne (ne_of_none a3 hl)]; exact a3, a4⟩
        · have e : m = l := by simpa using hm
          subst e
          exact ⟨s1.free hl, nlD, [], by rw [upd_ne nlD, upd_same], Nat.le_refl _⟩
    · rintro H1 ⟨s1, T1⟩
      have en : (n : Int).toNat = n := by omega
      rw [en] at T1
      refine ⟨_, rfl, nl, rfl, ⟨_, SqL.of (s1 _ _ hnl)⟩, for_list (K := K) (xs := ivs ks) (fun i σ H' => ∃ v4 v5 v6, σ = [some (.int n), some (.ref a), some (.ref nl), some (.ref D), v4, v5, v6, none] ∧ Same H H' ∧ TiesI H H' D n (2 * i))
        ⟨none, none, none, rfl, s1, T1⟩ (fun i σ H' _ ⟨_, _, _, _, s2, _⟩ => SqL.of (s2 _ _ hnl)) ?_ ?_⟩
      · rintro i x σ H2 hi ⟨v4, v5, v6, rfl, s2, T2⟩
        obtain ⟨k, hk1, rfl⟩ := ivs_get hi
        have hkp := hk k (mem_of_get hk1)
        have hi60 : i < ks.length := (List.getElem?_eq_some_iff.mp hk1).1
        obtain ⟨tk, ht⟩ : ∃ tk, ts[k]? = some tk := ⟨_, List.getElem?_eq_getElem (show k < ts.length by rw [hE.2.1]; exact hkp)⟩
        obtain ⟨e, he, het⟩ := (hE.2.same s2).get ht
        have hwe := hw e (mem_of_get he)
        refine ⟨_, rfl, _, rfl, a, _, _, .ref tk, rfl, rfl, SqL.of (s2 _ _ hE.1), atI_nat (by rw [List.getElem?_map, ht]; rfl), _, _, rfl, SqT.of het, rfl, _, _, rfl, _, _, rfl, rfl, ?_⟩
        obtain ⟨vs1, l1, xs1, g1, g2, g3, g4, g5, g6⟩ := T2.grow hwe.1
        refine ⟨_, rfl, _, rfl, D, _, _, .ref l1, rfl, rfl, SqL.of g1, g2, .inl ⟨rfl, _, SqL.of g3⟩, ?_⟩
        refine ⟨_, rfl, (by show 2 ≤ sizeLine; decide), fun t1 ht1 => ⟨_, rfl, (by show 2 ≤ sizeLine; decide), fun t2 ht2 => ?_⟩⟩
        have s3 : Same H2 (upd (upd H2 t1 (.tup [.int (k : Int), .int 1])) t2 (.tup [.ref t1, .int (e.2 : Int)])) := same_new (same_new (Same.refl _) (.inl ht1)) (.inl ht2)
        refine ⟨l1, _, _, rfl, rfl, s3 _ _ g3, small1000 (by omega), ?_⟩
        have T3 := g6 _ (V.ref t2) s3
        have s03 := same_new (o := .lst (xs1 ++ [V.ref t2])) (s2.trans s3) (.inr g5)
        generalize upd (upd (upd H2 t1 (.tup [.int (k : Int), .int 1])) t2 (.tup [.ref t1, .int (e.2 : Int)])) l1 (.lst (xs1 ++ [V.ref t2])) = H3 at *
        obtain ⟨vs2, l2, xs2, k1, k2, k3, k4, k5, k6⟩ := T3.grow hwe.2
        refine ⟨_, rfl, _, rfl, D, _, _, .ref l2, rfl, rfl, SqL.of k1, k2, .inl ⟨rfl, _, SqL.of k3⟩, ?_⟩
        refine ⟨_, rfl, _, rfl, (by show 2 ≤ sizeLine; decide), fun t3 ht3 => ⟨_, rfl, (by show 2 ≤ sizeLine; decide), fun t4 ht4 => ?_⟩⟩
        have s4 : Same H3 (upd (upd H3 t3 (.tup [.int (k : Int), .int (-1)])) t4 (.tup [.ref t3, .int (e.1 : Int)])) := same_new (same_new (Same.refl _) (.inl ht3)) (.inl ht4)
        refine ⟨l2, _, _, rfl, rfl, s4 _ _ k3, small1000 (by omega), ?_⟩
        refine ⟨_, _, _, rfl, same_new (s03.trans s4) (.inr k5), ?_⟩
        have T5 := k6 _ (V.ref t4) s4
        have eb : 2 * i + 1 + 1 = 2 * (i + 1) := by omega
        rw [eb] at T5
        exact T5
      · rintro σ H2 ⟨v4, v5, v6, rfl, s2, T2⟩
        exact ⟨_, rfl, q H2 D s2 hD⟩
theorem scGroups : FnScope ["_law_nodes", "_law_links_here", "_law_names", "_law_turn", "_law_tail", "_law_head", "_law_least", "_law_first", "_law_node"] ["_law_nodes", "_law_links_here"] (defScope sGroups) := ⟨rfl, rfl, rfl, by decide +kernel, rfl, by decide +kernel, by decide +kernel⟩
theorem ok_groups {f : Addr} {fd : FuncData} (F : Fun K "_law_groups" "_law_groups" sGroups f fd) (B : Bn mg) : FnOk P w K mg base CX0 1 f fd ["_law_nodes", "_law_links_here"] spGroups := by
  refine F.ok scGroups (fun vs H Q E h => ?_) (fun cdv A outer s H vs Q E hr h => ?_)
  · obtain ⟨n, a, ts, ps, rfl, _⟩ := h
    rfl
  · obtain ⟨n, a, ts, ps, rfl, hE, hw, hl, hn, q⟩ := h
    refine ⟨_, pss_cons (ps_set (i := 2) scGroups.nd rfl (Or.inr rfl) (pe_listRg rfl rfl B.list (prg_1 rfl B.range (pv 0))))
      (pss_cons (ps_for PassesOwn.never rfl (pi_range1 rfl B.range (pa_cons (pv 0) pa_nil)) (pg_name (i := 3) scGroups.nd rfl (Or.inl rfl))
        (pss_one (ps_for PassesOwn.never rfl (pi_list (pv 1)) (pg_tup rfl (pgs_cons (pg_name (i := 4) scGroups.nd rfl (Or.inl rfl)) (pgs_cons (pg_name (i := 5) scGroups.nd rfl (Or.inl rfl)) pgs_nil)))
          (pss_cons (ps_set (i := 6) scGroups.nd rfl (Or.inl rfl) (pe_callB (call_min2 rfl) (by rfl) B.min (by decide +kernel) (pa_cons (pe_ix ix_list (pv 2) (pv 4) (fun _ _ => rfl)) (pa_cons (pe_ix ix_list (pv 2) (pv 5) (fun _ _ => rfl)) pa_nil))))
          (pss_cons (ps_asg (pv 6) (pg_sub (pv 2) (pv 4) set_list)) (pss_one (ps_asg (pv 6) (pg_sub (pv 2) (pv 5) set_list))))))))
      (pss_one (ps_ret (pe_lc (own := [("_law_first", 7)]) (g := gName 7) rfl scGroups.nd (pi_range1 rfl B.range (pa_cons (pv 0) pa_nil)) (blkOk_by (N := ["_law_nodes", "_law_links_here", "_law_names", "_law_turn", "_law_tail", "_law_head", "_law_least", "_law_first", "_law_node"]) (sc := defScope sGroups) (by decide +kernel))
        (fun _ _ _ _ _ => pg_name (i := 7) scGroups.nd rfl (Or.inr rfl)) (fun _ _ _ _ _ => pts_one (pt_cmpR (r := rIn K false) op_in_seq (pv 7) (pv 2) (by rfl)))
        (fun _ _ _ _ _ => pe_lc (own := [("_law_node", 8)]) (g := gName 8) rfl scGroups.nd (pi_range1 rfl B.range (pa_cons (pv 0) pa_nil)) (blkOk_by (N := ["_law_nodes", "_law_links_here", "_law_names", "_law_turn", "_law_tail", "_law_head", "_law_least", "_law_first", "_law_node"]) (sc := relS (lcScope (retE ((defBody sGroups).getD 2 (.Pass ⟨0, 0, 0, 0⟩)))) (defScope sGroups)) (by decide +kernel))
          (fun _ _ _ _ _ => pg_name (i := 8) scGroups.nd rfl (Or.inl rfl)) (fun _ _ _ _ _ => pts_one (pt_cmpR op_eq (pe_ix (r := rIxL K) ix_list (pv 2) (pv 8) (fun _ _ => rfl)) (pv 7) (nomark _))) (fun _ _ _ _ _ => pv 8)))))), ?_⟩
    refine ⟨_, rfl, _, rfl, rgOk (by omega), fun nm hnm => ?_⟩
    rw [rg_lab]
    refine ⟨_, rfl, n, rfl, by omega, by omega, for_range (lo := 0) (n := (n : Int).toNat) (fun i σ H' => ∃ v3 v4 v5 v6, σ = [some (.int n), some (.ref a), some (.ref nm), v3, v4, v5, v6, none, none] ∧ Same H H' ∧ H' nm = some (.lst (lab n (Wm.R ps i))))
      ⟨none, none, none, none, rfl, same_new (Same.refl _) (.inl hnm), upd_same⟩ ?_ ?_⟩
    · rintro i σ H1 hi ⟨v3, v4, v5, v6, rfl, s1, h1⟩
      refine ⟨_, rfl, a, rfl, ⟨_, SqL.of (s1 _ _ hE.1)⟩, for_list (K := K) (xs := ts.map V.ref) (fun j σ H' => ∃ v4 v5 v6, σ = [some (.int n), some (.ref a), some (.ref nm), some (.int (0 + (i : Int))), v4, v5, v6, none, none] ∧ Same H H' ∧ H' nm = some (.lst (lab n (Wm.sweep (ps.take j) (Wm.R ps i)))))
        ⟨v4, v5, v6, rfl, s1, h1⟩ (fun j σ H' _ ⟨_, _, _, _, s2, _⟩ => SqL.of (s2 _ _ hE.1)) ?_ ?_⟩
      · rintro j x σ H2 hj ⟨v4, v5, v6, rfl, s2, h2⟩
        obtain ⟨t, ht, rfl⟩ := refs_get hj
        obtain ⟨e, he, het⟩ := (hE.2.same s2).get ht
        have hwe := hw e (mem_of_get he)
        have hS : Wm.sweep (ps.take (j + 1)) (Wm.R ps i) = Wm.ls (Wm.sweep (ps.take j) (Wm.R ps i)) e := by
          rw [Wm.take_snoc he]
          unfold Wm.sweep
          rw [List.foldl_append]
          rfl
        generalize hf : Wm.sweep (ps.take j) (Wm.R ps i) = f at *
        refine ⟨t, _, rfl, SqT.of het, rfl, _, _, rfl, _, _, rfl, rfl, ?_⟩
        refine ⟨_, rfl, _, rfl, nm, _, _, _, rfl, rfl, SqL.of h2, lab_at hwe.1, _, rfl, _, rfl, nm, _, _, _, rfl, rfl, SqL.of h2, lab_at hwe.2, _, _, rfl, ?_⟩
        rw [imin]
        refine ⟨_, rfl, _, rfl, _, rfl, nm, _, _, e.1, rfl, rfl, h2, (by rw [lab_len]; exact ixN_nat' hwe.1), ?_⟩
        rw [lab_set]
        refine ⟨_, rfl, _, rfl, _, rfl, nm, _, _, e.2, rfl, rfl, upd_same, (by rw [lab_len]; exact ixN_nat' hwe.2), ?_⟩
        rw [lab_set]
        refine ⟨_, _, _, rfl, same_new (same_new s2 (.inr hnm)) (.inr hnm), ?_⟩
        rw [upd_same, hS]
        rfl
      · rintro σ H2 ⟨v4, v5, v6, rfl, s2, h2⟩
        have el : (ts.map V.ref).length = ps.length := by rw [List.length_map]; exact hE.2.1
        rw [el, List.take_length] at h2
        exact ⟨_, _, _, _, rfl, s2, h2⟩
    · rintro σ H1 ⟨v3, v4, v5, v6, rfl, s1, h1⟩
      have en : (n : Int).toNat = n := by omega
      rw [en, lab_congr (Wm.R_is_F ps n hw)] at h1
      have hRoot := Wm.rootF ps
      refine ⟨_, rfl, n, rfl, by omega, by omega, fun D hD => lc_range (lo := 0) (n := (n : Int).toNat) (fun i H' => Same H1 H' ∧ GroupsAt H1 H' D (((List.range i).filter fun b => decide (Wm.F ps b = b)).map (Wm.groupOf n (Wm.F ps))))
        ⟨same_new (Same.refl _) (.inl hD), GroupsAt.nil hD⟩ ?_ ?_⟩
      · rintro i H2 hi ⟨s2, G2⟩
        have hi' : i < n := by omega
        refine ⟨rfl, ?_⟩
        refine ⟨_, rfl, _, rfl, nm, _, rfl, .inl (SqL.of (s2 _ _ h1)), rfl, flat_ivs _, _, rfl, ?_⟩
        have e0 : (V.int (0 + (i : Int))) = V.int (i : Int) := by rw [Int.zero_add]
        have ein : (if false = true then !inV (V.int (0 + (i : Int))) (lab n (Wm.F ps)) else inV (V.int (0 + (i : Int))) (lab n (Wm.F ps))) = decide (Wm.F ps i = i) := by
          rw [if_neg Bool.false_ne_true, e0]
          unfold lab
          rw [inV_ivs]
          by_cases h : Wm.F ps i = i
          · rw [decide_eq_true h, decide_eq_true ((Wm.mem_labels hi').mpr h)]
          · rw [decide_eq_false h, decide_eq_false fun z => h ((Wm.mem_labels hi').mp z)]
        rw [ein, range_filter_succ]
        by_cases h : Wm.F ps i = i
        · rw [decide_eq_true h, if_pos rfl, List.map_append]
          refine iteT ?_
          refine ⟨_, rfl, n, rfl, by omega, by omega, fun D2 hD2 => lc_range (lo := 0) (n := (n : Int).toNat) (fun j H' => Same H2 H' ∧ H' D2 = some (.lst (ivs ((List.range j).filter fun v => decide (Wm.F ps v = i)))))
            ⟨same_new (Same.refl _) (.inl hD2), upd_same⟩ ?_ ?_⟩
          · rintro j H3 hj ⟨s3, h3⟩
            have hj' : j < n := by omega
            have ej : (0 : Int) + (j : Int) = (j : Int) := Int.zero_add _
            refine ⟨rfl, ?_⟩
            refine ⟨_, rfl, _, rfl, nm, _, _, .int (Wm.F ps j : Int), rfl, rfl, SqL.of (s3 _ _ (s2 _ _ h1)), (by rw [ej]; exact lab_at hj'), _, rfl, rfl, _, rfl, ?_⟩
            rw [e0, dint, range_filter_succ]
            by_cases h4 : Wm.F ps j = i
            · rw [decide_eq_true h4, if_pos rfl]
              refine iteT ⟨_, rfl, _, h3, ?_, same_new s3 (.inr hD2), ?_⟩
              · unfold ivs
                rw [List.length_map]
                exact small1000 (by have := filter_len (fun v => decide (Wm.F ps v = i)) j; omega)
              · rw [upd_same, ej]
                unfold ivs
                rw [List.map_append]
                rfl
            · rw [decide_eq_false h4, if_neg Bool.false_ne_true]
              exact iteF ⟨s3, h3⟩
          · rintro H3 ⟨s3, h3⟩
            have en2 : (n : Int).toNat = n := by omega
            rw [en2] at h3
            obtain ⟨ls, g1, g2, g3⟩ := G2.snoc (g := Wm.groupOf n (Wm.F ps) i) s3 hD2 h3
            refine ⟨_, g1, ?_, same_new (s2.trans s3) (.inr hD), g3 s2⟩
            rw [List.length_map, g2, List.length_map]
            exact small1000 (by have := filter_len (fun b => decide (Wm.F ps b = b)) i; omega)
        · rw [decide_eq_false h, if_neg Bool.false_ne_true]
          exact iteF ⟨s2, G2⟩
      · rintro H2 ⟨s2, G2⟩
        have en2 : (n : Int).toNat = n := by omega
        rw [en2] at G2
        exact q H2 D (s1.trans s2) (G2.back s1)
end
end Wb

namespace Wb
open PySem L2
/-! ### fields -/
theorem putF_new {f : Str} {v : V} : ∀ {fs : List (Str × V)} {ks : List Str}, fs.map (·.1) = ks → (ks.all fun k => decide (k ≠ f)) = true → putF f v fs = fs ++ [(f, v)]
  | [], _, _, _ => rfl
  | (g, x) :: fs, ks, h, hk => by
    subst h
    simp only [List.map_cons, List.all_cons, Bool.and_eq_true, decide_eq_true_eq] at hk
    have ih := putF_new (f := f) (v := v) (fs := fs) rfl hk.2
    show (if g = f then (g, v) :: fs else (g, x) :: putF f v fs) = _
    rw [if_neg hk.1, ih]
    rfl
theorem lk_here {k : Str} {v : V} {r : List (Str × V)} : List.lookup k ((k, v) :: r) = some v := by
  have e : (k == k) = true := beq_self_eq_true k
  simp only [List.lookup, e]
theorem lk_past {k g : Str} {v : V} {r : List (Str × V)} (h : (k == g) = false) : List.lookup k ((g, v) :: r) = List.lookup k r := by
  simp only [List.lookup, h]
def wf (n : Nat) (le : Addr) (m : Int) (lf lfn lt : Addr) : List (Str × V) := [("node_count", .int n), ("edge_pairs", .ref le), ("gain_modulus", .int m), ("forest_numbers", .ref lf), ("first_nodes", .ref lfn), ("forest_ties", .ref lt)]
section
variable (n : Nat) (le : Addr) (m : Int) (lf lfn lt : Addr)
theorem wf_count : (wf n le m lf lfn lt).lookup ("node_count" : Str) = some (.int n) := lk_here
theorem wf_pairs : (wf n le m lf lfn lt).lookup ("edge_pairs" : Str) = some (.ref le) := (lk_past (by decide +kernel)).trans lk_here
theorem wf_mod : (wf n le m lf lfn lt).lookup ("gain_modulus" : Str) = some (.int m) := (lk_past (by decide +kernel)).trans ((lk_past (by decide +kernel)).trans lk_here)
theorem wf_nums : (wf n le m lf lfn lt).lookup ("forest_numbers" : Str) = some (.ref lf) := (lk_past (by decide +kernel)).trans ((lk_past (by decide +kernel)).trans ((lk_past (by decide +kernel)).trans lk_here))
theorem wf_firsts : (wf n le m lf lfn lt).lookup ("first_nodes" : Str) = some (.ref lfn) := (lk_past (by decide +kernel)).trans ((lk_past (by decide +kernel)).trans ((lk_past (by decide +kernel)).trans ((lk_past (by decide +kernel)).trans lk_here)))
theorem wf_none {k : Str} (h : (["node_count", "edge_pairs", "gain_modulus", "forest_numbers", "first_nodes", "forest_ties"] : List Str).all (fun g => !(k == g)) = true) : (wf n le m lf lfn lt).lookup k = none := by
  simp only [List.all_cons, List.all_nil, Bool.and_eq_true, Bool.not_eq_true', Bool.and_true] at h
  obtain ⟨h1, h2, h3, h4, h5, h6⟩ := h
  unfold wf
  rw [lk_past h1, lk_past h2, lk_past h3, lk_past h4, lk_past h5, lk_past h6]
  rfl
end
def f1 (n : Nat) : List (Str × V) := [("node_count", .int n)]
def f2 (n : Nat) (D : Addr) : List (Str × V) := [("node_count", .int n), ("edge_pairs", .ref D)]
def f3 (n : Nat) (D : Addr) (m : Int) : List (Str × V) := [("node_count", .int n), ("edge_pairs", .ref D), ("gain_modulus", .int m)]
def f4 (n : Nat) (D : Addr) (m : Int) (nl : Addr) : List (Str × V) := [("node_count", .int n), ("edge_pairs", .ref D), ("gain_modulus", .int m), ("forest_numbers", .ref nl)]
def f5 (n : Nat) (D : Addr) (m : Int) (nl fl : Addr) : List (Str × V) := [("node_count", .int n), ("edge_pairs", .ref D), ("gain_modulus", .int m), ("forest_numbers", .ref nl), ("first_nodes", .ref fl)]
section
variable (n : Nat) (D : Addr) (m : Int) (nl fl lt : Addr)
theorem pf1 : putF "node_count" (.int n) [] = f1 n := rfl
theorem pf2 : putF "edge_pairs" (.ref D) (f1 n) = f2 n D := putF_new (ks := ["node_count"]) rfl (by decide +kernel)
theorem pf3 : putF "gain_modulus" (.int m) (f2 n D) = f3 n D m := putF_new (ks := ["node_count", "edge_pairs"]) rfl (by decide +kernel)
theorem pf4 : putF "forest_numbers" (.ref nl) (f3 n D m) = f4 n D m nl := putF_new (ks := ["node_count", "edge_pairs", "gain_modulus"]) rfl (by decide +kernel)
theorem pf5 : putF "first_nodes" (.ref fl) (f4 n D m nl) = f5 n D m nl fl := putF_new (ks := ["node_count", "edge_pairs", "gain_modulus", "forest_numbers"]) rfl (by decide +kernel)
theorem pf6 : putF "forest_ties" (.ref lt) (f5 n D m nl fl) = wf n D m nl fl lt := putF_new (ks := ["node_count", "edge_pairs", "gain_modulus", "forest_numbers", "first_nodes"]) rfl (by decide +kernel)
end
/-- what the top has written of the class -/
structure Txt (K : PySem.W.Frag) (mg : Str → Option Value) (C : Addr) : Prop where
  cl : Cls K C
  n1 : NoAttr K C "node_count"
  n2 : NoAttr K C "edge_pairs"
  n3 : NoAttr K C "gain_modulus"
  n4 : NoAttr K C "forest_numbers"
  n5 : NoAttr K C "first_nodes"
  n6 : NoAttr K C "forest_ties"
  mgC : mg "Web" = some (.ref C)
/-- a web at p: its fields, what they hold, all but p itself new since H0 -/
def WebAt (C : Addr) (H0 H : Hp) (p : Addr) (n : Nat) (ps : List (Nat × Nat)) (m : Int) : Prop := ∃ dx le lf lfn lt ts, H p = some (.ins C dx (wf n le m lf lfn lt)) ∧ EdgesAt H le ts ps ∧ H lf = some (.lst (ivs (Wm.nums ps ps.length))) ∧ H lfn = some (.lst (lab n (Wm.F ps))) ∧
  H0 le = none ∧ H0 lf = none ∧ H0 lfn = none
theorem WebAt.same {C : Addr} {H0 H H' : Hp} {p : Addr} {n : Nat} {ps : List (Nat × Nat)} {m : Int} (h : WebAt C H0 H p n ps m) (s : Same H H') : WebAt C H0 H' p n ps m := by
  obtain ⟨dx, le, lf, lfn, lt, ts, h1, h2, h3, h4, h5⟩ := h
  exact ⟨dx, le, lf, lfn, lt, ts, s _ _ h1, ⟨s _ _ h2.1, h2.2.same s⟩, s _ _ h3, s _ _ h4, h5⟩
theorem WebAt.back {C : Addr} {H00 H0 H : Hp} {p : Addr} {n : Nat} {ps : List (Nat × Nat)} {m : Int} (h : WebAt C H0 H p n ps m) (s : Same H00 H0) : WebAt C H00 H p n ps m := by
  obtain ⟨dx, le, lf, lfn, lt, ts, h1, h2, h3, h4, h5, h6, h7⟩ := h
  exact ⟨dx, le, lf, lfn, lt, ts, h1, h2, h3, h4, s.free h5, s.free h6, s.free h7⟩
/-- a list that stood in H0 may change -/
theorem WebAt.but {C : Addr} {H0 H H' : Hp} {p q : Addr} {n : Nat} {ps : List (Nat × Nat)} {m : Int} {xs : List V} (h : WebAt C H0 H p n ps m) (s : But [q] H H') (hq : H0 q ≠ none) (hl : H q = some (.lst xs)) : WebAt C H0 H' p n ps m := by
  obtain ⟨dx, le, lf, lfn, lt, ts, h1, h2, h3, h4, h5, h6, h7⟩ := h
  have ne : ∀ b, H0 b = none → b ∉ [q] := fun b hb z => hq (by have e : b = q := by simpa using z
                                                               rw [← e]; exact hb)
  refine ⟨dx, le, lf, lfn, lt, ts, s _ _ (fun z => ?_) h1, ⟨s _ _ (ne _ h5) h2.1, h2.2.but s fun b hb ys e => ?_⟩, s _ _ (ne _ h6) h3, s _ _ (ne _ h7) h4, h5, h6, h7⟩
  · have e : p = q := by simpa using z
    rw [e, hl] at h1
    cases h1
  · have e' : b = q := by simpa using hb
    rw [e', hl] at e
    cases e
def spInit (C : Addr) : Sp := fun vs H Q _ => ∃ (p dx a : Addr) (ts : List Addr) (ps : List (Nat × Nat)) (n : Nat) (m : Int), vs = [.ref p, .int n, .ref a, .int m] ∧ H p = some (.ins C dx []) ∧ EdgesAt H a ts ps ∧ Within n ps ∧ 1 ≤ n ∧ n ≤ 30 ∧ ps.length ≤ 60 ∧ (m = 0 ∨ 2 ≤ m ∧ m ≤ 60) ∧
  ∀ H', But [p] H H' → WebAt C H H' p n ps m → Q .non H'
def spComps (C : Addr) : Sp := fun vs H Q _ => ∃ (H0 : Hp) (p : Addr) (n : Nat) (ps : List (Nat × Nat)) (m : Int), vs = [.ref p] ∧ WebAt C H0 H p n ps m ∧ n ≤ 30 ∧ ∀ H' a, Same H H' → GroupsAt H H' a (Wm.groups n (Wm.F ps)) → Q (.ref a) H'
def spForest (C : Addr) : Sp := fun vs H Q _ => ∃ (H0 : Hp) (p : Addr) (n : Nat) (ps : List (Nat × Nat)) (m : Int), vs = [.ref p] ∧ WebAt C H0 H p n ps m ∧ ∀ H' a, Same H H' → H a = none → H' a = some (.lst (ivs (Wm.nums ps ps.length))) → Q (.ref a) H'
section
variable {X : Cx}
theorem pe_fldK {K : PySem.W.Frag} {e : Expr} {f : Str} {pos : Pos} {ta : TE} (he : PE X e ta) (hb : attributeBase e f X.env (eval e X.env) = eval e X.env) (hK : X.K = K := by rfl) : PE X (.Attribute e f pos) (tFld K ta f) := by
  subst hK
  exact pe_fld he hb
end
section
variable {P : Program} {w : World} {K : PySem.W.Frag} {mg : Str → Option Value} {base : Heap} {C : Addr}
theorem scInit : FnScope ["self", "size", "edges", "modulus", "tail", "head"] ["self", "size", "edges", "modulus"] (defScope sInit) := ⟨rfl, rfl, rfl, by decide +kernel, rfl, by decide +kernel, by decide +kernel⟩
theorem ok_init {f : Addr} {fd : FuncData} {kws : List (Str × V)} {dvs : List V} (F : FunD K "__init__" "Web.__init__" (defArgs sInit) (defBody sInit) (defScope sInit) dvs kws f fd) (T : Txt K mg C) (Cc : Cs mg) (D1 : Df P w K mg base 2 "is_between" ["thing", "low", "high"] (spBetween K))
    (D2 : Df P w K mg base 4 "check_edges" ["size", "edges"] (spCheck K)) (D3 : Df P w K mg base 2 "is_modulus" ["thing"] (spIsMod K)) (D4 : Df P w K mg base 1 "grown_forest" ["size", "pairs"] spGrown) (D5 : Df P w K mg base 1 "ties_of" ["size", "pairs", "numbers"] spTies) :
    FnOk P w K mg base CX0 5 f fd ["self", "size", "edges", "modulus"] (spInit C) := by
  obtain ⟨g1, gd1, G1, mg1, k1, b1⟩ := D1.ex
  obtain ⟨g2, gd2, G2, mg2, k2, b2⟩ := D2.ex
  obtain ⟨g3, gd3, G3, mg3, k3, b3⟩ := D3.ex
  obtain ⟨g4, gd4, G4, mg4, k4, b4⟩ := D4.ex
  obtain ⟨g5, gd5, G5, mg5, k5, b5⟩ := D5.ex
  obtain ⟨t1, c1⟩ := Cc.nodes
  refine F.ok scInit (fun vs H Q E h => ?_) (fun cdv A outer s H vs Q E hr h => ?_)
  · obtain ⟨p, dx, a, ts, ps, n, m, rfl, _⟩ := h
    rfl
  · obtain ⟨p, dx, a, ts, ps, n, m, rfl, hp, hE, hw, n1, n30, hl, hm, q⟩ := h
    have hr2 : Room 2 _ := hr.mono (by decide)
    have hr1 : Room 1 _ := hr.mono (by decide)
    refine ⟨_, PSs.nox (pss_cons (ps_if (pt_not (pt_val (pe_call G1 hr2 rfl mg1 k1 b1 .nil pass0 (pa_cons (pv 1) (pa_cons pe_int (pa_cons (pe_glob rfl c1 (v := .int 30) ⟨_, rfl⟩) pa_nil)))))) (pss_one ps_never) pss_nil)
      (pss_cons (ps_expr (pe_call G2 hr rfl mg2 k2 b2 .nil pass0 (pa_cons (pv 1) (pa_cons (pv 2) pa_nil))))
      (pss_cons (ps_if (pt_not (pt_val (pe_call G3 hr2 rfl mg3 k3 b3 .nil pass0 (pa_cons (pv 3) pa_nil)))) (pss_one ps_never) pss_nil)
      (pss_cons (ps_fld (pv 0) (pv 1) rfl)
      (pss_cons (ps_fld (pv 0) (pe_lc (own := [("tail", 4), ("head", 5)]) (g := gTup K 2 (gCons (gName 4) (gCons (gName 5) gNil))) rfl scInit.nd (pi_list (pv 2)) (blkOk_by (N := ["self", "size", "edges", "modulus", "tail", "head"]) (sc := defScope sInit) (by decide +kernel))
          (fun _ _ _ _ _ => pg_tup rfl (pgs_cons (pg_name (i := 4) scInit.nd rfl (Or.inl rfl)) (pgs_cons (pg_name (i := 5) scInit.nd rfl (Or.inl rfl)) pgs_nil))) (fun _ _ _ _ _ => pts_nil) (fun _ _ _ _ _ => pe_tup (pa_cons (pv 4) (pa_cons (pv 5) pa_nil)))) rfl)
      (pss_cons (ps_fld (pv 0) (pv 3) rfl)
      (pss_cons (ps_asg (pe_call G4 hr1 rfl mg4 k4 b4 .nil pass0 (pa_cons (pv 1) (pa_cons (pe_fld (pv 0) rfl) pa_nil))) (pg_tup rfl (pgs_cons (pg_attr (pv 0)) (pgs_cons (pg_attr (pv 0)) pgs_nil))))
      (pss_one (ps_fld (pv 0) (pe_call G5 hr1 rfl mg5 k5 b5 .nil pass0 (pa_cons (pv 1) (pa_cons (pe_fld (pv 0) rfl) (pa_cons (pe_fld (pv 0) rfl) pa_nil)))) rfl))))))))), ?_⟩
    refine ⟨_, rfl, .int n, 1, 30, _, true, rfl, .base (.int _), intB_int, (fun z => nomatch z), fun _ => ⟨n, rfl, ?_⟩⟩
    have e1 : decide ((1 : Int) ≤ (n : Int) ∧ (n : Int) ≤ 30) = true := decide_eq_true (by omega)
    rw [e1]
    refine ⟨_, rfl, iteF ?_⟩
    refine ⟨_, rfl, _, rfl, n, a, ts, ps, rfl, hE, hw, hl, fun H1 s1 => ?_⟩
    refine ⟨_, rfl, .int m, _, true, rfl, .base (.int _), intB_int, (fun z => nomatch z), fun _ => ⟨m, rfl, ?_⟩⟩
    have e2 : decide (m = 0 ∨ 2 ≤ m ∧ m ≤ 60) = true := decide_eq_true hm
    rw [e2]
    refine ⟨_, rfl, iteF ?_⟩
    refine ⟨_, rfl, _, rfl, p, C, dx, [], rfl, s1 _ _ hp, T.cl, T.n1, (by show 0 < 1000; decide), ?_⟩
    rw [pf1]
    have npa : a ≠ p := ne_of hE.1 hp (by intro z; cases z)
    have bp : But [p] H (upd H1 p (.ins C dx (f1 n))) := (But.of_same s1).upd_in (by simp)
    have pp : upd H1 p (.ins C dx (f1 n)) p = some (.ins C dx (f1 n)) := upd_same
    generalize upd H1 p (.ins C dx (f1 n)) = H2 at *
    have nop : ∀ b ∈ [p], ∀ xs, H b ≠ some (.tup xs) := fun b hb xs e => by
      have e' : b = p := by simpa using hb
      rw [e', hp] at e
      cases e
    have hp0 : H p ≠ none := by rw [hp]; exact fun z => nomatch z
    have a2 : H2 a = some (.lst (ts.map V.ref)) := bp.at (by simpa using npa) hE.1
    have ps2 : PairsAt H2 ts ps := hE.2.but bp nop
    -- the edges, copied
    refine ⟨_, rfl, a, rfl, ⟨_, SqL.of a2⟩, fun D hD => lc_list (K := K) (xs := ts.map V.ref) (fun i H' => Same H2 H' ∧ ∃ us, H' D = some (.lst (us.map V.ref)) ∧ PairsAt H' us (ps.take i) ∧ D ∉ us)
      ⟨same_new (Same.refl _) (.inl hD), [], upd_same, ⟨by simp, fun i t p e => by simp at e⟩, by simp⟩ (fun i H' _ ⟨s, _⟩ => SqL.of (s _ _ a2)) ?_ ?_⟩
    · rintro i x H3 hi ⟨s3, us, h3, hus, hDus⟩
      obtain ⟨t, ht, rfl⟩ := refs_get hi
      obtain ⟨e, he, het⟩ := (ps2.same s3).get ht
      refine ⟨t, _, rfl, SqT.of het, rfl, _, _, rfl, _, _, rfl, rfl, rfl, tyes ?_⟩
      refine ⟨_, rfl, _, rfl, (by show 2 ≤ sizeLine; decide), fun u hu => ?_⟩
      have s4 : Same H3 (upd H3 u (.tup [.int (e.1 : Int), .int (e.2 : Int)])) := same_new (Same.refl _) (.inl hu)
      have nuD : u ≠ D := (ne_of_none h3 hu).symm
      refine ⟨_, s4 _ _ h3, ?_, same_new (s3.trans s4) (.inr hD), us ++ [u], by rw [upd_same]; simp, ?_, by simp [hDus, nuD.symm]⟩
      · rw [List.length_map, hus.1, List.length_take]
        exact small1000 (by have := Nat.min_le_right i ps.length; omega)
      · rw [Wm.take_snoc he]
        have h5 := hus.snoc s4 (t := u) (p := e) upd_same
        refine h5.but ((But.refl [D] _).upd_in (by simp)) fun b hb xs z => ?_
        have e' : b = D := by simpa using hb
        rw [e', s4 _ _ h3] at z
        cases z
    · rintro H3 ⟨s3, us, h3, hus, hDus⟩
      have el : (ts.map V.ref).length = ps.length := by rw [List.length_map]; exact hE.2.1
      rw [el, List.take_length] at hus
      have hD0 : H D = none := bp.free (by
        have := ne_of_none pp hD
        simpa using this.symm) hD
      have b3 : But [p] H H3 := bp.trans (But.of_same s3)
      have p3 := s3 _ _ pp
      refine ⟨_, rfl, p, C, dx, _, rfl, p3, T.cl, T.n2, (by show 1 < 1000; decide), ?_⟩
      rw [pf2]
      refine ⟨_, rfl, _, rfl, p, C, dx, _, rfl, upd_same, T.cl, T.n3, (by show 2 < 1000; decide), ?_⟩
      rw [pf3, upd_upd]
      have nDp : D ≠ p := (ne_of_none pp hD).symm
      have b4 := b3.upd_in (p := p) (o := .ins C dx (f3 n D m)) (by simp)
      have p4 : upd H3 p (.ins C dx (f3 n D m)) p = some (.ins C dx (f3 n D m)) := upd_same
      have D4 : upd H3 p (.ins C dx (f3 n D m)) D = some (.lst (us.map V.ref)) := by rw [upd_ne nDp]; exact h3
      have u4 : PairsAt (upd H3 p (.ins C dx (f3 n D m))) us ps := hus.but ((But.refl [p] _).upd_in (by simp)) fun b hb xs z => by
        have e' : b = p := by simpa using hb
        rw [e', p3] at z
        cases z
      generalize upd H3 p (.ins C dx (f3 n D m)) = H4 at *
      -- the forest
      refine ⟨_, rfl, _, rfl, p, C, dx, _, .ref D, rfl, p4, T.cl, T.n2, (lk_past (by decide +kernel)).trans lk_here, n, D, us, ps, rfl, ⟨D4, u4⟩, hw, hl, n30, fun H5 t nl fl s5 h5t hnl hfl h5n h5f => ?_⟩
      refine ⟨t, _, rfl, SqT.of h5t, rfl, _, _, rfl, _, rfl, p, C, dx, _, rfl, s5 _ _ p4, T.cl, T.n4, (by show 3 < 1000; decide), ?_⟩
      rw [pf4]
      refine ⟨_, _, rfl, _, rfl, p, C, dx, _, rfl, upd_same, T.cl, T.n5, (by show 4 < 1000; decide), ?_⟩
      rw [pf5, upd_upd]
      refine ⟨rfl, ?_⟩
      have p5 := s5 _ _ p4
      have nnp : nl ≠ p := (ne_of_none p4 hnl).symm
      have nfp : fl ≠ p := (ne_of_none p4 hfl).symm
      generalize hfs : f5 n D m nl fl = fs
      have b6 := (b4.trans (But.of_same s5)).upd_in (p := p) (o := .ins C dx fs) (by simp)
      have p6 : upd H5 p (.ins C dx fs) p = some (.ins C dx fs) := upd_same
      have D6 : upd H5 p (.ins C dx fs) D = some (.lst (us.map V.ref)) := by rw [upd_ne nDp]; exact s5 _ _ D4
      have n6 : upd H5 p (.ins C dx fs) nl = some (.lst (ivs (Wm.nums ps ps.length))) := by rw [upd_ne nnp]; exact h5n
      have f6 : upd H5 p (.ins C dx fs) fl = some (.lst (lab n (Wm.F ps))) := by rw [upd_ne nfp]; exact h5f
      have u6 : PairsAt (upd H5 p (.ins C dx fs)) us ps := (u4.same s5).but ((But.refl [p] _).upd_in (by simp)) fun b hb xs z => by
        have e' : b = p := by simpa using hb
        rw [e', p5] at z
        cases z
      generalize upd H5 p (.ins C dx fs) = H6 at *
      have lkD : fs.lookup ("edge_pairs" : Str) = some (.ref D) := by rw [← hfs]; exact (lk_past (by decide +kernel)).trans lk_here
      have lkN : fs.lookup ("forest_numbers" : Str) = some (.ref nl) := by rw [← hfs]; exact (lk_past (by decide +kernel)).trans ((lk_past (by decide +kernel)).trans ((lk_past (by decide +kernel)).trans lk_here))
      have hks : ∀ k ∈ Wm.nums ps ps.length, k < ps.length := fun k hk => List.mem_range.mp (List.mem_filter.mp hk).1
      refine ⟨_, rfl, _, rfl, p, C, dx, _, .ref D, rfl, p6, T.cl, T.n2, lkD, _, rfl, p, C, dx, _, .ref nl, rfl, p6, T.cl, T.n4, lkN, n, D, nl, us, ps, _, rfl, ⟨D6, u6⟩, hw, n30, n6, hks, Nat.le_trans (filter_len _ _) hl, fun H7 lt s7 hlt => ?_⟩
      refine ⟨_, rfl, p, C, dx, _, rfl, s7 _ _ p6, T.cl, T.n6, (by rw [← hfs]; show 5 < 1000; decide), ?_⟩
      rw [← hfs, pf6]
      have b8 := (b6.trans (But.of_same s7)).upd_in (p := p) (o := .ins C dx (wf n D m nl fl lt)) (by simp)
      have p7 := s7 _ _ p6
      refine q _ b8 ⟨dx, D, nl, fl, lt, us, upd_same, ⟨by rw [upd_ne nDp]; exact s7 _ _ D6, ?_⟩, by rw [upd_ne nnp]; exact s7 _ _ n6, by rw [upd_ne nfp]; exact s7 _ _ f6, hD0, ?_, ?_⟩
      · refine (u6.same s7).but ((But.refl [p] _).upd_in (by simp)) fun b hb xs z => ?_
        have e' : b = p := by simpa using hb
        rw [e', p7] at z
        cases z
      · exact b4.free (by simpa using nnp) hnl
      · exact b4.free (by simpa using nfp) hfl
theorem scComps : FnScope ["self", "nodes", "firsts", "node", "first"] ["self"] (defScope sComps) := ⟨rfl, rfl, rfl, by decide +kernel, rfl, by decide +kernel, by decide +kernel⟩
theorem ok_comps {f : Addr} {fd : FuncData} (F : Fun K "components" "Web.components" sComps f fd) (B : Bn mg) (T : Txt K mg C) : FnOk P w K mg base CX0 1 f fd ["self"] (spComps C) := by
  refine F.ok scComps (fun vs H Q E h => ?_) (fun cdv A outer s H vs Q E hr h => ?_)
  · obtain ⟨H0, p, n, ps, m, rfl, _⟩ := h
    rfl
  · obtain ⟨H0, p, n, ps, m, rfl, ⟨dx, le, lf, lfn, lt, ts, hp, hE, hf, hfn, _⟩, n30, q⟩ := h
    refine ⟨_, pss_cons (ps_set (i := 1) scComps.nd rfl (Or.inr rfl) (pe_listRg rfl rfl B.list (prg_1 rfl B.range (pe_fld (pv 0) rfl))))
      (pss_cons (ps_setLc (i := 2) (own := [("node", 3)]) (g := gName 3) rfl scComps.nd rfl rfl (sw_true rfl rfl rfl (by decide +kernel)) (pi_list (pv 1)) (blkOk_by (N := ["self", "nodes", "firsts", "node", "first"]) (sc := defScope sComps) (by decide +kernel))
          (fun _ _ _ _ _ => pg_name (i := 3) scComps.nd rfl (Or.inl rfl)) (fun _ _ _ _ _ => pts_one (pt_cmpR op_eq (pe_ix (r := rIxL K) ix_list (pe_fldK (K := K) (pv 0) rfl) (pv 3) (fun _ _ => rfl)) (pv 3) (nomark _))) (fun _ _ _ _ _ => pv 3))
      (pss_one (ps_ret (pe_lc (own := [("first", 4)]) (g := gName 4) rfl scComps.nd (pi_list (pv 2)) (blkOk_by (N := ["self", "nodes", "firsts", "node", "first"]) (sc := defScope sComps) (by decide +kernel))
        (fun _ _ _ _ _ => pg_name (i := 4) scComps.nd rfl (Or.inr rfl)) (fun _ _ _ _ _ => pts_nil)
        (fun _ _ _ _ _ => pe_lc (wi := iList K (tVar 1)) (own := [("node", 3)]) (g := gName 3) rfl scComps.nd (pi_list (pv 1)) (blkOk_by (N := ["self", "nodes", "firsts", "node", "first"]) (sc := relS (lcScope (retE ((defBody sComps).getD 2 (.Pass ⟨0, 0, 0, 0⟩)))) (defScope sComps)) (by decide +kernel))
          (fun _ _ _ _ _ => pg_name (i := 3) scComps.nd rfl (Or.inl rfl)) (fun _ _ _ _ _ => pts_one (pt_cmpR op_eq (pe_ix (r := rIxL K) ix_list (pe_fldK (K := K) (pv 0) rfl) (pv 3) (fun _ _ => rfl)) (pv 4) (nomark _))) (fun _ _ _ _ _ => pv 3)))))), ?_⟩
    refine ⟨_, rfl, p, C, dx, _, _, rfl, hp, T.cl, T.n1, wf_count _ _ _ _ _ _, n, rfl, rgOk (by omega), fun nd hnd => ?_⟩
    rw [rg_lab]
    have s1 : Same H (upd H nd (.lst (lab n id))) := same_new (Same.refl _) (.inl hnd)
    have nd1 : upd H nd (.lst (lab n id)) nd = some (.lst (lab n id)) := upd_same
    generalize upd H nd (.lst (lab n id)) = H1 at *
    refine ⟨_, rfl, nd, rfl, ⟨_, SqL.of nd1⟩, fun D hD => lc_list (K := K) (xs := lab n id) (fun i H' => Same H1 H' ∧ H' D = some (.lst (ivs ((List.range i).filter fun b => decide (Wm.F ps b = b)))))
      ⟨same_new (Same.refl _) (.inl hD), upd_same⟩ (fun i H' _ ⟨s2, _⟩ => SqL.of (s2 _ _ nd1)) ?_ ?_⟩
    · rintro i x H2 hi ⟨s2, h2⟩
      have hin : i < n := by have := (List.getElem?_eq_some_iff.mp hi).1; rw [lab_len] at this; exact this
      have ex : x = .int (i : Int) := by rw [lab_get hin] at hi; exact (Option.some.inj hi).symm
      subst ex
      refine ⟨rfl, ?_⟩
      refine ⟨_, rfl, p, C, dx, _, _, rfl, s2 _ _ (s1 _ _ hp), T.cl, T.n5, wf_firsts _ _ _ _ _ _, _, rfl, lfn, _, _, _, rfl, rfl, SqL.of (s2 _ _ (s1 _ _ hfn)), lab_at hin, _, rfl, rfl, _, rfl, ?_⟩
      rw [dint, range_filter_succ]
      by_cases h : Wm.F ps i = i
      · rw [decide_eq_true h, if_pos rfl]
        refine iteT ⟨_, rfl, _, h2, ?_, same_new s2 (.inr hD), ?_⟩
        · unfold ivs
          rw [List.length_map]
          exact small1000 (by have := filter_len (fun b => decide (Wm.F ps b = b)) i; omega)
        · rw [upd_same]
          unfold ivs
          rw [List.map_append]
          rfl
      · rw [decide_eq_false h, if_neg Bool.false_ne_true]
        exact iteF ⟨s2, h2⟩
    · rintro H2 ⟨s2, h2⟩
      rw [lab_len] at h2
      have nd2 := s2 _ _ nd1
      have hp2 := s2 _ _ (s1 _ _ hp)
      have hfn2 := s2 _ _ (s1 _ _ hfn)
      generalize hfi : (List.range n).filter (fun b => decide (Wm.F ps b = b)) = fi at *
      have fin : fi.length ≤ n := by rw [← hfi]; exact filter_len _ _
      refine ⟨_, rfl, D, rfl, ⟨_, SqL.of h2⟩, fun E2 hE2 => lc_list (K := K) (xs := ivs fi) (fun i H' => Same H2 H' ∧ GroupsAt H2 H' E2 ((fi.take i).map (Wm.groupOf n (Wm.F ps))))
        ⟨same_new (Same.refl _) (.inl hE2), GroupsAt.nil hE2⟩ (fun i H' _ ⟨s3, _⟩ => SqL.of (s3 _ _ h2)) ?_ ?_⟩
      · rintro i x H3 hi ⟨s3, G3⟩
        obtain ⟨k, hk, rfl⟩ := ivs_get hi
        refine ⟨rfl, tyes ?_⟩
        refine ⟨_, rfl, nd, rfl, ⟨_, SqL.of (s3 _ _ nd2)⟩, fun D2 hD2 => lc_list (K := K) (xs := lab n id) (fun j H' => Same H3 H' ∧ H' D2 = some (.lst (ivs ((List.range j).filter fun v => decide (Wm.F ps v = k)))))
          ⟨same_new (Same.refl _) (.inl hD2), upd_same⟩ (fun i H' _ ⟨s4, _⟩ => SqL.of (s4 _ _ (s3 _ _ nd2))) ?_ ?_⟩
        · rintro j x H4 hj ⟨s4, h4⟩
          have hjn : j < n := by have := (List.getElem?_eq_some_iff.mp hj).1; rw [lab_len] at this; exact this
          have ex : x = .int (j : Int) := by rw [lab_get hjn] at hj; exact (Option.some.inj hj).symm
          subst ex
          refine ⟨rfl, ?_⟩
          refine ⟨_, rfl, p, C, dx, _, _, rfl, s4 _ _ (s3 _ _ hp2), T.cl, T.n5, wf_firsts _ _ _ _ _ _, _, rfl, lfn, _, _, _, rfl, rfl, SqL.of (s4 _ _ (s3 _ _ hfn2)), lab_at hjn, _, rfl, rfl, _, rfl, ?_⟩
          rw [dint, range_filter_succ]
          by_cases h : Wm.F ps j = k
          · rw [decide_eq_true h, if_pos rfl]
            refine iteT ⟨_, rfl, _, h4, ?_, same_new s4 (.inr hD2), ?_⟩
            · unfold ivs
              rw [List.length_map]
              exact small1000 (by have := filter_len (fun v => decide (Wm.F ps v = k)) j; omega)
            · rw [upd_same]
              unfold ivs
              rw [List.map_append]
              rfl
          · rw [decide_eq_false h, if_neg Bool.false_ne_true]
            exact iteF ⟨s4, h4⟩
        · rintro H4 ⟨s4, h4⟩
          rw [lab_len] at h4
          obtain ⟨ls, g1, g2, g3⟩ := G3.snoc (g := Wm.groupOf n (Wm.F ps) k) s4 hD2 h4
          refine ⟨_, g1, ?_, same_new (s3.trans s4) (.inr hE2), ?_⟩
          · rw [List.length_map, g2, List.length_map, List.length_take]
            exact small1000 (by have := Nat.min_le_right i fi.length; omega)
          · have e := g3 s3
            rw [Wm.take_snoc hk, List.map_append]
            exact e
      · rintro H3 ⟨s3, G3⟩
        have el : (ivs fi).length = fi.length := by unfold ivs; rw [List.length_map]
        rw [el, List.take_length, ← hfi] at G3
        exact q H3 E2 ((s1.trans s2).trans s3) (G3.back (s1.trans s2))
theorem scForest : FnScope ["self"] ["self"] (defScope sForest) := ⟨rfl, rfl, rfl, by decide +kernel, rfl, by decide +kernel, by decide +kernel⟩
theorem ok_forest {f : Addr} {fd : FuncData} (F : Fun K "forest" "Web.forest" sForest f fd) (B : Bn mg) (T : Txt K mg C) : FnOk P w K mg base CX0 1 f fd ["self"] (spForest C) := by
  refine F.ok scForest (fun vs H Q E h => ?_) (fun cdv A outer s H vs Q E hr h => ?_)
  · obtain ⟨H0, p, n, ps, m, rfl, _⟩ := h
    rfl
  · obtain ⟨H0, p, n, ps, m, rfl, ⟨dx, le, lf, lfn, lt, ts, hp, hE, hf, hfn, _⟩, q⟩ := h
    refine ⟨_, pss_one (ps_ret (pe_callTy call_list_of (by rfl) B.list (by decide +kernel) (pa_cons (pe_fld (pv 0) rfl) pa_nil))), ?_⟩
    refine ⟨_, rfl, p, C, dx, _, _, rfl, hp, T.cl, T.n4, wf_nums _ _ _ _ _ _, lf, _, rfl, .inl (SqL.of hf), fun l hl => ?_⟩
    exact q _ l (same_new (Same.refl _) (.inl hl)) hl upd_same
end
end Wb

namespace Wb
open PySem L2
/-! ### lists of numbers and lists of such, as data -/
def dNums (l : List Nat) : List PyData := l.map fun (v : Nat) => PyData.int (v : Int)
def dInts (l : List Nat) : PyData := .list (dNums l)
def dGroups (gs : List (List Nat)) : PyData := .list (gs.map dInts)
theorem nums_lay : ∀ l : List Nat, PyData.canLayAll0 (dNums l) = true ∧ PyData.depthAll (dNums l) = 0
  | [] => ⟨by simp [dNums, PyData.canLayAll0], by simp [dNums, PyData.depthAll]⟩
  | v :: l => by
    have ih := nums_lay l
    have e : dNums (v :: l) = PyData.int (v : Int) :: dNums l := rfl
    rw [e]
    refine ⟨?_, ?_⟩
    · rw [PyData.canLayAll0, ih.1]; simp [PyData.canLay0]
    · rw [PyData.depthAll, ih.2]; simp [PyData.depth]
theorem ints_lay (l : List Nat) : (dInts l).canLay0 = true ∧ (dInts l).depth ≤ 1 := by
  have h := nums_lay l
  unfold dInts
  exact ⟨by rw [PyData.canLay0]; exact h.1, by rw [PyData.depth, h.2]; exact Nat.le_refl _⟩
theorem groups_lay : ∀ gs : List (List Nat), PyData.canLayAll0 (gs.map dInts) = true ∧ PyData.depthAll (gs.map dInts) ≤ 1
  | [] => ⟨by simp [PyData.canLayAll0], by simp [PyData.depthAll]⟩
  | g :: gs => by
    have ih := groups_lay gs
    have h := ints_lay g
    rw [List.map_cons]
    refine ⟨?_, ?_⟩
    · rw [PyData.canLayAll0, ih.1, h.1]; rfl
    · rw [PyData.depthAll]; exact Nat.max_le.mpr ⟨h.2, ih.2⟩
theorem shaped_ints (l : List Nat) : SeqAt.shaped (dInts l) = true := by
  unfold SeqAt.shaped
  rw [(ints_lay l).1, decide_eq_true (Nat.le_trans (ints_lay l).2 (by decide))]
  rfl
theorem shaped_groups (gs : List (List Nat)) : SeqAt.shaped (dGroups gs) = true := by
  have h := groups_lay gs
  unfold SeqAt.shaped dGroups
  have h1 : (PyData.list (gs.map dInts)).canLay0 = true := by rw [PyData.canLay0]; exact h.1
  have h2 : (PyData.list (gs.map dInts)).depth ≤ 64 := by rw [PyData.depth]; exact Nat.le_trans (Nat.succ_le_succ h.2) (by decide)
  rw [h1, decide_eq_true h2]
  rfl
theorem eqv_groups (gs : List (List Nat)) : PyData.eqv (dGroups gs) (dGroups gs) = true := SeqAt.eqv_refl _ (by rw [dGroups, PyData.canLay0]; exact (groups_lay gs).1)
theorem eqv_ints (l : List Nat) : PyData.eqv (dInts l) (dInts l) = true := SeqAt.eqv_refl _ (ints_lay l).1
theorem eqv_groups_nil (gs : List (List Nat)) : PyData.eqv (dGroups gs) (dGroups []) = decide (gs = []) := by
  cases gs with
  | nil => exact eqv_groups []
  | cons g gs =>
    unfold dGroups
    rw [PyData.eqv]
    simp [PyData.eqvAll]
theorem dp_nums {K : PySem.W.Frag} {H : Hp} : ∀ l : List Nat, DpAll K H (ivs l) (dNums l)
  | [] => .nil
  | v :: l => .cons (.int _) (dp_nums l)
theorem dp_ints {K : PySem.W.Frag} {H : Hp} {a : Addr} {l : List Nat} (h : H a = some (.lst (ivs l))) : Dp K H (.ref a) (dInts l) := .lst (SqL.of h) (dp_nums l)
def LL (H : Hp) (ls : List Addr) (gs : List (List Nat)) : Prop := ls.length = gs.length ∧ ∀ (i : Nat) (l : Addr) (g : List Nat), ls[i]? = some l → gs[i]? = some g → H l = some (.lst (ivs g))
theorem LL.same {H H' : Hp} {ls : List Addr} {gs : List (List Nat)} (h : LL H ls gs) (s : Same H H') : LL H' ls gs := ⟨h.1, fun i l g a b => s _ _ (h.2 i l g a b)⟩
theorem LL.dp {K : PySem.W.Frag} {H : Hp} : ∀ {ls : List Addr} {gs : List (List Nat)}, LL H ls gs → DpAll K H (ls.map V.ref) (gs.map dInts)
  | [], [], _ => .nil
  | [], _ :: _, h => by cases h.1
  | _ :: _, [], h => by cases h.1
  | l :: ls, g :: gs, h => .cons (dp_ints (h.2 0 l g rfl rfl)) (LL.dp ⟨Nat.succ.inj h.1, fun i m d a b => h.2 (i + 1) m d a b⟩)
theorem LL.snoc {H H' : Hp} {ls : List Addr} {gs : List (List Nat)} {l : Addr} {g : List Nat} (h : LL H ls gs) (hl : H l = some (.lst (ivs g))) (s : ∀ b ∈ ls ++ [l], ∀ o, H b = some o → H' b = some o) : LL H' (ls ++ [l]) (gs ++ [g]) := by
  refine ⟨by simp [h.1], fun i m d a b => s m (mem_of_get a) _ ?_⟩
  by_cases hi : i < ls.length
  · rw [List.getElem?_append_left hi] at a
    rw [List.getElem?_append_left (by rw [← h.1]; exact hi)] at b
    exact h.2 i m d a b
  · have e : i = ls.length := by
      have := (List.getElem?_eq_some_iff.mp a).1
      simp at this
      omega
    subst e
    rw [List.getElem?_append_right (Nat.le_refl _)] at a
    rw [h.1, List.getElem?_append_right (Nat.le_refl _)] at b
    simp at a b
    subst a b
    exact hl
theorem GroupsAt.ll {H0 H : Hp} {a : Addr} {gs : List (List Nat)} (h : GroupsAt H0 H a gs) : ∃ ls : List Addr, H a = some (.lst (ls.map V.ref)) ∧ LL H ls gs ∧ H0 a = none ∧ ∀ l ∈ ls, H0 l = none ∧ l ≠ a := by
  obtain ⟨ls, h1, h2, h3, h4, h5⟩ := h
  exact ⟨ls, h1, ⟨h2, h4⟩, h3, h5⟩
theorem But.to_same {l : Addr} {H H' : Hp} (a : But [l] H H') (h : H l = none) : Same H H' := fun b o e => a b o (fun z => by
  have e' : b = l := by simpa using z
  rw [e', h] at e
  cases e) e
theorem at_two {x y r : Int} (h0 : 0 ≤ r) (h1 : r < 2) : ∃ z : Int, (z = x ∨ z = y) ∧ atI ([.int x, .int y] : List V) r = some (.int z) := by
  have e : r = 0 ∨ r = 1 := by omega
  rcases e with rfl | rfl
  · exact ⟨x, .inl rfl, rfl⟩
  · exact ⟨y, .inr rfl, rfl⟩
theorem cut_to {ts : List Addr} {i : Nat} : cutV (ts.map V.ref) none (some (i : Int)) = (ts.take i).map V.ref := by
  unfold cutV
  rw [HT.sIx_none, HT.sIx_nat, List.drop_zero, Nat.sub_zero, List.length_map, List.map_take]
  by_cases h : i ≤ ts.length
  · rw [Nat.min_eq_left h]
  · rw [Nat.min_eq_right (by omega), List.take_of_length_le (by rw [List.length_map]; exact Nat.le_refl _), List.take_of_length_le (by rw [List.length_map]; omega)]
theorem PairsAt.take {H : Hp} {ts : List Addr} {ps : List (Nat × Nat)} (h : PairsAt H ts ps) (k : Nat) : PairsAt H (ts.take k) (ps.take k) := by
  refine ⟨by rw [List.length_take, List.length_take, h.1], fun i t p a b => ?_⟩
  by_cases hi : i < k
  · rw [List.getElem?_take_of_lt hi] at a b
    exact h.2 i t p a b
  · rw [List.getElem?_eq_none (by rw [List.length_take]; omega)] at a
    cases a
/-- a method by its promise -/
structure Md (P : Program) (w : World) (K : PySem.W.Frag) (mg : Str → Option Value) (base : Heap) (C : Addr) (k : Nat) (m : Str) (ps : List Str) (sp : Sp) : Prop where
  ex : ∃ (g : Addr) (gd : FuncData), FnOk P w K mg base CX0 k g gd ps sp ∧ Meth K C m g ∧ Binds K gd ps []
def spLaw (K : PySem.W.Frag) : Sp := fun vs H Q _ => ∃ (a : Addr) (ns : List Int), vs = [.ref a] ∧ SqL K H a (ns.map V.int) ∧ ns.length ≤ 63 ∧ ∀ H', Q (.bl true) H'
end Wb

namespace Wb
open PySem L2
abbrev lawN : List Str := ["_law_script", "_law_k", "_law_pool_here", "_law_nodes", "_law_links_here", "_law_web", "_law_chosen", "_law_at", "_law_groups_here", "_law_tail", "_law_head", "_law_again", "_law_forest", "_law_group"]
theorem refs_inj : ∀ {a b : List Addr}, a.map V.ref = b.map V.ref → a = b
  | [], [], _ => rfl
  | [], _ :: _, h => by cases h
  | _ :: _, [], h => by cases h
  | x :: a, y :: b, h => by
    rw [List.map_cons, List.map_cons] at h
    injection h with h1 h2
    rw [V.ref.inj h1, refs_inj h2]
theorem mx {len : Int} : 1 ≤ (if (if (6 : Int) < len then (6 : Int) else len) > 1 then (if (6 : Int) < len then (6 : Int) else len) else 1) ∧ (if (if (6 : Int) < len then (6 : Int) else len) > 1 then (if (6 : Int) < len then (6 : Int) else len) else 1) ≤ 6 := by
  split <;> split at * <;> omega
section
variable {P : Program} {w : World} {K : PySem.W.Frag} {mg : Str → Option Value} {base : Heap} {C : Addr}
theorem scLaw : FnScope lawN ["_law_script"] (defScope sLaw) := ⟨rfl, rfl, rfl, by decide +kernel, rfl, by decide +kernel, by decide +kernel⟩
theorem ok_law {f fI : Addr} {fd fdI : FuncData} (F : Fun K "law" "law" sLaw f fd) (B : Bn mg) (T : Txt K mg C) (M : Mk K C fI) (GI : FnOk P w K mg base CX0 5 fI fdI ["self", "size", "edges", "modulus"] (spInit C))
    (hb : KBn K fdI ["self", "size", "edges", "modulus"] 3 ["modulus"] (fun us ws => us ++ ws) (fun vs zs => vs ++ zs))
    (Dp' : Df P w K mg base 1 "_law_pool" ["_law_script", "_law_k"] (spPool K)) (Dt : Df P w K mg base 1 "_law_take" ["_law_pool_here", "_law_sides"] spTake) (Dm : Df P w K mg base 2 "_law_modulus" ["_law_pool_here"] spModulus)
    (Dl : Df P w K mg base 2 "_law_links" ["_law_pool_here", "_law_nodes", "_law_most"] spLinks) (Dg : Df P w K mg base 1 "_law_groups" ["_law_nodes", "_law_links_here"] spGroups)
    (Mc : Md P w K mg base C 1 "components" ["self"] (spComps C)) (Mf : Md P w K mg base C 1 "forest" ["self"] (spForest C)) : FnOk P w K mg base CX0 7 f fd ["_law_script"] (spLaw K) := by
  obtain ⟨gp, gdp, Gp, mgp, kp, bp⟩ := Dp'.ex
  obtain ⟨gt, gdt, Gt, mgt, kt, bt⟩ := Dt.ex
  obtain ⟨gm, gdm, Gm, mgm, km, bm⟩ := Dm.ex
  obtain ⟨gl, gdl, Gl, mgl, kl, bl⟩ := Dl.ex
  obtain ⟨gg, gdg, Gg, mgg, kg, bg⟩ := Dg.ex
  obtain ⟨gc, gdc, Gc, mc, bc⟩ := Mc.ex
  obtain ⟨gf, gdf, Gf, mf, bf⟩ := Mf.ex
  refine F.ok scLaw (fun vs H Q E h => ?_) (fun cdv A outer s H vs Q E hr h => ?_)
  · obtain ⟨a, ns, rfl, _⟩ := h
    rfl
  · obtain ⟨a, ns, rfl, hS, hlen, q⟩ := h
    have hr1 : Room 1 _ := hr.mono (by decide)
    have hr2 : Room 2 _ := hr.mono (by decide)
    refine ⟨_, pss_cons (ps_for PassesOwn.never rfl
        (pi_range1 rfl B.range (pa_cons (pe_callB (call_max2 rfl) (by rfl) B.max (by decide +kernel) (pa_cons pe_int (pa_cons (pe_callB (call_min2 rfl) (by rfl) B.min (by decide +kernel) (pa_cons (pe_callB call_len_seq (by rfl) B.len PySem.boot_len (pa_cons (pv 0) pa_nil)) (pa_cons pe_int pa_nil))) pa_nil))) pa_nil))
        (pg_name (i := 1) scLaw.nd rfl (Or.inl rfl))
        (pss_cons (ps_set (i := 2) scLaw.nd rfl (Or.inl rfl) (pe_call Gp hr1 rfl mgp kp bp .nil pass0 (pa_cons (pv 0) (pa_cons (pv 1) pa_nil))))
        (pss_cons (ps_set (i := 3) scLaw.nd rfl (Or.inl rfl) (pe_op op_add pe_int (pe_call Gt hr1 rfl mgt kt bt .nil pass0 (pa_cons (pv 2) (pa_cons (pe_ix ix_list (pe_lst (pa_cons pe_int (pa_cons pe_int pa_nil))) (pe_call Gt hr1 rfl mgt kt bt .nil pass0 (pa_cons (pv 2) (pa_cons pe_int pa_nil))) (fun _ _ => rfl)) pa_nil)))))
        (pss_cons (ps_set (i := 4) scLaw.nd rfl (Or.inl rfl) (pe_call Gl hr2 rfl mgl kl bl .nil pass0 (pa_cons (pv 2) (pa_cons (pv 3) (pa_cons (pe_ix ix_list (pe_lst (pa_cons pe_int (pa_cons pe_int pa_nil))) (pe_call Gt hr1 rfl mgt kt bt .nil pass0 (pa_cons (pv 2) (pa_cons pe_int pa_nil))) (fun _ _ => rfl)) pa_nil)))))
        (pss_cons (ps_set (i := 5) scLaw.nd rfl (Or.inl rfl) (pe_makeK (n := 2) M GI hr rfl T.mgC hb pass0 (pa_cons (pv 3) (pa_cons (pv 4) pa_nil)) (pk_cons (pe_call Gm hr2 rfl mgm km bm .nil pass0 (pa_cons (pv 2) pa_nil)) pk_nil)))
        (pss_cons (ps_set (i := 6) scLaw.nd rfl (Or.inl rfl) (pe_lst pa_nil))
        (pss_cons (ps_for PassesOwn.never rfl (pi_range1 rfl B.range (pa_cons (pe_callB call_len_seq (by rfl) B.len PySem.boot_len (pa_cons (pv 4) pa_nil)) pa_nil)) (pg_name (i := 7) scLaw.nd rfl (Or.inl rfl))
          (pss_cons (ps_set (i := 8) scLaw.nd rfl (Or.inl rfl) (pe_call Gg hr1 rfl mgg kg bg .nil pass0 (pa_cons (pv 3) (pa_cons (pe_slice sl_list (pv 4) po_none (po_some (pv 7))) pa_nil))))
          (pss_cons (ps_asg (pe_ix ix_list (pv 4) (pv 7) (fun _ _ => rfl)) (pg_tup rfl (pgs_cons (pg_name (i := 9) scLaw.nd rfl (Or.inr rfl)) (pgs_cons (pg_name (i := 10) scLaw.nd rfl (Or.inr rfl)) pgs_nil))))
          (pss_one (ps_if (pt_cmpR (op_eqD hr.units) (pe_lc (own := [("_law_group", 13)]) (g := gName 13) rfl scLaw.nd (pi_list (pv 8)) (blkOk_by (N := lawN) (sc := defScope sLaw) (by decide +kernel))
              (fun _ _ _ _ _ => pg_name (i := 13) scLaw.nd rfl (Or.inl rfl))
              (fun _ _ _ _ _ => pts_one (PW.pt (pw_and (pt_cmpR (r := rIn K false) op_in_seq (pv 9) (pv 13) (by rfl)) (pw_and1 (pt_cmpR (r := rIn K false) op_in_seq (pv 10) (pv 13) (by rfl))))))
              (fun _ _ _ _ _ => pv 13)) (pe_lst pa_nil) (nomark _))
            (pss_one (ps_expr (pe_bm PySem.F.plainAttrs_list PySem.F.slot_list_append PySem.F.type_list_append mt_append (pv 6) (pa_cons (pv 7) pa_nil)))) pss_nil)))))
        (pss_one (ps_for PassesOwn.never rfl (pi_range1 rfl B.range (pa_cons pe_int pa_nil)) (pg_name (i := 11) scLaw.nd rfl (Or.inl rfl))
          (pss_cons (ps_par (i := 8) (j := 12) (by rfl) scLaw.nd rfl rfl (by decide) rfl rfl (pa_cons (pe_meth0 (pv 5) T.cl mc Gc hr1 bc .nil pass0) (pa_cons (pe_meth0 (pv 5) T.cl mf Gf hr1 bf .nil pass0) pa_nil)) (by rfl))
          (pss_cons (ps_if (PW.pt (pw_or (pt_cmpR (op_neD hr.units) (pv 8) (pe_call Gg hr1 rfl mgg kg bg .nil pass0 (pa_cons (pv 3) (pa_cons (pv 4) pa_nil))) (nomark _)) (pw_or1 (pt_cmpR (op_neD hr.units) (pv 12) (pv 6) (nomark _)))))
            (pss_one (ps_ret pe_bl)) pss_nil)
          (pss_cons (ps_expr (pe_bm0 PySem.F.plainAttrs_list PySem.F.slot_list_clear PySem.F.type_list_clear mt_clear (pe_ix ix_list (pv 8) pe_int (fun _ _ => rfl))))
          (pss_cons (ps_expr (pe_bm0 PySem.F.plainAttrs_list PySem.F.slot_list_clear PySem.F.type_list_clear mt_clear (pv 8)))
          (pss_one (ps_expr (pe_bm PySem.F.plainAttrs_list PySem.F.slot_list_append PySem.F.type_list_append mt_append (pv 12) (pa_cons pe_int pa_nil)))))))))))))))))
      (pss_one (ps_ret pe_bl)), ?_⟩
    refine ⟨_, rfl, a, _, rfl, .inl hS, _, _, rfl, _, _, rfl, ?_⟩
    have hv := mx (len := ((ns.map V.int).length : Int))
    revert hv
    generalize (if (if (6 : Int) < ((ns.map V.int).length : Int) then (6 : Int) else ((ns.map V.int).length : Int)) > 1 then (if (6 : Int) < ((ns.map V.int).length : Int) then (6 : Int) else ((ns.map V.int).length : Int)) else 1) = v
    intro hv
    refine ⟨v, rfl, by omega, by omega, for_range (lo := 0) (n := v.toNat) (fun i σ H' => ∃ v1 v2 v3 v4 v5 v6 v7 v8 v9 v10 v11 v12, σ = [some (.ref a), v1, v2, v3, v4, v5, v6, v7, v8, v9, v10, v11, v12, none] ∧ Same H H')
      ⟨none, none, none, none, none, none, none, none, none, none, none, none, rfl, Same.refl _⟩ ?_ ?_⟩
    · rintro i σ H1 hi ⟨v1, v2, v3, v4, v5, v6, v7, v8, v9, v10, v11, v12, rfl, s1⟩
      have hi6 : i < 6 := by omega
      refine ⟨_, rfl, _, rfl, a, ns, 0 + (i : Int), rfl, s1.seq hS, hlen, by omega, by omega, fun H2 p s2 hp hpool => ?_⟩
      -- nodes
      refine ⟨_, rfl, (by show 2 ≤ sizeLine; decide), fun l1 hl1 => ⟨_, rfl, p, 2, rfl, hpool.new hl1, by decide, by decide, fun H3 r b3 hpool3 r0 r1 => ?_⟩⟩
      obtain ⟨z, hz, hat⟩ := at_two (x := 4) (y := 30) r0 r1
      have B3 : But [p] H2 H3 := ((But.refl _ H2).new (.inl hl1)).trans b3
      refine ⟨l1, _, r, .int z, rfl, rfl, SqL.of (b3.at (hpool.ne hl1) upd_same), hat, p, z, rfl, hpool3, by omega, by omega, fun H4 r2 b4 hpool4 r20 r21 => ?_⟩
      have B4 : But [p] H2 H4 := B3.trans b4
      refine ⟨_, _, rfl, rfl, ?_⟩
      obtain ⟨n, hn⟩ : ∃ n : Nat, 1 + r2 = (n : Int) := ⟨(1 + r2).toNat, (Int.toNat_of_nonneg (by omega)).symm⟩
      have hn' : (fun i j : Int => V.int (i + j)) 1 r2 = V.int (n : Int) := congrArg V.int hn
      rw [hn']
      have n1 : 1 ≤ n := by omega
      have n30 : n ≤ 30 := by omega
      -- links
      refine ⟨_, rfl, _, rfl, (by show 2 ≤ sizeLine; decide), fun l2 hl2 => ⟨_, rfl, p, 2, rfl, hpool4.new hl2, by decide, by decide, fun H5 r5 b5 hpool5 r50 r51 => ?_⟩⟩
      obtain ⟨z5, hz5, hat5⟩ := at_two (x := 6) (y := 60) r50 r51
      have B5 : But [p] H2 H5 := (B4.new (.inl hl2)).trans b5
      obtain ⟨mm, hmm⟩ : ∃ n : Nat, z5 = (n : Int) := ⟨z5.toNat, (Int.toNat_of_nonneg (by omega)).symm⟩
      refine ⟨l2, _, r5, .int z5, rfl, rfl, SqL.of (b5.at (hpool4.ne hl2) upd_same), hat5, p, n, mm, (by rw [hmm]; rfl), hpool5, by omega, n30, by omega, fun H6 la ts ps b6 hpool6 hla hE hw hpl => ?_⟩
      have B6 : But [p] H2 H6 := B5.trans b6
      have hlap : la ∉ [p] := hpool5.ne hla
      -- the web
      refine ⟨_, rfl, _, rfl, _, rfl, p, rfl, hpool6, fun H7 m b7 hpool7 hm => ⟨rfl, rfl, fun x dx hx hdx hne => ?_⟩⟩
      have B7 : But [p] H2 H7 := B6.trans b7
      have hE7 : EdgesAt H7 la ts ps := ⟨b7.at hlap hE.1, hE.2.but b7 hpool6.notup⟩
      have s8 : Same H7 (upd (upd H7 dx (.own x)) x (.ins C dx [])) := same_new (same_new (Same.refl _) (.inl hdx)) (.inr hx)
      have hm' : m = 0 ∨ 2 ≤ m ∧ m ≤ 60 := by
        simp only [List.mem_cons, List.not_mem_nil, or_false] at hm
        omega
      refine ⟨x, dx, la, ts, ps, n, m, rfl, upd_same, ⟨s8 _ _ hE7.1, hE7.2.same s8⟩, hw, n1, n30, by omega, hm', fun H8 b8 W8 => ⟨rfl, ?_⟩⟩
      have S8 : Same H7 H8 := fun b o e => b8 b o (fun z => by
        have e' : b = x := by simpa using z
        rw [e', hx] at e
        cases e) (s8 b o e)
      have W8' := W8.back s8
      -- chosen
      refine ⟨Nat.zero_le _, fun c hc => ?_⟩
      have S9 : Same H8 (upd H8 c (.lst [])) := same_new (Same.refl _) (.inl hc)
      have hEl : ts.length = ps.length := hE.2.1
      have hE8 : EdgesAt H8 la ts ps := ⟨S8 _ _ hE7.1, hE7.2.same S8⟩
      have pl60 : ps.length ≤ 60 := by omega
      refine ⟨_, rfl, la, _, rfl, .inl (SqL.of (S9 _ _ hE8.1)), _, rfl, by omega, (by rw [List.length_map]; omega), for_range (lo := 0) (n := _) (fun i' σ H' => ∃ v7 v8 v9 v10, σ = [some (.ref a), some (.int (0 + (i : Int))), some (.ref p), some (.int n), some (.ref la), some (.ref x), some (.ref c), v7, v8, v9, v10, v11, v12, none] ∧
          Same H8 H' ∧ H' c = some (.lst (ivs (Wm.nums ps i'))))
        ⟨v7, v8, v9, v10, rfl, S9, upd_same⟩ ?_ ?_⟩
      · rintro j σ H10 hj ⟨u7, u8, u9, u10, rfl, s10, hc10⟩
        have hjp : j < ps.length := by rw [List.length_map, hEl] at hj; omega
        have ej : (0 : Int) + (j : Int) = (j : Int) := Int.zero_add _
        have hE10 : EdgesAt H10 la ts ps := ⟨s10 _ _ hE8.1, hE8.2.same s10⟩
        rw [ej]
        refine ⟨_, rfl, _, rfl, _, rfl, _, rfl, la, _, rfl, SqL.of hE10.1, fun sl hsl => ?_⟩
        rw [cut_to]
        have s11 : Same H10 (upd H10 sl (.lst ((ts.take j).map V.ref))) := same_new (Same.refl _) (.inl hsl)
        have hw' : Within n (ps.take j) := fun e he => hw e (List.mem_of_mem_take he)
        refine ⟨n, sl, ts.take j, ps.take j, rfl, ⟨upd_same, (hE10.2.take j).same s11⟩, hw', by rw [List.length_take]; exact Nat.le_trans (Nat.min_le_right _ _) pl60, n30, fun H12 ga s12 G12 => ?_⟩
        have s012 := s11.trans s12
        generalize upd H10 sl (.lst ((ts.take j).map V.ref)) = H11 at *
        obtain ⟨t, ht⟩ : ∃ t, ts[j]? = some t := ⟨_, List.getElem?_eq_getElem (show j < ts.length by omega)⟩
        obtain ⟨e, he, het⟩ := (hE10.2.same s012).get ht
        have hwe := hw e (mem_of_get he)
        refine ⟨_, rfl, _, rfl, la, _, _, .ref t, rfl, rfl, SqL.of (s012 _ _ hE10.1), atI_nat (by rw [List.getElem?_map, ht]; rfl), t, _, rfl, SqT.of het, rfl, _, _, rfl, _, _, rfl, rfl, ?_⟩
        -- the groups that have both ends
        obtain ⟨ls, g1, g2, g3, g4⟩ := G12.ll
        refine ⟨_, rfl, ga, rfl, ⟨_, SqL.of g1⟩, fun D hD => lc_list (K := K) (xs := ls.map V.ref) (fun i' H' => Same H12 H' ∧ ∃ sel, H' D = some (.lst (sel.map V.ref)) ∧ D ∉ sel ∧ sel.length ≤ i' ∧ LL H' sel (((Wm.groups n (Wm.F (ps.take j))).take i').filter fun g => decide (e.1 ∈ g) && decide (e.2 ∈ g)))
          ⟨same_new (Same.refl _) (.inl hD), [], upd_same, by simp, Nat.le_refl _, rfl, fun i l g e => by simp at e⟩ (fun i' H' _ ⟨s13, _⟩ => SqL.of (s13 _ _ g1)) ?_ ?_⟩
        · rintro i' x' H13 hi' ⟨s13, sel, hD13, hDs, hsl', hL⟩
          obtain ⟨l, hl, rfl⟩ := refs_get hi'
          have hil : i' < (Wm.groups n (Wm.F (ps.take j))).length := by rw [← g2.1]; exact (List.getElem?_eq_some_iff.mp hl).1
          obtain ⟨g, hg⟩ : ∃ g, (Wm.groups n (Wm.F (ps.take j)))[i']? = some g := ⟨_, List.getElem?_eq_getElem hil⟩
          have hlg := s13 _ _ (g2.2 i' l g hl hg)
          have nlD : l ≠ D := by
            rintro rfl
            have := g2.2 i' l g hl hg
            rw [this] at hD
            cases hD
          rw [Wm.take_snoc hg, List.filter_append]
          refine ⟨rfl, ?_⟩
          have drop : ∀ b : Bool, (decide (e.1 ∈ g) && decide (e.2 ∈ g)) = b → b = false → (Same H12 H13 ∧ ∃ sel, H13 D = some (.lst (sel.map V.ref)) ∧ D ∉ sel ∧ sel.length ≤ i' + 1 ∧ LL H13 sel (((Wm.groups n (Wm.F (ps.take j))).take i').filter (fun g => decide (e.1 ∈ g) && decide (e.2 ∈ g)) ++ [g].filter (fun g => decide (e.1 ∈ g) && decide (e.2 ∈ g)))) := by
            rintro b hb rfl
            refine ⟨s13, sel, hD13, hDs, Nat.le_succ_of_le hsl', ?_⟩
            rw [List.filter_cons, hb]
            simpa using hL
          refine ⟨_, rfl, _, rfl, l, _, rfl, .inl (SqL.of hlg), rfl, flat_ivs _, _, rfl, ?_⟩
          rw [if_neg Bool.false_ne_true, inV_ivs]
          by_cases h1 : e.1 ∈ g
          · rw [decide_eq_true h1]
            refine iteT ⟨_, rfl, _, rfl, l, _, rfl, .inl (SqL.of hlg), rfl, flat_ivs _, _, rfl, ?_⟩
            rw [if_neg Bool.false_ne_true, inV_ivs]
            by_cases h2 : e.2 ∈ g
            · rw [decide_eq_true h2]
              refine iteT ⟨_, rfl, _, hD13, ?_, same_new s13 (.inr hD), sel ++ [l], by rw [upd_same]; simp, ?_, ?_, ?_⟩
              · rw [List.length_map]
                exact small1000 (by
                  have : (Wm.groups n (Wm.F (ps.take j))).length ≤ n := by unfold Wm.groups; rw [List.length_map]; exact filter_len _ _
                  omega)
              · simp only [List.mem_append, List.mem_singleton, not_or]
                exact ⟨hDs, nlD.symm⟩
              · rw [List.length_append]
                exact Nat.add_le_add_right hsl' 1
              · rw [List.filter_cons, decide_eq_true h1, decide_eq_true h2]
                simp only [Bool.and_self, if_true, List.filter_nil]
                refine hL.snoc hlg fun b hb o eo => ?_
                rw [upd_ne]
                · exact eo
                · rintro rfl
                  rcases List.mem_append.mp hb with hb | hb
                  · exact hDs hb
                  · have e' : b = l := by simpa using hb
                    exact nlD e'.symm
            · rw [decide_eq_false h2]
              refine iteF ?_
              exact drop _ (by rw [decide_eq_false h2, Bool.and_false]) rfl
          · rw [decide_eq_false h1]
            refine iteF ?_
            exact drop _ (by rw [decide_eq_false h1, Bool.false_and]) rfl
        · rintro H13 ⟨s13, sel, hD13, hDs, hsl', hL⟩
          have el : (ls.map V.ref).length = (Wm.groups n (Wm.F (ps.take j))).length := by rw [List.length_map]; exact g2.1
          rw [el, List.take_length] at hL
          refine ⟨Nat.zero_le _, fun em hem => ?_⟩
          have s14 : Same H13 (upd H13 em (.lst [])) := same_new (Same.refl _) (.inl hem)
          refine ⟨dGroups _, dGroups [], .lst (SqL.of (s14 _ _ hD13)) (hL.same s14).dp, .lst (SqL.of upd_same) .nil, shaped_groups _, shaped_groups [], _, rfl, ?_⟩
          rw [eqv_groups_nil]
          have sAll : Same H8 (upd H13 em (.lst [])) := (s10.trans s012).trans (s13.trans s14)
          have hc13 := (s012.trans (s13.trans s14)) _ _ hc10
          have hat2 : Wm.at2 ps j = e := Wm.at2_get he
          have hgr : Wm.grows ps j = decide (((Wm.groups n (Wm.F (ps.take j))).filter fun g => decide (e.1 ∈ g) && decide (e.2 ∈ g)) = []) := by
            unfold Wm.grows
            rw [hat2]
            by_cases h : Wm.F (ps.take j) e.1 = Wm.F (ps.take j) e.2
            · rw [decide_eq_false (fun z => z h), decide_eq_false fun z => (Wm.both_in hwe.1 hwe.2).mp z h]
            · rw [decide_eq_true h, decide_eq_true ((Wm.both_in hwe.1 hwe.2).mpr h)]
          rw [← hgr]
          cases hb : Wm.grows ps j with
          | true =>
            refine iteT ?_
            refine ⟨_, rfl, .inl ⟨rfl, _, SqL.of hc13⟩, _, rfl, c, _, _, rfl, rfl, hc13, ?_, ?_⟩
            · unfold ivs
              rw [List.length_map]
              exact small1000 (by have := filter_len (Wm.grows ps) j; unfold Wm.nums; omega)
            · refine ⟨_, _, _, _, rfl, same_new sAll (.inr hc), ?_⟩
              rw [upd_same, Wm.nums_succ, if_pos hb]
              unfold ivs
              rw [List.map_append]
              rfl
          | false =>
            refine iteF ⟨_, _, _, _, rfl, sAll, ?_⟩
            rw [Wm.nums_succ, hb, if_neg Bool.false_ne_true]
            exact hc13
      · rintro σ H10 ⟨u7, u8, u9, u10, rfl, s10, hc10⟩
        have el : (((ts.map V.ref).length : Nat) : Int).toNat = ps.length := by rw [List.length_map, hEl]; omega
        rw [el] at hc10
        refine ⟨2, rfl, by decide, by decide, for_range (lo := 0) (n := 2) (fun i' σ H' => ∃ v7 v8 v9 v10 v11 v12, σ = [some (.ref a), some (.int (0 + (i : Int))), some (.ref p), some (.int n), some (.ref la), some (.ref x), some (.ref c), v7, v8, v9, v10, v11, v12, none] ∧ Same H10 H')
          ⟨u7, u8, u9, u10, v11, v12, rfl, Same.refl _⟩ ?_ ?_⟩
        · rintro j σ H11 hj ⟨u7, u8, u9, u10, u11, u12, rfl, s11⟩
          have W11 := W8'.same (s10.trans s11)
          obtain ⟨wdx, wle, wlf, wlfn, wlt, wts, hx11, _⟩ := id W11
          refine ⟨_, rfl, x, wdx, _, rfl, hx11, wf_none _ _ _ _ _ _ (by decide +kernel), H7, x, n, ps, m, rfl, W11, n30, fun H12 ga s12 G12 => ?_⟩
          refine ⟨_, rfl, x, wdx, _, rfl, s12 _ _ hx11, wf_none _ _ _ _ _ _ (by decide +kernel), H7, x, n, ps, m, rfl, W11.same s12, fun H13 fo s13 hfo hf13 => ?_⟩
          refine ⟨_, _, rfl, ?_⟩
          have hE13 : EdgesAt H13 la ts ps := by
            have s := ((s10.trans s11).trans s12).trans s13
            exact ⟨s _ _ hE8.1, hE8.2.same s⟩
          have hc13 := ((s11.trans s12).trans s13) _ _ hc10
          refine ⟨_, rfl, _, rfl, _, rfl, n, la, ts, ps, rfl, hE13, hw, pl60, n30, fun H14 gb s14 G14 => ?_⟩
          obtain ⟨ls, g1, g2, g3, g4⟩ := (G12.same (s13.trans s14)).ll
          obtain ⟨ls2, k1, k2, k3, k4⟩ := G14.ll
          refine ⟨dGroups _, dGroups _, .lst (SqL.of g1) g2.dp, .lst (SqL.of k1) k2.dp, shaped_groups _, shaped_groups _, _, rfl, ?_⟩
          rw [eqv_groups]
          refine iteF ?_
          have hf14 := s14 _ _ hf13
          have hc14 := s14 _ _ hc13
          refine ⟨_, rfl, _, rfl, dInts _, dInts _, dp_ints hf14, dp_ints hc14, shaped_ints _, shaped_ints _, _, rfl, ?_⟩
          rw [eqv_ints]
          refine iteF ?_
          -- what was handed back is emptied
          have hlen0 : 0 < (Wm.groups n (Wm.F ps)).length := by
            unfold Wm.groups
            rw [List.length_map]
            refine List.length_pos_of_mem (a := 0) (List.mem_filter.mpr ⟨List.mem_range.mpr (by omega), decide_eq_true ?_⟩)
            have := (Wm.rootF ps).le 0
            omega
          have h0 : 0 < ls.length := by rw [g2.1]; exact hlen0
          obtain ⟨l0, hl0⟩ : ∃ l, ls[0]? = some l := ⟨_, List.getElem?_eq_getElem h0⟩
          obtain ⟨gr0, hgr0⟩ : ∃ g, (Wm.groups n (Wm.F ps))[0]? = some g := ⟨_, List.getElem?_eq_getElem hlen0⟩
          have hc0 := g2.2 0 l0 gr0 hl0 hgr0
          have hn0 := g4 l0 (mem_of_get hl0)
          refine ⟨_, rfl, ga, _, 0, .ref l0, rfl, rfl, SqL.of g1, atI_nat (j := 0) (by rw [List.getElem?_map, hl0]; rfl), .inl ⟨rfl, _, SqL.of hc0⟩, l0, _, rfl, rfl, hc0, ?_⟩
          have g1' : upd H14 l0 (.lst []) ga = some (.lst (ls.map V.ref)) := by rw [upd_ne (Ne.symm hn0.2)]; exact g1
          refine ⟨_, rfl, .inl ⟨rfl, _, SqL.of g1'⟩, ga, _, rfl, rfl, g1', ?_⟩
          have nfl : fo ≠ l0 := by
            rintro rfl
            have s1214 := s13.trans s14
            obtain ⟨lsx, x1, x2, x3, x4⟩ := G12.ll
            have e1 : ls = lsx := by
              have := s1214 _ _ x1
              rw [g1] at this
              have := HO.lst.inj (Option.some.inj this)
              exact refs_inj this
            subst e1
            have := x2.2 0 _ gr0 hl0 hgr0
            rw [this] at hfo
            cases hfo
          have nfa : fo ≠ ga := by
            rintro rfl
            obtain ⟨lsx, x1, _⟩ := G12.ll
            rw [x1] at hfo
            cases hfo
          have hf15 : upd (upd H14 l0 (.lst [])) ga (.lst []) fo = some (.lst (ivs (Wm.nums ps ps.length))) := by rw [upd_ne nfa, upd_ne nfl]; exact hf14
          refine ⟨_, rfl, .inl ⟨rfl, _, SqL.of hf15⟩, fo, _, _, rfl, rfl, hf15, ?_, ?_⟩
          · unfold ivs
            rw [List.length_map]
            exact small1000 (by have := filter_len (Wm.grows ps) ps.length; unfold Wm.nums; omega)
          · have s15 : Same H11 H14 := (s12.trans s13).trans s14
            refine ⟨_, _, _, _, _, _, rfl, s11.trans ?_⟩
            have hfo11 : H11 fo = none := s12.free hfo
            exact same_new (same_new (same_new s15 (.inr hn0.1)) (.inr g3)) (.inr hfo11)
        · rintro σ H11 ⟨u7, u8, u9, u10, u11, u12, rfl, s11⟩
          have hp1 : Same H1 H7 := by
            have b : But [p] H1 H7 := (But.of_same s2).trans B7
            exact b.to_same hp
          exact ⟨_, _, _, _, _, _, _, _, _, _, _, _, rfl, ((s1.trans hp1).trans S8).trans (s10.trans s11)⟩
    · rintro σ H1 ⟨v1, v2, v3, v4, v5, v6, v7, v8, v9, v10, v11, v12, rfl, s1⟩
      exact q _
end
end Wb

namespace Wb
open PySem L2
theorem all_mk {l : PySem.W.OpenLaw} {w : World} {K : PySem.W.Frag} {h : Heap} {mg : Str → Option Value} {fa : Addr} (X : K.In h) (G : h.Ns mainGlobals mg) (hfa : mg "law" = some (.ref fa))
    {C f1 f2 f3 f4 f5 f6 f7 f8 f9 f10 f11 f12 f13 f14 f15 f0 TD KD ET : Addr} {od1 an1 od2 an2 od3 an3 od4 an4 od5 an5 od6 an6 od7 an7 od8 an8 od9 an9 od10 an10 od11 an11 od12 an12 od13 an13 od14 an14 od15 an15 od0 an0 odT : Option Addr} {sl1 sl2 sl3 sl4 sl5 sl6 sl7 sl8 sl9 sl10 sl11 sl12 sl13 sl14 sl15 sl0 slT : Array (Option Value)} {oc1 kV1 dc1 pm1 cd1 ct1 oc2 kV2 dc2 pm2 cd2 ct2 oc3 kV3 dc3 pm3 cd3 ct3 oc4 kV4 dc4 pm4 cd4 ct4 oc5 kV5 dc5 pm5 cd5 ct5 oc6 kV6 dc6 pm6 cd6 ct6 oc7 kV7 dc7 pm7 cd7 ct7 oc8 kV8 dc8 pm8 cd8 ct8 oc9 kV9 dc9 pm9 cd9 ct9 oc10 kV10 dc10 pm10 cd10 ct10 oc11 kV11 dc11 pm11 cd11 ct11 oc12 kV12 dc12 pm12 cd12 ct12 oc13 kV13 dc13 pm13 cd13 ct13 oc14 kV14 dc14 pm14 cd14 ct14 oc15 kV15 dc15 pm15 cd15 ct15 oc0 dc0 pm0 cd0 ct0 ocT : Value} {tk0 t1 t2 t3 t4 : Tok} {nT : Nat}
    (aC : PySem.W.nsIn K mainGlobals "Web" = some (some (.ref C)))
    (a1 : PySem.W.nsIn K mainGlobals "is_integer" = some (some (.ref f1)))
    (l1 : K.lookup f1 = some ⟨oc1, od1, .func (PySem.W.fnOf "is_integer" "is_integer" (defArgs sIsInt) (defBody sIsInt) (defScope sIsInt) .none kV1 dc1 pm1 an1 cd1 ct1), sl1⟩)
    (c1 : PySem.W.codeIn K cd1 "is_integer" = true)
    (k1 : PySem.W.keepIn K (.ref f1) = true)
    (a2 : PySem.W.nsIn K mainGlobals "is_between" = some (some (.ref f2)))
    (l2 : K.lookup f2 = some ⟨oc2, od2, .func (PySem.W.fnOf "is_between" "is_between" (defArgs sBetween) (defBody sBetween) (defScope sBetween) .none kV2 dc2 pm2 an2 cd2 ct2), sl2⟩)
    (c2 : PySem.W.codeIn K cd2 "is_between" = true)
    (k2 : PySem.W.keepIn K (.ref f2) = true)
    (a3 : PySem.W.nsIn K mainGlobals "is_modulus" = some (some (.ref f3)))
    (l3 : K.lookup f3 = some ⟨oc3, od3, .func (PySem.W.fnOf "is_modulus" "is_modulus" (defArgs sIsMod) (defBody sIsMod) (defScope sIsMod) .none kV3 dc3 pm3 an3 cd3 ct3), sl3⟩)
    (c3 : PySem.W.codeIn K cd3 "is_modulus" = true)
    (k3 : PySem.W.keepIn K (.ref f3) = true)
    (a4 : PySem.W.nsIn K mainGlobals "is_edge" = some (some (.ref f4)))
    (l4 : K.lookup f4 = some ⟨oc4, od4, .func (PySem.W.fnOf "is_edge" "is_edge" (defArgs sIsEdge) (defBody sIsEdge) (defScope sIsEdge) .none kV4 dc4 pm4 an4 cd4 ct4), sl4⟩)
    (c4 : PySem.W.codeIn K cd4 "is_edge" = true)
    (k4 : PySem.W.keepIn K (.ref f4) = true)
    (a5 : PySem.W.nsIn K mainGlobals "check_edges" = some (some (.ref f5)))
    (l5 : K.lookup f5 = some ⟨oc5, od5, .func (PySem.W.fnOf "check_edges" "check_edges" (defArgs sCheck) (defBody sCheck) (defScope sCheck) .none kV5 dc5 pm5 an5 cd5 ct5), sl5⟩)
    (c5 : PySem.W.codeIn K cd5 "check_edges" = true)
    (k5 : PySem.W.keepIn K (.ref f5) = true)
    (a6 : PySem.W.nsIn K mainGlobals "grown_forest" = some (some (.ref f6)))
    (l6 : K.lookup f6 = some ⟨oc6, od6, .func (PySem.W.fnOf "grown_forest" "grown_forest" (defArgs sGrown) (defBody sGrown) (defScope sGrown) .none kV6 dc6 pm6 an6 cd6 ct6), sl6⟩)
    (c6 : PySem.W.codeIn K cd6 "grown_forest" = true)
    (k6 : PySem.W.keepIn K (.ref f6) = true)
    (a7 : PySem.W.nsIn K mainGlobals "ties_of" = some (some (.ref f7)))
    (l7 : K.lookup f7 = some ⟨oc7, od7, .func (PySem.W.fnOf "ties_of" "ties_of" (defArgs sTies) (defBody sTies) (defScope sTies) .none kV7 dc7 pm7 an7 cd7 ct7), sl7⟩)
    (c7 : PySem.W.codeIn K cd7 "ties_of" = true)
    (k7 : PySem.W.keepIn K (.ref f7) = true)
    (a8 : PySem.W.nsIn K mainGlobals "_law_pool" = some (some (.ref f8)))
    (l8 : K.lookup f8 = some ⟨oc8, od8, .func (PySem.W.fnOf "_law_pool" "_law_pool" (defArgs sPool) (defBody sPool) (defScope sPool) .none kV8 dc8 pm8 an8 cd8 ct8), sl8⟩)
    (c8 : PySem.W.codeIn K cd8 "_law_pool" = true)
    (k8 : PySem.W.keepIn K (.ref f8) = true)
    (a9 : PySem.W.nsIn K mainGlobals "_law_take" = some (some (.ref f9)))
    (l9 : K.lookup f9 = some ⟨oc9, od9, .func (PySem.W.fnOf "_law_take" "_law_take" (defArgs sTake) (defBody sTake) (defScope sTake) .none kV9 dc9 pm9 an9 cd9 ct9), sl9⟩)
    (c9 : PySem.W.codeIn K cd9 "_law_take" = true)
    (k9 : PySem.W.keepIn K (.ref f9) = true)
    (a10 : PySem.W.nsIn K mainGlobals "_law_modulus" = some (some (.ref f10)))
    (l10 : K.lookup f10 = some ⟨oc10, od10, .func (PySem.W.fnOf "_law_modulus" "_law_modulus" (defArgs sModulus) (defBody sModulus) (defScope sModulus) .none kV10 dc10 pm10 an10 cd10 ct10), sl10⟩)
    (c10 : PySem.W.codeIn K cd10 "_law_modulus" = true)
    (k10 : PySem.W.keepIn K (.ref f10) = true)
    (a11 : PySem.W.nsIn K mainGlobals "_law_links" = some (some (.ref f11)))
    (l11 : K.lookup f11 = some ⟨oc11, od11, .func (PySem.W.fnOf "_law_links" "_law_links" (defArgs sLinks) (defBody sLinks) (defScope sLinks) .none kV11 dc11 pm11 an11 cd11 ct11), sl11⟩)
    (c11 : PySem.W.codeIn K cd11 "_law_links" = true)
    (k11 : PySem.W.keepIn K (.ref f11) = true)
    (a12 : PySem.W.nsIn K mainGlobals "_law_groups" = some (some (.ref f12)))
    (l12 : K.lookup f12 = some ⟨oc12, od12, .func (PySem.W.fnOf "_law_groups" "_law_groups" (defArgs sGroups) (defBody sGroups) (defScope sGroups) .none kV12 dc12 pm12 an12 cd12 ct12), sl12⟩)
    (c12 : PySem.W.codeIn K cd12 "_law_groups" = true)
    (k12 : PySem.W.keepIn K (.ref f12) = true)
    (a13 : PySem.W.nsIn K mainGlobals "law" = some (some (.ref f13)))
    (l13 : K.lookup f13 = some ⟨oc13, od13, .func (PySem.W.fnOf "law" "law" (defArgs sLaw) (defBody sLaw) (defScope sLaw) .none kV13 dc13 pm13 an13 cd13 ct13), sl13⟩)
    (c13 : PySem.W.codeIn K cd13 "law" = true)
    (k13 : PySem.W.keepIn K (.ref f13) = true)
    (a14 : PySem.W.findIn K (.ref C) "components" = some (some (.ref f14)))
    (i14 : PySem.W.isFn K (.ref f14) = true)
    (l14 : K.lookup f14 = some ⟨oc14, od14, .func (PySem.W.fnOf "components" "Web.components" (defArgs sComps) (defBody sComps) (defScope sComps) .none kV14 dc14 pm14 an14 cd14 ct14), sl14⟩)
    (c14 : PySem.W.codeIn K cd14 "Web.components" = true)
    (k14 : PySem.W.keepIn K (.ref f14) = true)
    (a15 : PySem.W.findIn K (.ref C) "forest" = some (some (.ref f15)))
    (i15 : PySem.W.isFn K (.ref f15) = true)
    (l15 : K.lookup f15 = some ⟨oc15, od15, .func (PySem.W.fnOf "forest" "Web.forest" (defArgs sForest) (defBody sForest) (defScope sForest) .none kV15 dc15 pm15 an15 cd15 ct15), sl15⟩)
    (c15 : PySem.W.codeIn K cd15 "Web.forest" = true)
    (k15 : PySem.W.keepIn K (.ref f15) = true)
    (a0 : PySem.W.findIn K (.ref C) "__init__" = some (some (.ref f0)))
    (i0 : PySem.W.isFn K (.ref f0) = true)
    (l0 : K.lookup f0 = some ⟨oc0, od0, .func (PySem.W.fnOf "__init__" "Web.__init__" (defArgs sInit) (defBody sInit) (defScope sInit) (.ref TD) (.ref KD) dc0 pm0 an0 cd0 ct0), sl0⟩)
    (c0 : PySem.W.codeIn K cd0 "Web.__init__" = true)
    (k0 : PySem.W.keepIn K (.ref f0) = true)
    (lT : K.lookup TD = some ⟨ocT, odT, .seq #[.ref ET] nT, slT⟩)
    (lK : PySem.W.nsIn K KD "modulus" = some (some (.int 0 tk0)))
    (pg : PySem.W.plainGet K C Str.empty = true)
    (hd : PySem.W.hasDictIn K C = true)
    (po : PySem.W.plainOver K C = true)
    (sa : PySem.W.findIn K (.ref C) "__setattr__" = some (some (.builtin "object.__setattr__")))
    (mk : PySem.W.makesIn K C = true)
    (kc : PySem.W.keepIn K (.ref C) = true)
    (n1 : PySem.W.findIn K (.ref C) "node_count" = some none)
    (n2 : PySem.W.findIn K (.ref C) "edge_pairs" = some none)
    (n3 : PySem.W.findIn K (.ref C) "gain_modulus" = some none)
    (n4 : PySem.W.findIn K (.ref C) "forest_numbers" = some none)
    (n5 : PySem.W.findIn K (.ref C) "first_nodes" = some none)
    (n6 : PySem.W.findIn K (.ref C) "forest_ties" = some none)
    (z_len : PySem.W.nsIn K mainGlobals "len" = some none)
    (z_range : PySem.W.nsIn K mainGlobals "range" = some none)
    (z_list : PySem.W.nsIn K mainGlobals "list" = some none)
    (z_min : PySem.W.nsIn K mainGlobals "min" = some none)
    (z_max : PySem.W.nsIn K mainGlobals "max" = some none)
    (z_enumerate : PySem.W.nsIn K mainGlobals "enumerate" = some none)
    (z_isinstance : PySem.W.nsIn K mainGlobals "isinstance" = some none)
    (z_int : PySem.W.nsIn K mainGlobals "int" = some none)
    (z_bool : PySem.W.nsIn K mainGlobals "bool" = some none)
    (z_tuple : PySem.W.nsIn K mainGlobals "tuple" = some none)
    (z_all : PySem.W.nsIn K mainGlobals "all" = some none)
    (q1 : PySem.W.nsIn K mainGlobals "MOST_NODES" = some (some (.int 30 t1)))
    (q2 : PySem.W.nsIn K mainGlobals "MOST_EDGES" = some (some (.int 60 t2)))
    (q3 : PySem.W.nsIn K mainGlobals "LEAST_MODULUS" = some (some (.int 2 t3)))
    (q4 : PySem.W.nsIn K mainGlobals "MOST_MODULUS" = some (some (.int 60 t4))) :
    ∃ fd : FuncData, (∀ (s : Shared) (v : Value), BindsTo s fd ⟨[v], []⟩ [("_law_script", v)]) ∧ ∀ base : Heap, K.In base → base.Ns mainGlobals mg → FnOk l.prog w K mg base CX0 7 fa fd ["_law_script"] (spLaw K) := by
  have e := hfa.symm.trans (PySem.W.mg_of X G a13)
  cases e
  have F1 := fun_mk (st := sIsInt) l1 c1 k1
  have b1 := F1.binds (ps := ["thing"]) fun _ _ _ _ _ _ us hl => match us, hl with | [_], _ => rfl
  have F2 := fun_mk (st := sBetween) l2 c2 k2
  have b2 := F2.binds (ps := ["thing", "low", "high"]) fun _ _ _ _ _ _ us hl => match us, hl with | [_, _, _], _ => rfl
  have F3 := fun_mk (st := sIsMod) l3 c3 k3
  have b3 := F3.binds (ps := ["thing"]) fun _ _ _ _ _ _ us hl => match us, hl with | [_], _ => rfl
  have F4 := fun_mk (st := sIsEdge) l4 c4 k4
  have b4 := F4.binds (ps := ["size", "thing"]) fun _ _ _ _ _ _ us hl => match us, hl with | [_, _], _ => rfl
  have F5 := fun_mk (st := sCheck) l5 c5 k5
  have b5 := F5.binds (ps := ["size", "edges"]) fun _ _ _ _ _ _ us hl => match us, hl with | [_, _], _ => rfl
  have F6 := fun_mk (st := sGrown) l6 c6 k6
  have b6 := F6.binds (ps := ["size", "pairs"]) fun _ _ _ _ _ _ us hl => match us, hl with | [_, _], _ => rfl
  have F7 := fun_mk (st := sTies) l7 c7 k7
  have b7 := F7.binds (ps := ["size", "pairs", "numbers"]) fun _ _ _ _ _ _ us hl => match us, hl with | [_, _, _], _ => rfl
  have F8 := fun_mk (st := sPool) l8 c8 k8
  have b8 := F8.binds (ps := ["_law_script", "_law_k"]) fun _ _ _ _ _ _ us hl => match us, hl with | [_, _], _ => rfl
  have F9 := fun_mk (st := sTake) l9 c9 k9
  have b9 := F9.binds (ps := ["_law_pool_here", "_law_sides"]) fun _ _ _ _ _ _ us hl => match us, hl with | [_, _], _ => rfl
  have F10 := fun_mk (st := sModulus) l10 c10 k10
  have b10 := F10.binds (ps := ["_law_pool_here"]) fun _ _ _ _ _ _ us hl => match us, hl with | [_], _ => rfl
  have F11 := fun_mk (st := sLinks) l11 c11 k11
  have b11 := F11.binds (ps := ["_law_pool_here", "_law_nodes", "_law_most"]) fun _ _ _ _ _ _ us hl => match us, hl with | [_, _, _], _ => rfl
  have F12 := fun_mk (st := sGroups) l12 c12 k12
  have b12 := F12.binds (ps := ["_law_nodes", "_law_links_here"]) fun _ _ _ _ _ _ us hl => match us, hl with | [_, _], _ => rfl
  have F13 := fun_mk (st := sLaw) l13 c13 k13
  have b13 := F13.binds (ps := ["_law_script"]) fun _ _ _ _ _ _ us hl => match us, hl with | [_], _ => rfl
  have F14 := fun_mk (st := sComps) l14 c14 k14
  have b14 := F14.binds (ps := ["self"]) fun _ _ _ _ _ _ us hl => match us, hl with | [_], _ => rfl
  have F15 := fun_mk (st := sForest) l15 c15 k15
  have b15 := F15.binds (ps := ["self"]) fun _ _ _ _ _ _ us hl => match us, hl with | [_], _ => rfl
  have B : Bn mg := ⟨PySem.W.mg_none_of X G z_len, PySem.W.mg_none_of X G z_range, PySem.W.mg_none_of X G z_list, PySem.W.mg_none_of X G z_min, PySem.W.mg_none_of X G z_max, PySem.W.mg_none_of X G z_enumerate, PySem.W.mg_none_of X G z_isinstance, PySem.W.mg_none_of X G z_int, PySem.W.mg_none_of X G z_bool, PySem.W.mg_none_of X G z_tuple, PySem.W.mg_none_of X G z_all⟩
  have Cc : Cs mg := ⟨⟨_, PySem.W.mg_of X G q1⟩, ⟨_, PySem.W.mg_of X G q2⟩, ⟨_, PySem.W.mg_of X G q3⟩, ⟨_, PySem.W.mg_of X G q4⟩⟩
  have T : Txt K mg C := ⟨⟨pg, hd, po, sa⟩, n1, n2, n3, n4, n5, n6, PySem.W.mg_of X G aC⟩
  refine ⟨PySem.W.fnOf "law" "law" (defArgs sLaw) (defBody sLaw) (defScope sLaw) .none kV13 dc13 pm13 an13 cd13 ct13, fun s v => .of_eq rfl, fun base _ _ => ?_⟩
  have F0 : FunD K "__init__" "Web.__init__" (defArgs sInit) (defBody sInit) (defScope sInit) [.ref ET] [("modulus", .int 0)] f0 _ :=
    ⟨⟨_, _, _, _, _, _, _, _, _, _, rfl, l0, c0, .inr ⟨by simp, TD, _, [.ref ET], nT, rfl, lT, rfl, .cons rfl .nil⟩, .inr ⟨KD, rfl, fun q hq => by
      have e : q = (("modulus" : Str), V.int 0) := by simpa using hq
      subst e
      exact ⟨_, lK, ⟨_, rfl⟩⟩⟩⟩, k0⟩
  obtain ⟨_, _, hb⟩ := F0.kbinds (ps := ["self", "size", "edges", "modulus"]) 3 ["modulus"] [] (fun us _ _ ws => us ++ ws) (by simp) (by simp) (fun q hq => by simp at hq) (fun r _ _ r2 => r.append r2)
    (fun T D doc pm an cdv ct us its mv ws h1 h2 h3 h4 => match us, h1, its, h2, ws, h4 with | [_, _, _], _, [_], _, [_], _ => ⟨_, rfl, rfl⟩)
  have D1 : Df l.prog w K mg base 1 "is_integer" ["thing"] (spInt K) := ⟨_, _, ok_isint F1 B, PySem.W.mg_of X G a1, k1, b1⟩
  have D2 : Df l.prog w K mg base 2 "is_between" ["thing", "low", "high"] (spBetween K) := by
    obtain ⟨g, gd, G1, m1, k1', b1'⟩ := D1.ex
    exact ⟨_, _, ok_between F2 G1 m1 k1' b1', PySem.W.mg_of X G a2, k2, b2⟩
  have D3 : Df l.prog w K mg base 2 "is_modulus" ["thing"] (spIsMod K) := ⟨_, _, ok_ismod F3 Cc D1, PySem.W.mg_of X G a3, k3, b3⟩
  have D4 : Df l.prog w K mg base 3 "is_edge" ["size", "thing"] (spIsEdge K) := ⟨_, _, ok_isedge F4 B D2, PySem.W.mg_of X G a4, k4, b4⟩
  have D5 : Df l.prog w K mg base 4 "check_edges" ["size", "edges"] (spCheck K) := ⟨_, _, ok_check F5 B Cc D4, PySem.W.mg_of X G a5, k5, b5⟩
  have D6 : Df l.prog w K mg base 1 "grown_forest" ["size", "pairs"] spGrown := ⟨_, _, ok_grown F6 B, PySem.W.mg_of X G a6, k6, b6⟩
  have D7 : Df l.prog w K mg base 1 "ties_of" ["size", "pairs", "numbers"] spTies := ⟨_, _, ok_ties F7 B, PySem.W.mg_of X G a7, k7, b7⟩
  have GI := ok_init (P := l.prog) (w := w) (base := base) F0 T Cc D2 D5 D3 D6 D7
  have E1 : Df l.prog w K mg base 1 "_law_pool" ["_law_script", "_law_k"] (spPool K) := ⟨_, _, ok_pool F8 B, PySem.W.mg_of X G a8, k8, b8⟩
  have E2 : Df l.prog w K mg base 1 "_law_take" ["_law_pool_here", "_law_sides"] spTake := ⟨_, _, ok_take F9, PySem.W.mg_of X G a9, k9, b9⟩
  have E3 : Df l.prog w K mg base 2 "_law_modulus" ["_law_pool_here"] spModulus := by
    obtain ⟨g, gd, G1, m1, k1', b1'⟩ := E2.ex
    exact ⟨_, _, ok_modulus F10 G1 m1 k1' b1', PySem.W.mg_of X G a10, k10, b10⟩
  have E4 : Df l.prog w K mg base 2 "_law_links" ["_law_pool_here", "_law_nodes", "_law_most"] spLinks := by
    obtain ⟨g, gd, G1, m1, k1', b1'⟩ := E2.ex
    exact ⟨_, _, ok_links F11 B G1 m1 k1' b1', PySem.W.mg_of X G a11, k11, b11⟩
  have E5 : Df l.prog w K mg base 1 "_law_groups" ["_law_nodes", "_law_links_here"] spGroups := ⟨_, _, ok_groups F12 B, PySem.W.mg_of X G a12, k12, b12⟩
  exact ok_law F13 B T ⟨mk, a0, i0, kc⟩ GI hb E1 E2 E3 E4 E5 ⟨_, _, ok_comps F14 B T, ⟨a14, i14, k14⟩, b14⟩ ⟨_, _, ok_forest F15 B T, ⟨a15, i15, k15⟩, b15⟩
theorem walk {l : PySem.W.OpenLaw} {q : Program} {loose : List Str} {XP : (Str → Option Value) → Heap → Prop} {YP : World → Heap → Prop} {d : DefRec} {K : Params → PySem.W.Frag} (hn : l.most = some 63) (hdf : d.params.defaults = [])
    (hY : ∀ (w : World) (h : Heap), YP w h → (K w.params).In h)
    (F : ∀ (w : World) (mg : Str → Option Value) (fa : Addr) (h : Heap), (K w.params).In h → h.Ns mainGlobals mg → mg d.name = some (.ref fa) →
      ∃ fd : FuncData, (∀ (s : Shared) (u : Value), BindsTo s fd ⟨[u], []⟩ [("_law_script", u)]) ∧ ∀ base : Heap, (K w.params).In base → base.Ns mainGlobals mg → FnOk l.prog w (K w.params) mg base CX0 7 fa fd ["_law_script"] (spLaw (K w.params))) :
    PySem.W.WalkO q loose XP YP l.row.toRowW d [] (fun f vs => PySem.call f vs) :=
  L2.walk_of (n := 63) (k := 7) (x := "_law_script") (CX := fun _ => CX0) (sp := fun w => spLaw (K w.params)) hn (by decide) hdf ⟨rfl, by decide, by decide⟩ hY F (fun _ _ a ns hl _ hS => ⟨a, ns, rfl, hS, hl, fun _ => rfl⟩) fun _ _ _ _ _ z => z
end Wb
open PySem PySem.W PyProof.Rows
set_option maxRecDepth 100000 in
set_option maxHeartbeats 0 in
theorem PySem.Challenge.cw_turnedties_k03_components_and_forest_holds : PySem.Challenge.rw_turnedties_k03_components_and_forest.Holds := by
  w_on; o_law; k_head; (case hw => w_witness2)
  k_fill
  refine Wb.walk (l := PySem.Challenge.rw_turnedties_k03_components_and_forest) rfl rfl (fun w h Y => PySem.W.kIn_of Y) ?F
  case F =>
    intro w mg fa h KX G hmg
    refine' Wb.all_mk KX G hmg ?aC ?a1 ?l1 ?c1 ?k1 ?a2 ?l2 ?c2 ?k2 ?a3 ?l3 ?c3 ?k3 ?a4 ?l4 ?c4 ?k4 ?a5 ?l5 ?c5 ?k5 ?a6 ?l6 ?c6 ?k6 ?a7 ?l7 ?c7 ?k7 ?a8 ?l8 ?c8 ?k8 ?a9 ?l9 ?c9 ?k9 ?a10 ?l10 ?c10 ?k10 ?a11 ?l11 ?c11 ?k11 ?a12 ?l12 ?c12 ?k12 ?a13 ?l13 ?c13 ?k13 ?a14 ?i14 ?l14 ?c14 ?k14 ?a15 ?i15 ?l15 ?c15 ?k15 ?a0 ?i0 ?l0 ?c0 ?k0 ?lT ?lK ?pg ?hd ?po ?sa ?mk ?kc ?n1 ?n2 ?n3 ?n4 ?n5 ?n6 ?z_len ?z_range ?z_list ?z_min ?z_max ?z_enumerate ?z_isinstance ?z_int ?z_bool ?z_tuple ?z_all ?q1 ?q2 ?q3 ?q4
    (case aC => k_is)
    (case a1 => k_is)
    (case l1 => k_is)
    (case c1 => k_is)
    (case k1 => k_is)
    (case a2 => k_is)
    (case l2 => k_is)
    (case c2 => k_is)
    (case k2 => k_is)
    (case a3 => k_is)
    (case l3 => k_is)
    (case c3 => k_is)
    (case k3 => k_is)
    (case a4 => k_is)
    (case l4 => k_is)
    (case c4 => k_is)
    (case k4 => k_is)
    (case a5 => k_is)
    (case l5 => k_is)
    (case c5 => k_is)
    (case k5 => k_is)
    (case a6 => k_is)
    (case l6 => k_is)
    (case c6 => k_is)
    (case k6 => k_is)
    (case a7 => k_is)
    (case l7 => k_is)
    (case c7 => k_is)
    (case k7 => k_is)
    (case a8 => k_is)
    (case l8 => k_is)
    (case c8 => k_is)
    (case k8 => k_is)
    (case a9 => k_is)
    (case l9 => k_is)
    (case c9 => k_is)
    (case k9 => k_is)
    (case a10 => k_is)
    (case l10 => k_is)
    (case c10 => k_is)
    (case k10 => k_is)
    (case a11 => k_is)
    (case l11 => k_is)
    (case c11 => k_is)
    (case k11 => k_is)
    (case a12 => k_is)
    (case l12 => k_is)
    (case c12 => k_is)
    (case k12 => k_is)
    (case a13 => k_is)
    (case l13 => k_is)
    (case c13 => k_is)
    (case k13 => k_is)
    (case a14 => k_is)
    (case i14 => k_is)
    (case l14 => k_is)
    (case c14 => k_is)
    (case k14 => k_is)
    (case a15 => k_is)
    (case i15 => k_is)
    (case l15 => k_is)
    (case c15 => k_is)
    (case k15 => k_is)
    (case a0 => k_is)
    (case i0 => k_is)
    (case l0 => k_is)
    (case c0 => k_is)
    (case k0 => k_is)
    (case lT => k_is)
    (case lK => k_is)
    (case pg => k_is)
    (case hd => k_is)
    (case po => k_is)
    (case sa => k_is)
    (case mk => k_is)
    (case kc => k_is)
    (case n1 => k_is)
    (case n2 => k_is)
    (case n3 => k_is)
    (case n4 => k_is)
    (case n5 => k_is)
    (case n6 => k_is)
    (case z_len => k_is)
    (case z_range => k_is)
    (case z_list => k_is)
    (case z_min => k_is)
    (case z_max => k_is)
    (case z_enumerate => k_is)
    (case z_isinstance => k_is)
    (case z_int => k_is)
    (case z_bool => k_is)
    (case z_tuple => k_is)
    (case z_all => k_is)
    (case q1 => k_is)
    (case q2 => k_is)
    (case q3 => k_is)
    (case q4 => k_is)
