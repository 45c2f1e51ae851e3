import PyProof.Rows.All
import Wide.All
import OpenK.AllK
import Wide.FinOn
import HandS.ForMost
import HandS.IsInst
import HandS.Wide
import HandS.Defaults
import HandS.MakeKwOnly
import HandS.Conv
import HandS.Zip
import HandS.ForExc
import HandS.ExcInit
import HandS.ExcField
import HandS.TryOnly
import HandS.WordsExc
import HandS.CallSlots
import HandS.RaiseMore
import HandS.Style
import HandS.Flow
import PySem.Challenge.RW_turnedties_k05_walks_looked_at
set_option Elab.async false
set_option linter.all false
set_option maxRecDepth 100000
set_option maxHeartbeats 8000000
/-! ## Defs that are called where no repr is under way: then repr of lists and tuples has one text -/
namespace Gd
open PySem PySem.Spec PyProof.Rows L2
/-- no list or tuple is being written out around -/
abbrev Quiet (A : Around) : Prop := A.guards = some []
theorem quiet_deeper {A : Around} (h : Quiet A) (env : Env) : Quiet (A.deeper env) := h
theorem quiet_make {A : Around} (h : Quiet A) (C : Addr) (us : List Value) (kw : List (Str × Value)) : Quiet (A.under (.builtin "type.__call__" ⟨.ref C :: us, kw⟩)) := by
  have e : (A.under (.builtin "type.__call__" ⟨.ref C :: us, kw⟩)).guards = A.guards := by
    first | rfl | simp [Around.under, Code.guards, Code.isGuard, pushGuards] | (unfold Around.under; simp [pushGuards, Code.guards]; cases A.guards <;> rfl)
  exact e.trans h
/-- a def's promise where all is quiet -/
structure GOk (P : Program) (w : World) (K : PySem.W.Frag) (mg : Str → Option Value) (base : Heap) (CX : CXT) (k : Nat) (f : Addr) (fd : FuncData) (ps : List Str) (sp : Sp) : Prop where
  len : ∀ vs H Q E, sp vs H Q E → vs.length = ps.length
  go : ∀ (A : Around), Quiet A → ∀ (outer : List Env) (s : Shared) (H : Hp) (args : Args) (us : List Value) (vs : List V) (Q : VK) (E : XK), Room k A → Env0 P w K mg base A outer s H → BindsTo s fd args (ps.zip us) → Vals vs us → sp vs H Q E →
    codeAny (model P w) A (.call (.ref f) args) (CR CX outer P w H s Q E) s
section
variable {P : Program} {w : World} {K : PySem.W.Frag} {mg : Str → Option Value} {base : Heap} {CX : CXT} {k : Nat} {f : Addr} {fd : FuncData} {ps : List Str} {sp : Sp}
theorem GOk.of (F : FnOk P w K mg base CX k f fd ps sp) : GOk P w K mg base CX k f fd ps sp := ⟨F.len, fun A _ => F.run A⟩
theorem GOk.mono {j : Nat} (F : GOk P w K mg base CX j f fd ps sp) (h : j ≤ k) : GOk P w K mg base CX k f fd ps sp :=
  ⟨F.len, fun A q outer s H args us vs Q E r => F.go A q outer s H args us vs Q E (r.mono h)⟩
/-- a def by its body: the body is walked where all is quiet -/
theorem gok_of {x qual : Str} {params : Arguments} {body : List Stmt} {scope : Scope} {dV kV doc pm cdv ct oc : Value} {an od : Option Addr} {osl : Array (Option Value)} {N : List Str}
    (at_ : K.lookup f = some ⟨oc, od, .func (PySem.W.fnOf x qual params body scope dV kV doc pm an cdv ct), osl⟩) (code : PySem.W.codeIn K cdv qual = true) (S : FnScope N ps scope) (len : ∀ vs H Q E, sp vs H Q E → vs.length = ps.length)
    (walk : ∀ (A : Around), Quiet A → ∀ (outer : List Env) (s : Shared) (H : Hp) (vs : List V) (Q : VK) (E : XK), Room k (A.deeper (envOfC qual scope s.heap.objs.size f cdv)) → sp vs H Q E →
      ∃ t, PSs (cxOf CX P w K mg base N qual scope f cdv A outer s H E) body t ∧ t { nx := fun _ H' => Q .non H', rt := Q } (start N vs) H) :
    GOk P w K mg base CX (k + 1) f (PySem.W.fnOf x qual params body scope dV kV doc pm an cdv ct) ps sp where
  len := len
  go := by
    intro A quiet outer s H args us vs Q E room env binds vals hsp
    have n := len _ _ _ _ hsp
    have old : ∀ b o, base.get? b = some o → s.heap.get? b = some o := fun b o e => (env.bs b o e).1
    have inK : K.In s.heap := env.mod.kin.keeps old
    -- each parameter is a local or a cell
    have places : ∀ q ∈ ps.zip us, scope.names.lookup q.1 = some .local ∨ (scope.names.lookup q.1 = some .cell ∧ ((cellsFrom (s.heap.objs.size + 1) scope.names []).lookup q.1).isSome = true) := by
      intro q hq
      obtain ⟨y, v⟩ := q
      have hm := (List.of_mem_zip hq).1
      cases S.par y hm with
      | inl c => exact Or.inl c
      | inr c => exact Or.inr ⟨c, PySem.W.cellsFrom_some _ _ _ (Or.inl c)⟩
    apply codeAny_call_function room.depth (inK _ _ at_) rfl S.co S.gen rfl (PySem.W.codeRec_of inK code)
    apply binds
    refine wpAny_newFunctionEnv_cells S.kind places fun here he s1 inside => ?_
    cases he
    refine ⟨(env.mod.nolimit.keeps old).keeps inside.toInCall.keep, codeAny_func ?_⟩
    obtain ⟨t, derived, wish⟩ := walk A quiet outer s H vs Q E (room.deeper _) hsp
    have I := inv_start (CX := CX) (P := P) (E := E) (mg := mg) (w := w) S room.hd env n vals inside
    refine wpAny_mono (derived.run [] s1 (start N vs) H _ I wish) (fun flow s2 got => ?_) (fun e s2 got => got)
    match flow, got with
    | .ret u, ⟨v, σ', H', J, rv, q⟩ => exact ⟨v, H', J.os, J.bare, J.base, J.hok, rv, q⟩
    | .next, ⟨σ', H', J, q⟩ => exact ⟨V.non, H', J.os, J.bare, J.base, J.hok, rfl, q⟩
    | .brk, ⟨_, _, _, q⟩ => exact q.elim
    | .cont, ⟨_, _, _, q⟩ => exact q.elim
end
/-- the same of a def of the text -/
theorem gok {P : Program} {w : World} {K : PySem.W.Frag} {mg : Str → Option Value} {base : Heap} {CX : CXT} {x qual : Str} {st : Stmt} {f : Addr} {fd : FuncData} {N ps : List Str} {k : Nat} {sp : Sp} (F : Fun K x qual st f fd) (S : FnScope N ps (defScope st)) (len : ∀ vs H Q E, sp vs H Q E → vs.length = ps.length)
    (walk : ∀ (cdv : Value) (A : Around), Quiet A → ∀ (outer : List Env) (s : Shared) (H : Hp) (vs : List V) (Q : VK) (E : XK), Room k (A.deeper (envOfC qual (defScope st) s.heap.objs.size f cdv)) → sp vs H Q E →
      ∃ t, PSs (cxOf CX P w K mg base N qual (defScope st) f cdv A outer s H E) (defBody st) t ∧ t { nx := fun _ H' => Q .non H', rt := Q } (start N vs) H) : GOk P w K mg base CX (k + 1) f fd ps sp := by
  obtain ⟨oc, od, kV, doc, pm, an, cdv, ct, osl, e, lk, hcd⟩ := F.ex
  cases e
  exact gok_of lk hcd S len (walk cdv)
end Gd

namespace Gd
open PySem PySem.Spec PyProof.Rows L2
section
variable {X : Cx} {CX : CXT} {k : Nat} {f : Addr} {fd : FuncData} {ps : List Str} {sp : Sp} {dvs : List V} {ds : List Value} {E : XK} {x : Str} {p pos : Pos} {e : Expr} {es : List Expr} {t : TA}
/-- such a def is run from a body where all is quiet -/
theorem go_fn {pins : List (Addr × Obj)} {σ : L2.St} {H : Hp} {s : Shared} {Q : VK} {us : List Value} {vs : List V} (quiet : Quiet X.A) (F : GOk X.prog X.w X.K X.mg X.base CX k f fd ps sp) (room : Room k X.A) (binds : Binds X.K fd ps ds) (dv : Vals dvs ds) (px : Passes CX X E)
    (I : Inv X pins σ H s) (r : Vals vs us) (h : sp (vs ++ dvs) H Q E) : wpAny (model X.prog X.w) X.A (call (.ref f) us) (EP X pins σ Q) X.xe s := by
  have all := Vals.append r dv
  have n := F.len _ _ _ _ h
  rw [all.length] at n
  have ran := F.go X.A quiet X.stack s H ⟨us, []⟩ (us ++ ds) (vs ++ dvs) Q E room I.env0 (binds s us I.kIn n) all h
  refine wpAny_call (codeAny_mono ran fun out s2 got => ?_)
  match out, got with
  | .error e, got => exact px pins σ H s e s2 I got
  | .ok (.ret u), got => exact I.after got
  | .ok .next, got => exact got.elim
  | .ok .brk, got => exact got.elim
  | .ok .cont, got => exact got.elim
/-- f(e, ..) of such a def -/
theorem pe_go (F : GOk X.prog X.w X.K X.mg X.base CX k f fd ps sp) (quiet : Quiet X.A) (room : Room k X.A) (gl : Gl X x) (mgf : X.mg x = some (.ref f)) (kp : PySem.W.keepIn X.K (.ref f) = true) (binds : Binds X.K fd ps ds) (dv : Vals dvs ds) (px : Passes CX X E)
    (args : PA X (e :: es) t) (nd : (x == ("__debug__" : Str)) = false := by decide) (st : starEach (e :: es) X.env = (false, eval e X.env) :: starEach es X.env := by rfl) (pl : (backTo pos (starEach es X.env)).any (·.1) = false := by rfl) :
    PE X (.Call (.Name x p) (e :: es) [] pos) (tCall sp dvs E t) where
  run := fun pins s σ H Q I h => wpAny_Call_Name_kw (ld_glob I gl mgf (PySem.W.callWith_K (h₀ := X.base) I.ok.mod.kin kp (thn (args.run pos pins s σ H _ I h) fun us s1 got => by
    obtain ⟨vs, H1, I1, r, q⟩ := got
    exact ⟨I1.kIn, go_fn quiet F room binds dv px I1 r q⟩) st pl) nd)
end
/-- a law's end: its def is called where all is quiet -/
theorem law_quiet {P : Program} {w : World} {K : PySem.W.Frag} {mg mb : Str → Option Value} {CX : CXT} {k : Nat} {fa a : Addr} {fd : FuncData} {x : Str} {sp : Sp} {s : Shared} {vs : List Value} {ns : List Int}
    (inK : K.In s.heap) (names : s.heap.Ns mainGlobals mg) (bns : s.heap.Ns builtinsNs mb) (boot : ∀ x : Str, x ≠ "__name__" → mb x = bootBuiltins x) (lim : s.heap.NoLimit) (gens : s.gens = #[])
    (script : s.heap.get? a = some { cls := .type "list", data := .seq vs.toArray }) (isInts : IntsAre vs ns) (few : ns.length ≤ sizeLine) (room : Room k callerA)
    (F : ∀ base : Heap, K.In base → base.Ns mainGlobals mg → GOk P w K mg base CX k fa fd [x] sp) (binds : ∀ (s : Shared) (u : Value), BindsTo s fd ⟨[u], []⟩ [(x, u)])
    (wish : ∀ H : Hp, Only H → SqL K H a (ns.map V.int) → sp [.ref a] H (fun v _ => v = .bl true) fun _ _ _ => False) (noX : ∀ H e s', CX [] H s (fun _ _ _ => False) e s' → False) :
    codeAny (model P w) callerA (.call (.ref fa) ⟨[.ref a], []⟩) (fun r s' => r = .ok (.ret (.bool true)) ∧ OldK s.heap s'.heap ∧ s'.os = s.os ∧ AllBare s'.gens) s := by
  have items := vals_ints isInts
  have short : (ns.map V.int).length ≤ sizeLine := by rw [List.length_map]; exact few
  -- what is tracked: the script, if it is no object of the module
  obtain ⟨H, only, reads, ok, just, free⟩ : ∃ H : Hp, Only H ∧ SqL K H a (ns.map V.int) ∧ HOk P w H s.heap ∧ (∀ b, H b ≠ none → b = a ∧ ∃ u, H b = some (.frz { cls := .type "list", data := .seq vs.toArray } u)) ∧ (H a ≠ none → K.lookup a = none) := by
    cases own : K.lookup a with
    | some o =>
      have same := (inK a o own).symm.trans script
      have same' : o = { cls := .type "list", data := .seq vs.toArray } := Option.some.inj same
      rw [same'] at own
      refine ⟨fun _ => none, fun _ => Or.inl rfl, Or.inr ⟨_, vs.toArray, _, own, rfl, rfl, rfl, ?_, by simpa using items⟩, (fun b u z => nomatch z), fun b z => (z rfl).elim, fun z => (z rfl).elim⟩
      rw [List.size_toArray, isInts.length]
      exact few
    | none =>
      let H : Hp := fun b => if b = a then some (.frz { cls := .type "list", data := .seq vs.toArray } (.lst (ns.map V.int))) else none
      have here : H a = some (.frz { cls := .type "list", data := .seq vs.toArray } (.lst (ns.map V.int))) := if_pos rfl
      have else_ : ∀ b, b ≠ a → H b = none := fun b n => if_neg n
      refine ⟨H, fun b => ?_, Or.inl (Or.inr ⟨_, here⟩), fun b u e => ?_, fun b n => ?_, fun _ => rfl⟩
      · by_cases same : b = a
        · rw [same]; exact Or.inr ⟨_, _, here⟩
        · exact Or.inl (else_ b same)
      · by_cases same : b = a
        · subst same
          rw [here] at e
          cases e
          exact ⟨script, short, vs, _, items, script⟩
        · rw [else_ b same] at e
          cases e
      · by_cases same : b = a
        · rw [same]; exact ⟨rfl, _, here⟩
        · exact (n (else_ b same)).elim
  -- the heap without it
  have notScript : ∀ {b : Addr} {o : Obj}, s.heap.get? b = some o → (∀ it n, o.data ≠ .seq it n) → H b = none := fun {b o} e d => by
    cases q : H b with
    | none => rfl
    | some u =>
      have same := (just b (by rw [q]; exact nofun)).1
      rw [same, script] at e
      cases e
      exact (d _ _ rfl).elim
  have nsBase : ∀ {b : Addr} {m : Str → Option Value}, s.heap.Ns b m → (hidT s.heap H).Ns b m := by
    rintro b m ⟨o, es, ep, e, d, r⟩
    exact ⟨o, es, ep, hidT_get e (notScript e fun it n z => by rw [d] at z; cases z), d, r⟩
  have kBase : K.In (hidT s.heap H) := fun b o e => hidT_get (inK b o e) (by
    cases q : H b with
    | none => rfl
    | some u =>
      have same := (just b (by rw [q]; exact nofun)).1
      rw [same] at e q
      have := free (by rw [q]; exact nofun)
      rw [e] at this
      cases this)
  obtain ⟨mc, lim1, lim2⟩ := lim
  have mod : Mod K mg (hidT s.heap H) := ⟨kBase, nsBase names, ⟨mb, nsBase bns, boot⟩, mc, nsBase lim1, lim2⟩
  have env : Env0 P w K mg (hidT s.heap H) callerA [] s H :=
    { frames := rfl, mod := mod, bs := fun b o e => of_hidT e, bsz := Nat.le_of_eq (hidT_size s.heap H), funs := True.intro, frf := fun b z => (List.not_mem_nil z).elim, hok := ok, bare := AllBare.of_eq gens }
  refine codeAny_mono ((F _ kBase (nsBase names)).go callerA rfl [] s H ⟨[.ref a], []⟩ [.ref a] [.ref a] _ _ room env (binds s (.ref a)) (Paired.cons rfl Paired.nil) (wish H only reads)) fun out s2 got => ?_
  match out, got with
  | .error e, got => exact (noX H e s2 got).elim
  | .ok .next, got => exact got.elim
  | .ok .brk, got => exact got.elim
  | .ok .cont, got => exact got.elim
  | .ok (.ret u), ⟨v, H2, os, bare, un, ok2, rv, yes⟩ =>
    have e1 : v = V.bl true := yes
    subst e1
    have e2 : u = Value.bool true := rv
    subst e2
    refine ⟨rfl, OldK.of_keep fun b o e => ?_, os, bare⟩
    cases q : H b with
    | none => exact un.keep b o e q List.not_mem_nil List.not_mem_nil
    | some u =>
      obtain ⟨_, u', e3⟩ := just b (by rw [q]; exact nofun)
      obtain ⟨g1, _⟩ := ok b _ e3
      obtain ⟨g2, _⟩ := ok2 b _ (un.frzs b _ _ e3)
      rw [e] at g1
      rw [g2, Option.some.inj g1]
/-- the walk's goal, from the law's promise -/
theorem walk_quiet {l : PySem.W.OpenLaw} {n k : Nat} {q : Program} {loose : List Str} {XP : (Str → Option Value) → Heap → Prop} {YP : World → Heap → Prop} {d : DefRec} {K : Params → PySem.W.Frag} {CX : World → CXT} {sp : World → Sp} {x : Str}
    (most : l.most = some n) (nz : n ≤ sizeLine) (nodef : d.params.defaults = []) (room : Room k callerA) (inK : ∀ (w : World) (h : Heap), YP w h → (K w.params).In h)
    (F : ∀ (w : World) (mg : Str → Option Value) (fa : Addr) (h : Heap), (K w.params).In h → h.Ns mainGlobals mg → mg d.name = some (.ref fa) →
      ∃ fd : FuncData, (∀ (s : Shared) (u : Value), BindsTo s fd ⟨[u], []⟩ [(x, u)]) ∧ ∀ base : Heap, (K w.params).In base → base.Ns mainGlobals mg → GOk l.prog w (K w.params) mg base (CX w) k fa fd [x] (sp w))
    (wish : ∀ (w : World) (H : Hp) (a : Addr) (ns : List Int), ns.length ≤ n → Only H → SqL (K w.params) H a (ns.map V.int) → sp w [.ref a] H (fun v _ => v = .bl true) fun _ _ _ => False)
    (noX : ∀ (w : World) (H : Hp) (s : Shared) (e : Value) (s' : Shared), CX w [] H s (fun _ _ _ => False) e s' → False) : PySem.W.WalkO q loose XP YP l.row.toRowW d [] (fun f vs => PySem.call f vs) := by
  apply Att.attach_call most nodef
  intro w s₀ s₁ mg mb fa o pm cd doc a vs ns G Y ho hd hcd hmg hobj hints hlen hg
  obtain ⟨fd, binds, made⟩ := F w mg fa _ (inK w _ Y) G.T.g hmg
  exact law_quiet (inK w _ Y) G.T.g G.T.b G.T.builtins G.T.nolimit hg hobj hints (Nat.le_trans hlen nz) room made binds (fun H only reads => wish w H a ns hlen only reads) (fun H e s' => noX w H s₁ e s')
end Gd

namespace Gd
open PySem PySem.Spec PyProof.Rows L2
/-- data that can be written out: its text fits -/
def Shown (K : PySem.W.Frag) (H : Hp) (x : V) (d : PyData) : Prop := Dp K H x d ∧ d.showable = true ∧ d.hasDict = false ∧ d.depth ≤ 64 ∧ d.shown.length ≤ sizeLine
section
variable {X : Cx}
/-- repr(data) where all is quiet -/
theorem call_reprD (quiet : Quiet X.A) (hu : X.A.units + 70 < cLine) : CallR X (.builtin "repr") (fun xs H Q => ∃ x d, xs = [x] ∧ Shown X.K H x d ∧ Q (.str d.shown) H) := by
  intro pins s σ H xs us Q I r h
  obtain ⟨x, d, rfl, ⟨dp, sh, nd, dep, fit⟩, q⟩ := h
  cases r with
  | cons r1 r2 =>
    rename_i u us'
    cases r2
    obtain ⟨as, rd⟩ := dp.reads I d x u r1
    cases dp with
    | non => cases r1; exact P.repr_of_none ⟨.str _, H, I.tok _, ⟨_, rfl⟩, q⟩
    | bl b => cases r1; exact P.repr_of_bool ⟨.str _, H, I.tok _, ⟨_, rfl⟩, q⟩
    | int i => obtain ⟨t, rfl⟩ := r1; exact P.repr_of_int (of_decide_eq_true sh) ⟨.str _, H, I.tok _, ⟨_, rfl⟩, q⟩
    | str z => obtain ⟨t, rfl⟩ := r1; exact P.repr_of_str ⟨.str _, H, I.tok _, ⟨_, rfl⟩, q⟩ fit
    | lst h1 h2 => cases r1; exact repr_of_reads' rd sh (PyData.noDict_hsm nd) quiet (by omega) (fun _ _ e => e) (fun h' v tk k => ⟨.str _, H, I.kept (t' := tk) k, ⟨_, rfl⟩, q⟩) fit
    | tup h1 h2 => cases r1; exact repr_of_reads' rd sh (PyData.noDict_hsm nd) quiet (by omega) (fun _ _ e => e) (fun h' v tk k => ⟨.str _, H, I.kept (t' := tk) k, ⟨_, rfl⟩, q⟩) fit
end
end Gd

/-! ### the mathematics: labels by the earliest node, two ways -/
namespace Wm
abbrev Es := List (Nat × Nat)
def gs (f : Nat → Nat) (e : Nat × Nat) : Nat → Nat := fun v => if f v = max (f e.1) (f e.2) then min (f e.1) (f e.2) else f v
def F (ps : Es) : Nat → Nat := ps.foldl gs id
def ls (f : Nat → Nat) (e : Nat × Nat) : Nat → Nat := fun v => if v = e.2 then min (f e.1) (f e.2) else if v = e.1 then min (f e.1) (f e.2) else f v
def sweep (ps : Es) (f : Nat → Nat) : Nat → Nat := ps.foldl ls f
def R (ps : Es) : Nat → Nat → Nat
  | 0 => id
  | t + 1 => sweep ps (R ps t)
structure Root (ps : Es) (f : Nat → Nat) : Prop where
  le : ∀ v, f v ≤ v
  idem : ∀ v, f (f v) = f v
  edge : ∀ e ∈ ps, f e.1 = f e.2
  conn : ∀ g : Nat → Nat, (∀ e ∈ ps, g e.1 = g e.2) → ∀ v, g (f v) = g v
theorem min_or (a b : Nat) : min a b = a ∧ max a b = b ∨ min a b = b ∧ max a b = a := by
  by_cases h : a ≤ b
  · exact .inl ⟨Nat.min_eq_left h, Nat.max_eq_right h⟩
  · exact .inr ⟨Nat.min_eq_right (by omega), Nat.max_eq_left (by omega)⟩
theorem gs_le (f : Nat → Nat) (e : Nat × Nat) (v : Nat) : gs f e v ≤ f v := by
  unfold gs
  split
  · rename_i h
    rw [h]
    exact Nat.le_trans (Nat.min_le_left _ _) (Nat.le_max_left _ _)
  · exact Nat.le_refl _
theorem gs_hit {f : Nat → Nat} {e : Nat × Nat} {v : Nat} (h : f v = max (f e.1) (f e.2)) : gs f e v = min (f e.1) (f e.2) := if_pos h
theorem gs_miss {f : Nat → Nat} {e : Nat × Nat} {v : Nat} (h : ¬ f v = max (f e.1) (f e.2)) : gs f e v = f v := if_neg h
theorem Root.step {ps : Es} {f : Nat → Nat} (r : Root ps f) (e : Nat × Nat) : Root (ps ++ [e]) (gs f e) := by
  have mm := min_or (f e.1) (f e.2)
  have fmin : f (min (f e.1) (f e.2)) = min (f e.1) (f e.2) := by
    rcases mm with ⟨h, _⟩ | ⟨h, _⟩ <;> rw [h] <;> exact r.idem _
  refine ⟨fun v => Nat.le_trans (gs_le f e v) (r.le v), fun v => ?_, fun e' he => ?_, fun g hg v => ?_⟩
  · by_cases h : f v = max (f e.1) (f e.2)
    · rw [gs_hit h]
      by_cases h2 : f (min (f e.1) (f e.2)) = max (f e.1) (f e.2)
      · rw [gs_hit h2]
      · rw [gs_miss h2]; exact fmin
    · rw [gs_miss h]
      have h2 : ¬ f (f v) = max (f e.1) (f e.2) := by rw [r.idem]; exact h
      rw [gs_miss h2]; exact r.idem v
  · rcases List.mem_append.mp he with he | he
    · have q := r.edge e' he
      unfold gs
      rw [q]
    · have e1 : e' = e := by simpa using he
      subst e1
      have one : ∀ x, f x = f e'.1 ∨ f x = f e'.2 → gs f e' x = min (f e'.1) (f e'.2) := fun x hx => by
        by_cases h : f x = max (f e'.1) (f e'.2)
        · exact gs_hit h
        · rw [gs_miss h]
          rcases mm with ⟨a, b⟩ | ⟨a, b⟩ <;> rcases hx with hx | hx <;> first | (rw [a, hx]; done) | (exact absurd (hx.trans b.symm) h)
      rw [one e'.1 (.inl rfl), one e'.2 (.inr rfl)]
  · have hold := r.conn g (fun e' he => hg e' (List.mem_append_left _ he))
    have hge := hg e (List.mem_append_right _ (by simp))
    have h1 := hold e.1
    have h2 := hold e.2
    by_cases h : f v = max (f e.1) (f e.2)
    · rw [gs_hit h]
      have h3 := hold v
      rw [h] at h3
      rcases mm with ⟨a, b⟩ | ⟨a, b⟩
      · rw [a, h1, hge, ← h2, ← b]; exact h3
      · rw [a, h2, ← hge, ← h1, ← b]; exact h3
    · rw [gs_miss h]; exact hold v
theorem Root.nil : Root [] id := ⟨fun _ => Nat.le_refl _, fun _ => rfl, (fun _ h => nomatch h), fun _ _ _ => rfl⟩
theorem F_snoc (ps : Es) (e : Nat × Nat) : F (ps ++ [e]) = gs (F ps) e := by
  unfold F
  rw [List.foldl_append]
  rfl
theorem take_snoc {α : Type} {l : List α} {k : Nat} {x : α} (h : l[k]? = some x) : l.take (k + 1) = l.take k ++ [x] := by
  rw [List.take_add_one, h]
  rfl
theorem root_F : ∀ (k : Nat) (ps : Es), Root (ps.take k) (F (ps.take k))
  | 0, ps => by rw [List.take_zero]; exact Root.nil
  | k + 1, ps => by
    cases h : ps[k]? with
    | none =>
      have e : ps.take (k + 1) = ps.take k := by
        have hl := List.getElem?_eq_none_iff.mp h
        rw [List.take_of_length_le hl, List.take_of_length_le (by omega)]
      rw [e]
      exact root_F k ps
    | some e =>
      rw [take_snoc h, F_snoc]
      exact (root_F k ps).step e
theorem rootF (ps : Es) : Root ps (F ps) := by
  have h := root_F ps.length ps
  rw [List.take_length] at h
  exact h
/-! the law's sweeps -/
theorem ls_le (f : Nat → Nat) (e : Nat × Nat) (v : Nat) : ls f e v ≤ f v := by
  unfold ls
  split
  · rename_i h; rw [h]; exact Nat.min_le_right _ _
  · split
    · rename_i h; rw [h]; exact Nat.min_le_left _ _
    · exact Nat.le_refl _
theorem sweep_le : ∀ (ps : Es) (f : Nat → Nat) (v : Nat), sweep ps f v ≤ f v
  | [], _, _ => Nat.le_refl _
  | e :: ps, f, v => Nat.le_trans (sweep_le ps (ls f e) v) (ls_le f e v)
theorem ls_1 (f : Nat → Nat) (e : Nat × Nat) : ls f e e.1 = min (f e.1) (f e.2) := by
  unfold ls
  split
  · rfl
  · rw [if_pos rfl]
theorem ls_2 (f : Nat → Nat) (e : Nat × Nat) : ls f e e.2 = min (f e.1) (f e.2) := by
  unfold ls
  rw [if_pos rfl]
theorem sweep_edge : ∀ (ps : Es) (f : Nat → Nat) (e : Nat × Nat), e ∈ ps → sweep ps f e.1 ≤ min (f e.1) (f e.2) ∧ sweep ps f e.2 ≤ min (f e.1) (f e.2)
  | [], _, _, h => by cases h
  | d :: ps, f, e, h => by
    rcases List.mem_cons.mp h with rfl | h
    · have h1 := sweep_le ps (ls f e) e.1
      have h2 := sweep_le ps (ls f e) e.2
      rw [ls_1] at h1
      rw [ls_2] at h2
      exact ⟨h1, h2⟩
    · have ih := sweep_edge ps (ls f d) e h
      have a := ls_le f d e.1
      have b := ls_le f d e.2
      have m : min (ls f d e.1) (ls f d e.2) ≤ min (f e.1) (f e.2) := by
        rcases min_or (f e.1) (f e.2) with ⟨q, _⟩ | ⟨q, _⟩ <;> rw [q]
        · exact Nat.le_trans (Nat.min_le_left _ _) a
        · exact Nat.le_trans (Nat.min_le_right _ _) b
      exact ⟨Nat.le_trans ih.1 m, Nat.le_trans ih.2 m⟩
theorem ls_conn {g f : Nat → Nat} {e : Nat × Nat} (he : g e.1 = g e.2) (h : ∀ v, g (f v) = g v) (v : Nat) : g (ls f e v) = g v := by
  have hm : g (min (f e.1) (f e.2)) = g e.1 := by
    rcases min_or (f e.1) (f e.2) with ⟨q, _⟩ | ⟨q, _⟩ <;> rw [q, h]
    exact he.symm
  unfold ls
  split
  · rename_i q; rw [hm, q]; exact he
  · split
    · rename_i q; rw [hm, q]
    · exact h v
theorem sweep_conn {g : Nat → Nat} : ∀ (ps : Es) (f : Nat → Nat), (∀ e ∈ ps, g e.1 = g e.2) → (∀ v, g (f v) = g v) → ∀ v, g (sweep ps f v) = g v
  | [], _, _, h => h
  | e :: ps, f, hg, h => sweep_conn ps (ls f e) (fun d hd => hg d (List.mem_cons_of_mem _ hd)) (ls_conn (hg e (List.mem_cons_self ..)) h)
theorem R_conn {g : Nat → Nat} {ps : Es} (hg : ∀ e ∈ ps, g e.1 = g e.2) : ∀ (t v : Nat), g (R ps t v) = g v
  | 0, _ => rfl
  | t + 1, v => sweep_conn ps (R ps t) hg (R_conn hg t) v
theorem R_le (ps : Es) : ∀ (t v : Nat), R ps t v ≤ v
  | 0, _ => Nat.le_refl _
  | t + 1, v => Nat.le_trans (sweep_le ps (R ps t) v) (R_le ps t v)
theorem F_le_R (ps : Es) (t v : Nat) : F ps v ≤ R ps t v := by
  have r := rootF ps
  have h := R_conn (g := F ps) (ps := ps) r.edge t v
  rw [← h]
  exact r.le _
theorem countP_lt {p q : Nat → Bool} : ∀ {l : List Nat}, (∀ x ∈ l, p x = true → q x = true) → (∃ x ∈ l, q x = true ∧ p x = false) → l.countP p < l.countP q
  | [], _, ⟨_, h, _⟩ => by cases h
  | a :: l, hpq, ⟨x, hx, qx, px⟩ => by
    have mono : l.countP p ≤ l.countP q := List.countP_mono_left fun y hy => hpq y (List.mem_cons_of_mem _ hy)
    rcases List.mem_cons.mp hx with rfl | hx
    · rw [List.countP_cons_of_pos qx, List.countP_cons_of_neg (by simp [px])]
      omega
    · have ih := countP_lt (l := l) (fun y hy => hpq y (List.mem_cons_of_mem _ hy)) ⟨x, hx, qx, px⟩
      by_cases ha : p a = true
      · rw [List.countP_cons_of_pos ha, List.countP_cons_of_pos (hpq a (List.mem_cons_self ..) ha)]
        omega
      · rw [List.countP_cons_of_neg ha]
        by_cases hb : q a = true
        · rw [List.countP_cons_of_pos hb]; omega
        · rw [List.countP_cons_of_neg hb]; exact ih
def hit (ps : Es) (t : Nat) : Nat → Bool := fun v => decide (R ps t v = F ps v)
theorem hit_mono (ps : Es) (t v : Nat) (h : hit ps t v = true) : hit ps (t + 1) v = true := by
  have h' : R ps t v = F ps v := of_decide_eq_true h
  have a := F_le_R ps (t + 1) v
  have b : R ps (t + 1) v ≤ R ps t v := sweep_le ps (R ps t) v
  exact decide_eq_true (by omega)
theorem hit_all_or (ps : Es) (n : Nat) (wi : ∀ e ∈ ps, e.1 < n ∧ e.2 < n) (t : Nat) : (∀ v, hit ps t v = true) ∨ (List.range n).countP (hit ps t) < (List.range n).countP (hit ps (t + 1)) := by
  by_cases hx : ∃ e ∈ ps, hit ps t e.1 ≠ hit ps t e.2
  · right
    obtain ⟨e, he, hne⟩ := hx
    have r := rootF ps
    have fe := r.edge e he
    have sw := sweep_edge ps (R ps t) e he
    have a1 := F_le_R ps (t + 1) e.1
    have a2 := F_le_R ps (t + 1) e.2
    have both : R ps (t + 1) e.1 ≤ min (R ps t e.1) (R ps t e.2) ∧ R ps (t + 1) e.2 ≤ min (R ps t e.1) (R ps t e.2) := sw
    have m1 := Nat.min_le_left (R ps t e.1) (R ps t e.2)
    have m2 := Nat.min_le_right (R ps t e.1) (R ps t e.2)
    have either : hit ps t e.1 = true ∨ hit ps t e.2 = true := by
      cases h1 : hit ps t e.1 with
      | true => exact .inl rfl
      | false =>
        cases h2 : hit ps t e.2 with
        | true => exact .inr rfl
        | false => rw [h1, h2] at hne; exact absurd rfl hne
    have n1 : hit ps (t + 1) e.1 = true := by
      rcases either with h | h
      · exact hit_mono ps t _ h
      · have h' : R ps t e.2 = F ps e.2 := of_decide_eq_true h
        exact decide_eq_true (by omega)
    have n2 : hit ps (t + 1) e.2 = true := by
      rcases either with h | h
      · have h' : R ps t e.1 = F ps e.1 := of_decide_eq_true h
        exact decide_eq_true (by omega)
      · exact hit_mono ps t _ h
    refine countP_lt (fun x _ => hit_mono ps t x) ?_
    cases h1 : hit ps t e.1 with
    | false => exact ⟨e.1, List.mem_range.mpr (wi e he).1, n1, h1⟩
    | true =>
      refine ⟨e.2, List.mem_range.mpr (wi e he).2, n2, ?_⟩
      cases h2 : hit ps t e.2 with
      | false => rfl
      | true => rw [h1, h2] at hne; exact absurd rfl hne
  · left
    intro v
    have r := rootF ps
    have hg : ∀ e ∈ ps, (fun u => (hit ps t u).toNat) e.1 = (fun u => (hit ps t u).toNat) e.2 := fun e he => by
      by_cases q : hit ps t e.1 = hit ps t e.2
      · show (hit ps t e.1).toNat = (hit ps t e.2).toNat
        rw [q]
      · exact absurd ⟨e, he, q⟩ hx
    have c := r.conn (fun u => (hit ps t u).toNat) hg v
    have root : hit ps t (F ps v) = true := by
      have a := R_le ps t (F ps v)
      have b := F_le_R ps t (F ps v)
      rw [r.idem] at b
      refine decide_eq_true ?_
      rw [r.idem]
      omega
    have c' : (hit ps t (F ps v)).toNat = (hit ps t v).toNat := c
    rw [root] at c'
    cases q : hit ps t v with
    | true => rfl
    | false => rw [q] at c'; cases c'
theorem count_le (ps : Es) (n : Nat) (wi : ∀ e ∈ ps, e.1 < n ∧ e.2 < n) : ∀ t, (∀ v, hit ps t v = true) ∨ t ≤ (List.range n).countP (hit ps t)
  | 0 => .inr (Nat.zero_le _)
  | t + 1 => by
    rcases count_le ps n wi t with h | h
    · exact .inl fun v => hit_mono ps t v (h v)
    · rcases hit_all_or ps n wi t with h2 | h2
      · exact .inl fun v => hit_mono ps t v (h2 v)
      · exact .inr (by omega)
theorem R_is_F (ps : Es) (n : Nat) (wi : ∀ e ∈ ps, e.1 < n ∧ e.2 < n) : ∀ v, v < n → R ps n v = F ps v := by
  intro v hv
  have all : hit ps n v = true := by
    rcases count_le ps n wi n with h | h
    · exact h v
    · have hl := List.countP_le_length (p := hit ps n) (l := List.range n)
      rw [List.length_range] at hl
      have e : (List.range n).countP (hit ps n) = (List.range n).length := by rw [List.length_range]; omega
      exact List.countP_eq_length.mp e v (List.mem_range.mpr hv)
  exact of_decide_eq_true all
/-! groups -/
def groupOf (n : Nat) (f : Nat → Nat) (first : Nat) : List Nat := (List.range n).filter fun v => decide (f v = first)
def groups (n : Nat) (f : Nat → Nat) : List (List Nat) := ((List.range n).filter fun a => decide (f a = a)).map (groupOf n f)
theorem groupOf_congr {n : Nat} {f g : Nat → Nat} (h : ∀ v, v < n → f v = g v) (a : Nat) : groupOf n f a = groupOf n g a := by
  unfold groupOf
  exact List.filter_congr fun v hv => by rw [h v (List.mem_range.mp hv)]
theorem groups_congr {n : Nat} {f g : Nat → Nat} (h : ∀ v, v < n → f v = g v) : groups n f = groups n g := by
  unfold groups
  rw [List.filter_congr (fun a ha => by rw [h a (List.mem_range.mp ha)])]
  exact List.map_congr_left fun a _ => groupOf_congr h a
/-- a name that stands among the labels is its own label -/
theorem mem_labels {ps : Es} {n a : Nat} (ha : a < n) : a ∈ (List.range n).map (F ps) ↔ F ps a = a := by
  have r := rootF ps
  constructor
  · intro h
    obtain ⟨v, _, e⟩ := List.mem_map.mp h
    rw [← e, r.idem]
  · intro h
    exact List.mem_map.mpr ⟨a, List.mem_range.mpr ha, h⟩
/-- a group has both exactly if their labels agree -/
theorem both_in {ps : Es} {n t h : Nat} (ht : t < n) (hh : h < n) : ((groups n (F ps)).filter fun g => decide (t ∈ g) && decide (h ∈ g)) = [] ↔ F ps t ≠ F ps h := by
  have r := rootF ps
  constructor
  · intro e q
    have hm : groupOf n (F ps) (F ps t) ∈ groups n (F ps) := by
      refine List.mem_map.mpr ⟨F ps t, List.mem_filter.mpr ⟨List.mem_range.mpr (Nat.lt_of_le_of_lt (r.le t) ht), decide_eq_true (r.idem t)⟩, rfl⟩
    have hf : groupOf n (F ps) (F ps t) ∈ (groups n (F ps)).filter fun g => decide (t ∈ g) && decide (h ∈ g) := by
      refine List.mem_filter.mpr ⟨hm, ?_⟩
      have a : t ∈ groupOf n (F ps) (F ps t) := List.mem_filter.mpr ⟨List.mem_range.mpr ht, decide_eq_true rfl⟩
      have b : h ∈ groupOf n (F ps) (F ps t) := List.mem_filter.mpr ⟨List.mem_range.mpr hh, decide_eq_true q.symm⟩
      rw [decide_eq_true a, decide_eq_true b]
      rfl
    rw [e] at hf
    cases hf
  · intro q
    refine List.filter_eq_nil_iff.mpr fun g hg hb => ?_
    obtain ⟨a, _, rfl⟩ := List.mem_map.mp hg
    simp only [Bool.and_eq_true, decide_eq_true_eq] at hb
    have h1 := of_decide_eq_true (List.mem_filter.mp hb.1).2
    have h2 := of_decide_eq_true (List.mem_filter.mp hb.2).2
    exact q (h1.trans h2.symm)
/-- the forest's numbers among the first k edges -/
def at2 (ps : Es) (i : Nat) : Nat × Nat := ps.getD i (0, 0)
def grows (ps : Es) (i : Nat) : Bool := decide (F (ps.take i) (at2 ps i).1 ≠ F (ps.take i) (at2 ps i).2)
def nums (ps : Es) (k : Nat) : List Nat := (List.range k).filter (grows ps)
theorem nums_succ (ps : Es) (k : Nat) : nums ps (k + 1) = if grows ps k = true then nums ps k ++ [k] else nums ps k := by
  unfold nums
  rw [List.range_succ, List.filter_append]
  cases h : grows ps k with
  | true => simp [h]
  | false => simp [h]
theorem at2_get {ps : Es} {i : Nat} {e : Nat × Nat} (h : ps[i]? = some e) : at2 ps i = e := by
  unfold at2
  rw [List.getD_eq_getElem?_getD, h]
  rfl
end Wm

/-! ## Webs and the law's drawing, def by def, over the hand layer -/
namespace Wb
open PySem L2
def top (i : Nat) : Stmt := PySem.Challenge.pw_turnedties_k05_walks_looked_at.main.body.getD i (.Pass ⟨0, 0, 0, 0⟩)
abbrev sIsInt : Stmt := top 2
abbrev sBetween : Stmt := top 3
abbrev sWebErr : Stmt := inClass (top 5) 0
abbrev sWeb : Stmt := top 17
abbrev sInit : Stmt := inClass (top 17) 0
abbrev sEdgeM : Stmt := inClass (top 17) 4
abbrev sLen : Stmt := inClass (top 17) 9
abbrev sIsMod : Stmt := top 18
abbrev sIsEdge : Stmt := top 19
abbrev sCheck : Stmt := top 20
abbrev sGrown : Stmt := top 21
abbrev sTies : Stmt := top 22
abbrev sIsStep : Stmt := top 23
abbrev sStepEnds : Stmt := top 24
abbrev sIsWalk : Stmt := top 25
abbrev sLinked : Stmt := top 26
abbrev sIsClosed : Stmt := top 27
abbrev sEndsOf : Stmt := top 28
abbrev sPool : Stmt := top 30
abbrev sTake : Stmt := top 31
abbrev sModulus : Stmt := top 32
abbrev sLinks : Stmt := top 33
abbrev sIsNum : Stmt := top 34
abbrev sNodes : Stmt := top 35
abbrev sLed : Stmt := top 36
abbrev sBent : Stmt := top 37
abbrev sRight : Stmt := top 38
abbrev sLaw : Stmt := top 39

/-! ### heaps: all but some addresses as it was -/
def But (l : List Addr) (H H' : Hp) : Prop := ∀ b o, b ∉ l → H b = some o → H' b = some o
theorem But.refl (l : List Addr) (H : Hp) : But l H H := fun _ _ _ h => h
theorem But.trans {l : List Addr} {H H1 H2 : Hp} (a : But l H H1) (b : But l H1 H2) : But l H H2 := fun c o n h => b c o n (a c o n h)
theorem But.of_same {l : List Addr} {H H' : Hp} (a : Same H H') : But l H H' := fun c o _ h => a c o h
theorem But.same {H H' : Hp} (a : But [] H H') : Same H H' := fun c o h => a c o (by simp) h
theorem But.at {l : List Addr} {H H' : Hp} (a : But l H H') {b : Addr} {o : HO} (n : b ∉ l) (h : H b = some o) : H' b = some o := a b o n h
theorem But.upd_in {l : List Addr} {H H' : Hp} {p : Addr} {o : HO} (a : But l H H') (h : p ∈ l) : But l H (upd H' p o) := fun b u n e => by
  rw [upd_ne (fun z => n (by rw [z]; exact h))]
  exact a b u n e
theorem But.new {l : List Addr} {H H' : Hp} {p : Addr} {o : HO} (a : But l H H') (h : H' p = none ∨ H p = none) : But l H (upd H' p o) := fun b u n e => by
  have e' := a b u n e
  rw [upd_ne]
  · exact e'
  · rintro rfl
    rcases h with h | h
    · rw [h] at e'; cases e'
    · rw [h] at e; cases e
theorem same_new {H H' : Hp} {p : Addr} {o : HO} (a : Same H H') (h : H' p = none ∨ H p = none) : Same H (upd H' p o) := fun b u e => by
  have e' := a b u e
  rw [upd_ne]
  · exact e'
  · rintro rfl
    rcases h with h | h
    · rw [h] at e'; cases e'
    · rw [h] at e; cases e
theorem But.free {l : List Addr} {H H' : Hp} (e : But l H H') {b : Addr} (n : b ∉ l) (h : H' b = none) : H b = none := by
  cases q : H b with
  | none => rfl
  | some o => rw [e b o n q] at h; cases h

/-! ### what is_integer says of a value's type -/
def IntB (K : PySem.W.Frag) (t : Value) (b : Bool) : Prop := ∃ b1, PySem.W.kitOne K t (.type "int") = some b1 ∧ (b1 = false → b = false) ∧ (b1 = true → ∃ b2, PySem.W.kitOne K t (.type "bool") = some b2 ∧ b = !b2)
theorem intB_int {K : PySem.W.Frag} : IntB K (.type "int") true := ⟨true, kit_ty (by decide +kernel), (fun h => nomatch h), (fun _ => ⟨false, kit_ty (by decide +kernel), rfl⟩)⟩

/-- the built-in names that stand for themselves -/
structure Bn (mg : Str → Option Value) : Prop where
  len : mg "len" = none
  range : mg "range" = none
  list : mg "list" = none
  min : mg "min" = none
  max : mg "max" = none
  enumerate : mg "enumerate" = none
  isinstance : mg "isinstance" = none
  int : mg "int" = none
  bool : mg "bool" = none
  tuple : mg "tuple" = none
  all : mg "all" = none
  zip : mg "zip" = none
  repr : mg "repr" = none
  str : mg "str" = none

def spInt (K : PySem.W.Frag) : Sp := fun vs H Q _ => ∃ x t b, vs = [x] ∧ TyX K H x t ∧ IntB K t b ∧ Q (.bl b) H
/-- thing, low, high -/
def spBetween (K : PySem.W.Frag) : Sp := fun vs H Q _ => ∃ (x : V) (lo hi : Int) (t : Value) (b : Bool), vs = [x, .int lo, .int hi] ∧ TyX K H x t ∧ IntB K t b ∧ (b = false → Q (.bl false) H) ∧ (b = true → ∃ i, x = .int i ∧ Q (.bl (decide (lo ≤ i ∧ i ≤ hi))) H)

section
variable {P : Program} {w : World} {K : PySem.W.Frag} {mg : Str → Option Value} {base : Heap}
theorem scIsInt : FnScope ["thing"] ["thing"] (defScope sIsInt) := ⟨rfl, rfl, rfl, by decide +kernel, rfl, by decide +kernel, by decide +kernel⟩
theorem ok_isint {f : Addr} {fd : FuncData} (F : Fun K "is_integer" "is_integer" sIsInt f fd) (B : Bn mg) : FnOk P w K mg base CX0 1 f fd ["thing"] (spInt K) := by
  refine F.ok scIsInt (fun vs H Q E h => ?_) (fun cdv A outer s H vs Q E hr h => ?_)
  · obtain ⟨x, t, b, rfl, _⟩ := h
    rfl
  · obtain ⟨x, t, b, rfl, hty, ⟨b1, h1, hf, ht⟩, q⟩ := h
    refine ⟨_, pss_one (ps_ret (pe_and (pe_callB call_isi (by rfl) B.isinstance (by decide +kernel) (pa_cons (pv 0) (pa_cons (pe_bltn (v := .ty "int") (by rfl) B.int (by decide +kernel) rfl) pa_nil)))
      (pe_one (pe_not (pe_callB call_isi (by rfl) B.isinstance (by decide +kernel) (pa_cons (pv 0) (pa_cons (pe_bltn (v := .ty "bool") (by rfl) B.bool (by decide +kernel) rfl) pa_nil))))))), ?_⟩
    refine ⟨_, rfl, _, _, _, _, _, rfl, .ty _, hty, h1, _, rfl, ?_⟩
    cases b1 with
    | false =>
      refine iteF ?_
      rw [hf rfl] at q
      exact q
    | true =>
      obtain ⟨b2, h2, rfl⟩ := ht rfl
      refine iteT ?_
      exact ⟨_, rfl, _, _, _, _, _, rfl, .ty _, hty, h2, _, rfl, q⟩
theorem scBetween : FnScope ["thing", "low", "high"] ["thing", "low", "high"] (defScope sBetween) := ⟨rfl, rfl, rfl, by decide +kernel, rfl, by decide +kernel, by decide +kernel⟩
theorem ok_between {f g : Addr} {fd gd : FuncData} (F : Fun K "is_between" "is_between" sBetween f fd) (G : FnOk P w K mg base CX0 1 g gd ["thing"] (spInt K)) (mgG : mg "is_integer" = some (.ref g)) (kG : PySem.W.keepIn K (.ref g) = true) (bG : Binds K gd ["thing"] []) :
    FnOk P w K mg base CX0 2 f fd ["thing", "low", "high"] (spBetween K) := by
  refine F.ok scBetween (fun vs H Q E h => ?_) (fun cdv A outer s H vs Q E hr h => ?_)
  · obtain ⟨x, lo, hi, t, b, rfl, _⟩ := h
    rfl
  · obtain ⟨x, lo, hi, t, b, rfl, hty, hb, hf, ht⟩ := h
    refine ⟨_, pss_one (ps_ret (pe_and (pe_call G hr rfl mgG kG bG .nil pass0 (pa_cons (pv 0) pa_nil)) (pe_one (pe_chain op_le op_le (pv 1) (pv 0) (pv 2))))), ?_⟩
    refine ⟨_, rfl, x, t, b, rfl, hty, hb, b, rfl, ?_⟩
    cases b with
    | false => exact iteF (hf rfl)
    | true =>
      obtain ⟨i, rfl, q⟩ := ht rfl
      refine iteT ⟨_, rfl, _, rfl, _, _, rfl, rfl, _, rfl, ?_⟩
      refine ite2 (fun h1 => ?_) (fun h1 => ?_)
      · refine ⟨_, rfl, _, _, rfl, rfl, ?_⟩
        have h1' : lo ≤ i := of_decide_eq_true h1
        have e : decide (lo ≤ i ∧ i ≤ hi) = decide (i ≤ hi) := by
          by_cases h2 : i ≤ hi
          · rw [decide_eq_true h2, decide_eq_true ⟨h1', h2⟩]
          · rw [decide_eq_false h2, decide_eq_false fun z => h2 z.2]
        rw [e] at q
        exact q
      · have h1' : ¬ lo ≤ i := fun z => h1 (decide_eq_true z)
        rw [decide_eq_false fun z => h1' z.1] at q
        exact q
end
end Wb

namespace Wb
open PySem L2
/-! ### the law's own drawing -/
def PoolAt (H : Hp) (p : Addr) : Prop := ∃ a b : Int, H p = some (.lst [.int a, .int b]) ∧ 0 ≤ b ∧ b ≤ 2147483647
def spPool (K : PySem.W.Frag) : Sp := fun vs H Q _ => ∃ (a : Addr) (ns : List Int) (k : Int), vs = [.ref a, .int k] ∧ SqL K H a (ns.map V.int) ∧ ns.length ≤ 63 ∧ 0 ≤ k ∧ k ≤ 63 ∧
  ∀ H' p, Same H H' → H p = none → PoolAt H' p → Q (.ref p) H'
def spTake : Sp := fun vs H Q _ => ∃ (p : Addr) (k : Int), vs = [.ref p, .int k] ∧ PoolAt H p ∧ 0 < k ∧ k ≤ 10 ^ 18 ∧
  ∀ H' r, But [p] H H' → PoolAt H' p → 0 ≤ r → r < k → Q (.int r) H'
def spModulus : Sp := fun vs H Q _ => ∃ (p : Addr), vs = [.ref p] ∧ PoolAt H p ∧
  ∀ H' m, But [p] H H' → PoolAt H' p → m ∈ ([0, 2, 3, 4, 5, 12, 60] : List Int) → Q (.int m) H'
/-- a list of pairs lies at a -/
def PairsAt (H : Hp) (ts : List Addr) (ps : List (Nat × Nat)) : Prop := ts.length = ps.length ∧ ∀ (i : Nat) (t : Addr) (p : Nat × Nat), ts[i]? = some t → ps[i]? = some p → H t = some (.tup [.int p.1, .int p.2])
def EdgesAt (H : Hp) (a : Addr) (ts : List Addr) (ps : List (Nat × Nat)) : Prop := H a = some (.lst (ts.map V.ref)) ∧ PairsAt H ts ps
def Within (n : Nat) (ps : List (Nat × Nat)) : Prop := ∀ e ∈ ps, e.1 < n ∧ e.2 < n
theorem PairsAt.same {H H' : Hp} {ts : List Addr} {ps : List (Nat × Nat)} (h : PairsAt H ts ps) (s : Same H H') : PairsAt H' ts ps := ⟨h.1, fun i t p a b => s _ _ (h.2 i t p a b)⟩
theorem PairsAt.but {l : List Addr} {H H' : Hp} {ts : List Addr} {ps : List (Nat × Nat)} (h : PairsAt H ts ps) (s : But l H H') (n : ∀ b ∈ l, ∀ xs, H b ≠ some (.tup xs)) : PairsAt H' ts ps :=
  ⟨h.1, fun i t p a b => s _ _ (fun z => n t z _ (h.2 i t p a b)) (h.2 i t p a b)⟩
theorem PairsAt.snoc {H H' : Hp} {ts : List Addr} {ps : List (Nat × Nat)} {t : Addr} {p : Nat × Nat} (h : PairsAt H ts ps) (s : Same H H') (ht : H' t = some (.tup [.int p.1, .int p.2])) : PairsAt H' (ts ++ [t]) (ps ++ [p]) := by
  refine ⟨by simp [h.1], fun i u q a b => ?_⟩
  by_cases hi : i < ts.length
  · rw [List.getElem?_append_left hi] at a
    rw [List.getElem?_append_left (by rw [← h.1]; exact hi)] at b
    exact s _ _ (h.2 i u q a b)
  · have e : i = ts.length := by
      have := (List.getElem?_eq_some_iff.mp a).1
      simp at this
      omega
    subst e
    rw [List.getElem?_append_right (Nat.le_refl _)] at a
    rw [h.1, List.getElem?_append_right (Nat.le_refl _)] at b
    simp at a b
    subst a b
    exact ht
/-- many links, all in the pool's own heap's future -/
def spLinks : Sp := fun vs H Q _ => ∃ (p : Addr) (n m : Nat), vs = [.ref p, .int n, .int m] ∧ PoolAt H p ∧ 0 < n ∧ n ≤ 30 ∧ m ≤ 60 ∧
  ∀ H' a ts ps, But [p] H H' → PoolAt H' p → H a = none → EdgesAt H' a ts ps → Within n ps → ps.length ≤ m → Q (.ref a) H'
theorem PoolAt.nl {H : Hp} {p : Addr} (h : PoolAt H p) : ∃ xs, H p = some (.lst xs) := let ⟨_, _, h, _⟩ := h; ⟨_, h⟩

section
variable {P : Program} {w : World} {K : PySem.W.Frag} {mg : Str → Option Value} {base : Heap}
theorem scPool : FnScope ["_law_script", "_law_k", "_law_cell", "_law_seed"] ["_law_script", "_law_k"] (defScope sPool) := ⟨rfl, rfl, rfl, by decide +kernel, rfl, by decide +kernel, by decide +kernel⟩
theorem ok_pool {f : Addr} {fd : FuncData} (F : Fun K "_law_pool" "_law_pool" sPool f fd) (B : Bn mg) : FnOk P w K mg base CX0 1 f fd ["_law_script", "_law_k"] (spPool K) := by
  refine F.ok scPool (fun vs H Q E h => ?_) (fun cdv A outer s H vs Q E hr h => ?_)
  · obtain ⟨a, ns, k, rfl, _⟩ := h
    rfl
  · obtain ⟨a, ns, k, rfl, hS, hl, k0, k1, q⟩ := h
    refine ⟨_, pss_cons (ps_set (i := 2) scPool.nd rfl (Or.inl rfl) pe_int)
      (pss_cons (ps_if (pt_cmpR op_lt (pv 1) (pe_callB call_len_seq (by rfl) B.len PySem.boot_len (pa_cons (pv 0) pa_nil)) (nomark _)) (pss_one (ps_set (i := 2) scPool.nd rfl (Or.inl rfl) (pe_ix ix_list (pv 0) (pv 1) (fun _ _ => rfl)))) pss_nil)
      (pss_cons (ps_set (i := 3) scPool.nd rfl (Or.inl rfl) (pe_op op_mod (pe_op op_mul (pe_op op_add (pe_op op_add (pe_op op_mod (pv 2) pe_int) (pe_op op_mul (pe_op op_mul pe_int (pv 1)) (pv 1))) pe_int) pe_int) pe_int))
      (pss_cons (ps_if (pt_cmpR op_lt (pv 2) (pe_op op_pow pe_int pe_int) (nomark _)) (pss_one (ps_set (i := 2) scPool.nd rfl (Or.inl rfl) pe_int)) pss_nil)
      (pss_one (ps_ret (pe_lst (pa_cons (pv 2) (pa_cons (pe_op op_add (pe_op op_mod (pe_op op_mul (pv 3) (pv 3)) pe_int) pe_int) pa_nil)))))))), ?_⟩
    -- behind the first if: any cell
    have rest : ∀ c : Int, tSeq (tAsg (tOp (rI (fun _ j => 0 < j) fun i j => .int (i % j)) (tOp (rI CMul fun i j => .int (i * j)) (tOp (rI0 fun i j => .int (i + j)) (tOp (rI0 fun i j => .int (i + j)) (tOp (rI (fun _ j => 0 < j) fun i j => .int (i % j)) (tVar 2) (tC (.int 2147483629)))
        (tOp (rI CMul fun i j => .int (i * j)) (tOp (rI CMul fun i j => .int (i * j)) (tC (.int 7919)) (tVar 1)) (tVar 1))) (tC (.int 13))) (tC (.int 48271))) (tC (.int 2147483647))) (gName 3))
        (tSeq (tIfS (tTest (tOp (rI0 fun i j => .bl (decide (i < j))) (tVar 2) (tOp (rI CPow fun i j => .int (i ^ j.toNat)) (tC (.int 10)) (tC (.int 18))))) (tAsg (tC (.int 0)) (gName 2)) tNext)
          (tRet (tLst (tCons (tVar 2) (tCons (tOp (rI0 fun i j => .int (i + j)) (tOp (rI (fun _ j => 0 < j) fun i j => .int (i % j)) (tOp (rI CMul fun i j => .int (i * j)) (tVar 3) (tVar 3)) (tC (.int 2147483587))) (tC (.int 1))) tNil)))))
        { nx := fun _ H' => Q .non H', rt := Q } [some (.ref a), some (.int k), some (.int c), none] H := by
      intro c
      have b1 : 0 ≤ c % 2147483629 ∧ c % 2147483629 < 2147483629 := ⟨Int.emod_nonneg _ (by decide), Int.emod_lt_of_pos _ (by decide)⟩
      have b2 : 0 ≤ 7919 * k * k ∧ 7919 * k * k ≤ 7919 * 63 * 63 := by
        have h1 : 0 ≤ 7919 * k := by omega
        have h2 : 7919 * k ≤ 7919 * 63 := by omega
        exact ⟨Int.mul_nonneg h1 k0, Int.mul_le_mul h2 k1 k0 (by decide)⟩
      refine ⟨_, rfl, _, _, rfl, rfl, (by show (0 : Int) < 2147483629; decide), _, rfl, _, _, rfl, rfl, .inl ⟨by decide, by decide⟩, _, rfl, _, _, rfl, rfl, .inl ⟨by omega, by omega⟩, _, _, rfl, rfl, _, _, rfl, rfl, _, _, rfl, rfl, .inr ⟨by decide, by decide⟩, _, _, rfl, rfl, (by show (0 : Int) < 2147483647; decide), ?_⟩
      refine ⟨_, rfl, _, _, rfl, rfl, ⟨by decide, by decide, by decide⟩, _, _, rfl, rfl, _, rfl, ?_⟩
      have fin : ∀ c' sd : Int, 0 ≤ sd → sd < 2147483647 → (tRet (tLst (tCons (tVar 2) (tCons (tOp (rI0 fun i j => .int (i + j)) (tOp (rI (fun _ j => 0 < j) fun i j => .int (i % j)) (tOp (rI CMul fun i j => .int (i * j)) (tVar 3) (tVar 3)) (tC (.int 2147483587))) (tC (.int 1))) tNil)))) { nx := fun _ H' => Q .non H', rt := Q } [some (.ref a), some (.int k), some (.int c'), some (.int sd)] H := by
        intro c' sd h0 h1
        refine ⟨_, rfl, _, rfl, _, rfl, _, _, rfl, rfl, .inl ⟨by omega, by omega⟩, _, _, rfl, rfl, (by show (0 : Int) < 2147483587; decide), _, _, rfl, rfl, (by show 2 ≤ sizeLine; decide), fun p hp => ?_⟩
        have b4 : 0 ≤ sd * sd % 2147483587 ∧ sd * sd % 2147483587 < 2147483587 := ⟨Int.emod_nonneg _ (by decide), Int.emod_lt_of_pos _ (by decide)⟩
        exact q _ p (same_new (Same.refl H) (.inl hp)) hp ⟨_, _, upd_same, by omega, by omega⟩
      refine ite2 (fun _ => ?_) (fun _ => ?_)
      · exact fin 0 _ (Int.emod_nonneg _ (by decide)) (Int.emod_lt_of_pos _ (by decide))
      · exact fin c _ (Int.emod_nonneg _ (by decide)) (Int.emod_lt_of_pos _ (by decide))
    refine ⟨_, rfl, _, rfl, a, _, rfl, .inl hS, _, _, rfl, rfl, _, rfl, ?_⟩
    refine ite2 (fun h => ?_) (fun h => ?_)
    · have hlt : k < ((ns.map V.int).length : Int) := of_decide_eq_true h
      rw [List.length_map] at hlt
      obtain ⟨j, rfl⟩ : ∃ j : Nat, k = (j : Int) := ⟨k.toNat, (Int.toNat_of_nonneg k0).symm⟩
      have hj : j < ns.length := by omega
      exact ⟨_, rfl, _, rfl, a, _, _, .int ns[j], rfl, rfl, hS, atI_nat (by rw [List.getElem?_map, List.getElem?_eq_getElem hj]; rfl), rest ns[j]⟩
    · exact rest 0
theorem scTake : FnScope ["_law_pool_here", "_law_sides", "_law_found"] ["_law_pool_here", "_law_sides"] (defScope sTake) := ⟨rfl, rfl, rfl, by decide +kernel, rfl, by decide +kernel, by decide +kernel⟩
theorem ok_take {f : Addr} {fd : FuncData} (F : Fun K "_law_take" "_law_take" sTake f fd) : FnOk P w K mg base CX0 1 f fd ["_law_pool_here", "_law_sides"] spTake := by
  refine F.ok scTake (fun vs H Q E h => ?_) (fun cdv A outer s H vs Q E hr h => ?_)
  · obtain ⟨p, k, rfl, _⟩ := h
    rfl
  · obtain ⟨p, k, rfl, ⟨a, b, hp, b0, b1⟩, k0, k1, q⟩ := h
    refine ⟨_, pss_cons (ps_if (pt_cmpR op_gt (pe_ix ix_list (pv 0) pe_int (fun _ _ => rfl)) pe_int (nomark _))
        (pss_cons (ps_set (i := 2) scTake.nd rfl (Or.inl rfl) (pe_op op_mod (pe_ix ix_list (pv 0) pe_int (fun _ _ => rfl)) (pv 1)))
        (pss_cons (ps_asg (pe_op op_fdivW (pe_ix ix_list (pv 0) pe_int (fun _ _ => rfl)) (pv 1)) (pg_sub (pv 0) pe_int set_list)) (pss_one (ps_ret (pv 2))))) pss_nil)
      (pss_cons (ps_asg (pe_op op_mod (pe_op op_add (pe_op op_mul (pe_ix ix_list (pv 0) pe_int (fun _ _ => rfl)) pe_int) pe_int) pe_int) (pg_sub (pv 0) pe_int set_list))
      (pss_one (ps_ret (pe_op op_mod (pe_op op_fdiv (pe_op op_mod (pe_op op_mul (pe_ix ix_list (pv 0) pe_int (fun _ _ => rfl)) (pe_ix ix_list (pv 0) pe_int (fun _ _ => rfl))) pe_int) pe_int) (pv 1))))), ?_⟩
    refine ⟨_, rfl, p, _, _, .int a, rfl, rfl, SqL.of hp, rfl, _, _, rfl, rfl, _, rfl, ?_⟩
    refine ite2 (fun _ => ?_) (fun _ => ?_)
    · refine ⟨_, rfl, p, _, _, .int a, rfl, rfl, SqL.of hp, rfl, _, rfl, _, _, rfl, rfl, k0, ?_⟩
      refine ⟨_, rfl, p, _, _, .int a, rfl, rfl, SqL.of hp, rfl, _, rfl, _, _, rfl, rfl, wide_div (b := 60) k0 (by omega) (by decide) (by decide), ?_⟩
      refine ⟨_, rfl, p, _, _, 0, rfl, rfl, hp, rfl, ?_⟩
      exact ⟨_, rfl, q _ _ ((But.refl _ H).upd_in (by simp)) ⟨_, _, upd_same, b0, b1⟩ (Int.emod_nonneg _ (by omega)) (Int.emod_lt_of_pos _ k0)⟩
    · refine ⟨_, rfl, p, _, _, .int b, rfl, rfl, SqL.of hp, rfl, _, _, rfl, rfl, .inl ⟨by omega, by omega⟩, _, _, rfl, rfl, _, _, rfl, rfl, (by show (0 : Int) < 2147483647; decide), ?_⟩
      refine ⟨_, rfl, p, _, _, 1, rfl, rfl, hp, rfl, ?_⟩
      have b3 : 0 ≤ (b * 48271 + 11) % 2147483647 ∧ (b * 48271 + 11) % 2147483647 < 2147483647 := ⟨Int.emod_nonneg _ (by decide), Int.emod_lt_of_pos _ (by decide)⟩
      have hp2 : upd H p (.lst ([.int a, .int b].set 1 (.int ((b * 48271 + 11) % 2147483647)))) p = some (.lst [.int a, .int ((b * 48271 + 11) % 2147483647)]) := upd_same
      refine ⟨_, rfl, p, _, _, .int ((b * 48271 + 11) % 2147483647), rfl, rfl, SqL.of hp2, rfl, _, rfl, p, _, _, .int ((b * 48271 + 11) % 2147483647), rfl, rfl, SqL.of hp2, rfl, _, _, rfl, rfl, .inl ⟨by omega, by omega⟩, _, _, rfl, rfl, (by show (0 : Int) < 2147483629; decide),
        _, _, rfl, rfl, ⟨by decide, by decide⟩, _, rfl, _, _, rfl, rfl, k0, ?_⟩
      exact q _ _ ((But.refl _ H).upd_in (by simp)) ⟨_, _, hp2, b3.1, by omega⟩ (Int.emod_nonneg _ (by omega)) (Int.emod_lt_of_pos _ k0)
end
end Wb

namespace Wb
open PySem L2
theorem at_moduli {r : Int} (h0 : 0 ≤ r) (h1 : r < 8) : ∃ m : Int, m ∈ ([0, 2, 3, 4, 5, 12, 60] : List Int) ∧ atI ([.int 0, .int 0, .int 2, .int 3, .int 4, .int 5, .int 12, .int 60] : List V) r = some (.int m) := by
  have e : r = 0 ∨ r = 1 ∨ r = 2 ∨ r = 3 ∨ r = 4 ∨ r = 5 ∨ r = 6 ∨ r = 7 := by omega
  rcases e with rfl | rfl | rfl | rfl | rfl | rfl | rfl | rfl
  · exact ⟨0, by decide, rfl⟩
  · exact ⟨0, by decide, rfl⟩
  · exact ⟨2, by decide, rfl⟩
  · exact ⟨3, by decide, rfl⟩
  · exact ⟨4, by decide, rfl⟩
  · exact ⟨5, by decide, rfl⟩
  · exact ⟨12, by decide, rfl⟩
  · exact ⟨60, by decide, rfl⟩
theorem PoolAt.new {H : Hp} {p l : Addr} {o : HO} (h : PoolAt H p) (n : H l = none) : PoolAt (upd H l o) p := by
  obtain ⟨a, b, hp, b0, b1⟩ := h
  exact ⟨a, b, by rw [upd_ne (ne_of_none hp n)]; exact hp, b0, b1⟩
theorem PoolAt.notup {H : Hp} {p : Addr} (h : PoolAt H p) : ∀ b ∈ [p], ∀ xs, H b ≠ some (.tup xs) := fun b hb xs e => by
  obtain ⟨_, _, hp, _⟩ := h
  have e' : b = p := by simpa using hb
  subst e'
  rw [hp] at e
  cases e
theorem PoolAt.ne {H : Hp} {p l : Addr} (h : PoolAt H p) (n : H l = none) : l ∉ [p] := fun hl => by
  obtain ⟨_, _, hp, _⟩ := h
  have e' : l = p := by simpa using hl
  subst e'
  rw [hp] at n
  cases n
section
variable {P : Program} {w : World} {K : PySem.W.Frag} {mg : Str → Option Value} {base : Heap}
theorem scModulus : FnScope ["_law_pool_here"] ["_law_pool_here"] (defScope sModulus) := ⟨rfl, rfl, rfl, by decide +kernel, rfl, by decide +kernel, by decide +kernel⟩
theorem ok_modulus {f g : Addr} {fd gd : FuncData} (F : Fun K "_law_modulus" "_law_modulus" sModulus f fd) (G : FnOk P w K mg base CX0 1 g gd ["_law_pool_here", "_law_sides"] spTake) (mgG : mg "_law_take" = some (.ref g)) (kG : PySem.W.keepIn K (.ref g) = true) (bG : Binds K gd ["_law_pool_here", "_law_sides"] []) :
    FnOk P w K mg base CX0 2 f fd ["_law_pool_here"] spModulus := by
  refine F.ok scModulus (fun vs H Q E h => ?_) (fun cdv A outer s H vs Q E hr h => ?_)
  · obtain ⟨p, rfl, _⟩ := h
    rfl
  · obtain ⟨p, rfl, hp, q⟩ := h
    refine ⟨_, pss_one (ps_ret (pe_ix ix_list (pe_lst (pa_cons pe_int (pa_cons pe_int (pa_cons pe_int (pa_cons pe_int (pa_cons pe_int (pa_cons pe_int (pa_cons pe_int (pa_cons pe_int pa_nil)))))))))
      (pe_call G hr rfl mgG kG bG .nil pass0 (pa_cons (pv 0) (pa_cons pe_int pa_nil))) (fun _ _ => rfl))), ?_⟩
    refine ⟨(by show 8 ≤ sizeLine; decide), fun l hl => ⟨_, rfl, p, 8, rfl, hp.new hl, by decide, by decide, fun H' r hb hp' r0 r1 => ?_⟩⟩
    obtain ⟨m, hm, hat⟩ := at_moduli r0 r1
    refine ⟨l, _, r, .int m, rfl, rfl, SqL.of (hb.at (hp.ne hl) upd_same), hat, ?_⟩
    exact q _ _ (((But.refl _ H).new (.inl hl)).trans hb) hp' hm
theorem scLinks : FnScope ["_law_pool_here", "_law_nodes_here", "_law_most", "_law_found", "_law_turn"] ["_law_pool_here", "_law_nodes_here", "_law_most"] (defScope sLinks) := ⟨rfl, rfl, rfl, by decide +kernel, rfl, by decide +kernel, by decide +kernel⟩
theorem ok_links {f g : Addr} {fd gd : FuncData} (F : Fun K "_law_links" "_law_links" sLinks f fd) (B : Bn mg) (G : FnOk P w K mg base CX0 1 g gd ["_law_pool_here", "_law_sides"] spTake) (mgG : mg "_law_take" = some (.ref g)) (kG : PySem.W.keepIn K (.ref g) = true) (bG : Binds K gd ["_law_pool_here", "_law_sides"] []) :
    FnOk P w K mg base CX0 2 f fd ["_law_pool_here", "_law_nodes_here", "_law_most"] spLinks := by
  refine F.ok scLinks (fun vs H Q E h => ?_) (fun cdv A outer s H vs Q E hr h => ?_)
  · obtain ⟨p, n, m, rfl, _⟩ := h
    rfl
  · obtain ⟨p, n, m, rfl, hp, n0, n1, m1, q⟩ := h
    refine ⟨_, pss_cons (ps_set (i := 3) scLinks.nd rfl (Or.inl rfl) (pe_lst pa_nil))
      (pss_cons (ps_for PassesOwn.never rfl (pi_range1 rfl B.range (pa_cons (pe_call G hr rfl mgG kG bG .nil pass0 (pa_cons (pv 0) (pa_cons (pe_op op_add (pv 2) pe_int) pa_nil))) pa_nil)) (pg_name (i := 4) scLinks.nd rfl (Or.inl rfl))
        (pss_one (ps_expr (pe_bm PySem.F.plainAttrs_list PySem.F.slot_list_append PySem.F.type_list_append mt_append (pv 3) (pa_cons (pe_tup (pa_cons (pe_call G hr rfl mgG kG bG .nil pass0 (pa_cons (pv 0) (pa_cons (pv 1) pa_nil)))
          (pa_cons (pe_call G hr rfl mgG kG bG .nil pass0 (pa_cons (pv 0) (pa_cons (pv 1) pa_nil))) pa_nil))) pa_nil)))))
      (pss_one (ps_ret (pv 3)))), ?_⟩
    refine ⟨Nat.zero_le _, fun l hl => ?_⟩
    have nlp := hp.ne hl
    refine ⟨_, rfl, _, rfl, _, _, rfl, rfl, p, (m : Int) + 1, rfl, hp.new hl, by omega, by omega, fun H1 r hb1 hp1 r0 r1 => ?_⟩
    have hb1' : But [p] H H1 := ((But.refl _ H).new (.inl hl)).trans hb1
    refine ⟨r, rfl, by omega, by omega, for_range (lo := 0) (n := r.toNat) (fun i σ H' => ∃ ts ps v, σ = [some (.ref p), some (.int n), some (.int m), some (.ref l), v] ∧ But [p] H H' ∧ PoolAt H' p ∧ EdgesAt H' l ts ps ∧ Within n ps ∧ ps.length = i)
      ⟨[], [], none, rfl, hb1', hp1, ⟨hb1.at nlp upd_same, rfl, fun i t p a => by simp at a⟩, fun e he => by simp at he, rfl⟩ ?_ ?_⟩
    · rintro i σ H2 hi ⟨ts, ps, v, rfl, hb2, hp2, ⟨hl2, hps2⟩, hw2, hlen2⟩
      refine ⟨_, rfl, .inl ⟨rfl, _, SqL.of hl2⟩, ?_⟩
      refine ⟨_, rfl, _, rfl, p, (n : Int), rfl, hp2, by omega, by omega, fun H3 a hb3 hp3 a0 a1 => ?_⟩
      refine ⟨_, rfl, _, rfl, p, (n : Int), rfl, hp3, by omega, by omega, fun H4 b hb4 hp4 c0 c1 => ?_⟩
      refine ⟨(by show 2 ≤ sizeLine; decide), fun t ht => ?_⟩
      have hb24 : But [p] H2 H4 := hb3.trans hb4
      have hl4 := hb24.at nlp hl2
      refine ⟨l, _, _, rfl, rfl, (by rw [upd_ne (ne_of_none hl4 ht)]; exact hl4), ?_, ?_⟩
      · rw [List.length_map, hps2.1, hlen2]
        have h9 : i ≤ 60 := by omega
        exact Nat.lt_of_le_of_lt h9 (by decide)
      · obtain ⟨a', rfl⟩ : ∃ j : Nat, a = (j : Int) := ⟨a.toNat, (Int.toNat_of_nonneg a0).symm⟩
        obtain ⟨b', rfl⟩ : ∃ j : Nat, b = (j : Int) := ⟨b.toNat, (Int.toNat_of_nonneg c0).symm⟩
        have ntl : t ≠ l := (ne_of_none hl4 ht).symm
        have hps4 : PairsAt H4 ts ps := hps2.but hb24 hp2.notup
        refine ⟨ts ++ [t], ps ++ [(a', b')], _, rfl, ?_, ?_, ⟨?_, ?_⟩, ?_, by simp [hlen2]⟩
        · exact ((hb2.trans hb24).new (.inl ht)).new (.inr hl)
        · obtain ⟨x, y, e, y0, y1⟩ := hp4
          refine ⟨x, y, ?_, y0, y1⟩
          have npl : p ≠ l := fun z => nlp (by simp [z])
          rw [upd_ne npl, upd_ne (ne_of_none e ht)]
          exact e
        · rw [upd_same]
          simp
        · have s1 : Same H4 (upd H4 t (.tup [.int (a' : Int), .int (b' : Int)])) := same_new (Same.refl _) (.inl ht)
          have h5 : PairsAt (upd H4 t (.tup [.int (a' : Int), .int (b' : Int)])) (ts ++ [t]) (ps ++ [(a', b')]) := hps4.snoc s1 upd_same
          refine ⟨h5.1, fun i u pr e1 e2 => ?_⟩
          have h6 := h5.2 i u pr e1 e2
          have nul : u ≠ l := by
            rintro rfl
            rw [upd_ne ntl.symm, hl4] at h6
            cases h6
          rw [upd_ne nul]
          exact h6
        · intro e he
          rcases List.mem_append.mp he with he | he
          · exact hw2 e he
          · have e' : e = (a', b') := by simpa using he
            subst e'
            exact ⟨by show a' < n; omega, by show b' < n; omega⟩
    · rintro σ H2 ⟨ts, ps, v, rfl, hb2, hp2, hE, hw2, hlen2⟩
      exact ⟨_, rfl, q H2 l ts ps hb2 hp2 hl hE hw2 (by omega)⟩
end
end Wb

namespace Wb
open PySem L2
/-! ### targets and walks that the layer lacks -/
/-- o.f as a target -/
def gAttr (K : PySem.W.Frag) (to : TE) (f : Str) : TG := fun v σ H Q => to σ H fun x H1 => ∃ a C dx fs, x = .ref a ∧ H1 a = some (.ins C dx fs) ∧ Cls K C ∧ NoAttr K C f ∧ fs.length < 1000 ∧ Q σ (upd H1 a (.ins C dx (putF f v fs)))
theorem pg_attr {X : Cx} {o : Expr} {f : Str} {pos : Pos} {to : TE} (ho : PE X o to) : PG X (.Attribute o f pos) (gAttr X.K to f) := by
  refine ⟨fun pins s σ H v u Q I r h => ?_⟩
  rw [assign_Attribute]
  refine wpAny_bind (wpAny_holding (thn (ho.run pins s σ H _ I h) fun ov s1 ⟨x, H1, I1, r1, a, C, dx, fs, ex, ea, c, n, l, q⟩ => ?_))
  subst ex
  obtain rfl : ov = Value.ref a := r1
  exact wpAny_bind (wpAny_standAt (wpAny_bind (wpAny_holding (setattr_ok I1 ea c n l r fun s2 I2 => wpAny_release ⟨σ, _, I2, q⟩))))
/-- for .. in enumerate(list) -/
theorem for_enum {K : PySem.W.Frag} {a : Addr} {xs : List V} {g : TG} {tb : TS} {D : Ends} {σ : L2.St} {H : Hp} (Pv : Nat → L2.St → Hp → Prop) (h0 : Pv 0 σ H) (hl : ∀ i σ H, i ≤ xs.length → Pv i σ H → SqL K H a xs)
    (hs : ∀ i x T σ H, xs[i]? = some x → Pv i σ H → H T = none → g (.ref T) σ (upd H T (.tup [.int (i : Nat), x])) fun σ2 H2 => tb { D with nx := Pv (i + 1), ct := Pv (i + 1), bk := D.nx } σ2 H2) (hd : ∀ σ H, Pv xs.length σ H → D.nx σ H) :
    ∃ W : Nat → Nat → L2.St → Hp → Prop, (∃ m, W 0 m σ H) ∧ ∀ i m σ H, W i m σ H →
      ((Ite K a).stop i H ∧ D.nx σ H) ∨ ((Ite K a).go i H ∧ ∃ N : L2.St → Hp → Prop, (∀ σ' H', N σ' H' → ∃ m', m' < m ∧ W (i + 1) m' σ' H') ∧ ∀ x H', (Ite K a).yld i H x H' → g x σ H' fun σ2 H2 => tb { D with nx := N, ct := N, bk := D.nx } σ2 H2) := by
  refine ⟨fun i m σ H => m = xs.length - i ∧ i ≤ xs.length ∧ Pv i σ H, ⟨xs.length, by simp, Nat.zero_le _, h0⟩, ?_⟩
  rintro i m σ H ⟨rfl, hi, p⟩
  have q := hl i σ H hi p
  by_cases hlt : i < xs.length
  · refine .inr ⟨⟨xs, xs[i], q, by simp [hlt]⟩, Pv (i + 1), fun σ' H' p' => ⟨xs.length - (i + 1), by omega, rfl, hlt, p'⟩, fun x H' y => ?_⟩
    obtain ⟨T, z, rfl, hT, rfl, y⟩ := y
    exact hs i z T σ H (y xs q) p hT
  · have e : i = xs.length := by omega
    subst e
    exact .inl ⟨⟨xs, q, Nat.le_refl _⟩, hd σ H p⟩
/-! ### types of values under more heap -/
theorem tyX_same {K : PySem.W.Frag} {H H' : Hp} {x : V} {t : Value} (s : Same H H') (h : TyX K H x t) : TyX K H' x t := by
  cases h with
  | base b =>
    refine .base ?_
    cases b with
    | non => exact .non
    | bl y => exact .bl y
    | int i => exact .int i
    | str y => exact .str y
    | flt y => exact .flt y
    | lst e => exact .lst (s _ _ e)
    | frz e => exact .frz (s _ _ e)
    | tup e => exact .tup (s _ _ e)
    | dK e => exact .dK (s _ _ e)
    | dT e => exact .dT (s _ _ e)
    | ins e cl ha hn htk hm => exact .ins (s _ _ e) cl ha hn htk hm
  | byt b => exact .byt b
  | set e => exact .set (s _ _ e)
  | kList e c => exact .kList e c
  | kTuple e c => exact .kTuple e c
  | kDict e c => exact .kDict e c
  | fTuple e => exact .fTuple (s _ _ e)
  | fDict e => exact .fDict (s _ _ e)
theorem tyes {σ : L2.St} {H : Hp} {A B : Hp → Prop} (h : A H) : tYes σ H (fun b H3 => if b = true then A H3 else B H3) := by
  show if true = true then A H else B H
  rw [if_pos rfl]
  exact h
/-! ### lists of numbers -/
def ivs (l : List Nat) : List V := l.map fun (v : Nat) => V.int (v : Int)
def lab (n : Nat) (f : Nat → Nat) : List V := ivs ((List.range n).map f)
theorem ivs_at {l : List Nat} {i k : Nat} (h : l[i]? = some k) : atI (ivs l) (i : Int) = some (.int (k : Int)) := atI_nat (by unfold ivs; rw [List.getElem?_map, h]; rfl)
theorem lab_at {n : Nat} {f : Nat → Nat} {i : Nat} (h : i < n) : atI (lab n f) (i : Int) = some (.int (f i : Int)) := ivs_at (by rw [List.getElem?_map, List.getElem?_range h]; rfl)
theorem lab_len (n : Nat) (f : Nat → Nat) : (lab n f).length = n := by simp [lab, ivs]
theorem lab_get {n : Nat} {f : Nat → Nat} {i : Nat} (h : i < n) : (lab n f)[i]? = some (.int (f i : Int)) := by
  unfold lab ivs
  rw [List.getElem?_map, List.getElem?_map, List.getElem?_range h]
  rfl
theorem lab_congr {n : Nat} {f g : Nat → Nat} (h : ∀ v, v < n → f v = g v) : lab n f = lab n g := by
  unfold lab
  rw [List.map_congr_left fun v hv => h v (List.mem_range.mp hv)]
/-- the constants of the module -/
structure Cs (mg : Str → Option Value) : Prop where
  nodes : ∃ t, mg "MOST_NODES" = some (.int 30 t)
  edges : ∃ t, mg "MOST_EDGES" = some (.int 60 t)
  least : ∃ t, mg "LEAST_MODULUS" = some (.int 2 t)
  most : ∃ t, mg "MOST_MODULUS" = some (.int 60 t)
/-- a def by its name, its promise, its place: what a caller wants -/
structure Df (P : Program) (w : World) (K : PySem.W.Frag) (mg : Str → Option Value) (base : Heap) (k : Nat) (x : Str) (ps : List Str) (sp : Sp) : Prop where
  ex : ∃ (g : Addr) (gd : FuncData), FnOk P w K mg base CX0 k g gd ps sp ∧ mg x = some (.ref g) ∧ PySem.W.keepIn K (.ref g) = true ∧ Binds K gd ps []
def spIsMod (K : PySem.W.Frag) : Sp := fun vs H Q _ => ∃ (x : V) (t : Value) (b : Bool), vs = [x] ∧ TyX K H x t ∧ IntB K t b ∧ (b = false → Q (.bl false) H) ∧ (b = true → ∃ i, x = .int i ∧ Q (.bl (decide (i = 0 ∨ 2 ≤ i ∧ i ≤ 60))) H)
/-- b: x is a node below n -/
def NodeV (K : PySem.W.Frag) (H : Hp) (n : Nat) (x : V) (b : Bool) : Prop := ∃ t c, TyX K H x t ∧ IntB K t c ∧ (c = false → b = false) ∧ (c = true → ∃ i : Int, x = .int i ∧ b = decide (0 ≤ i ∧ i ≤ (n : Int) - 1))
theorem NodeV.same {K : PySem.W.Frag} {H H' : Hp} {n : Nat} {x : V} {b : Bool} (s : Same H H') (h : NodeV K H n x b) : NodeV K H' n x b := let ⟨t, c, h1, h2⟩ := h; ⟨t, c, tyX_same s h1, h2⟩
theorem NodeV.int {K : PySem.W.Frag} {H : Hp} {n v : Nat} (h : v < n) : NodeV K H n (.int (v : Int)) true := ⟨_, true, .base (.int _), intB_int, (fun z => nomatch z), fun _ => ⟨v, rfl, (decide_eq_true (by omega)).symm⟩⟩
def spIsEdge (K : PySem.W.Frag) : Sp := fun vs H Q _ => ∃ (n : Nat) (x : V), vs = [.int n, x] ∧
  ((∃ t, TyX K H x t ∧ PySem.W.kitOne K t (.type "tuple") = some false ∧ Q (.bl false) H) ∨ (∃ a xs, x = .ref a ∧ H a = some (.tup xs) ∧ xs.length ≠ 2 ∧ Q (.bl false) H) ∨
   (∃ a u v bu bv, x = .ref a ∧ H a = some (.tup [u, v]) ∧ NodeV K H n u bu ∧ NodeV K H n v bv ∧ ∀ H', Same H H' → Q (.bl (bu && bv)) H'))
def spCheck (K : PySem.W.Frag) : Sp := fun vs H Q _ => ∃ (n : Nat) (a : Addr) (ts : List Addr) (ps : List (Nat × Nat)), vs = [.int n, .ref a] ∧ EdgesAt H a ts ps ∧ Within n ps ∧ ps.length ≤ 60 ∧ ∀ H', Same H H' → Q .non H'
section
variable {P : Program} {w : World} {K : PySem.W.Frag} {mg : Str → Option Value} {base : Heap}
theorem scIsMod : FnScope ["thing"] ["thing"] (defScope sIsMod) := ⟨rfl, rfl, rfl, by decide +kernel, rfl, by decide +kernel, by decide +kernel⟩
theorem ok_ismod {f : Addr} {fd : FuncData} (F : Fun K "is_modulus" "is_modulus" sIsMod f fd) (C : Cs mg) (D : Df P w K mg base 1 "is_integer" ["thing"] (spInt K)) : FnOk P w K mg base CX0 2 f fd ["thing"] (spIsMod K) := by
  obtain ⟨g, gd, G, mgG, kG, bG⟩ := D.ex
  obtain ⟨t1, c1⟩ := C.least
  obtain ⟨t2, c2⟩ := C.most
  refine F.ok scIsMod (fun vs H Q E h => ?_) (fun cdv A outer s H vs Q E hr h => ?_)
  · obtain ⟨x, t, b, rfl, _⟩ := h
    rfl
  · obtain ⟨x, t, b, rfl, hty, hb, hf, ht⟩ := h
    refine ⟨_, pss_one (ps_ret (pe_and (pe_call G hr rfl mgG kG bG .nil pass0 (pa_cons (pv 0) pa_nil)) (pe_one (pe_or (pe_cmpR op_eq (pv 0) pe_int (nomark _))
      (pe_one (pe_chain op_le op_le (pe_glob rfl c1 (v := .int 2) ⟨_, rfl⟩) (pv 0) (pe_glob rfl c2 (v := .int 60) ⟨_, rfl⟩))))))), ?_⟩
    refine ⟨_, rfl, x, t, b, rfl, hty, hb, b, rfl, ?_⟩
    cases b with
    | false => exact iteF (hf rfl)
    | true =>
      obtain ⟨i, rfl, q⟩ := ht rfl
      refine iteT ⟨_, rfl, rfl, _, rfl, ?_⟩
      by_cases h0 : i = 0
      · subst h0
        refine if_pos (show decide (V.int 0 = V.int 0) = true from rfl) ▸ ?_
        exact q
      · have e0 : decide (V.int i = V.int 0) = false := decide_eq_false fun z => h0 (V.int.inj z)
        rw [e0]
        refine iteF ⟨_, rfl, _, _, rfl, rfl, _, rfl, ?_⟩
        refine ite2 (fun h1 => ?_) (fun h1 => ?_)
        · have h1' : 2 ≤ i := of_decide_eq_true h1
          refine ⟨_, _, rfl, rfl, ?_⟩
          have e : decide (i = 0 ∨ 2 ≤ i ∧ i ≤ 60) = decide (i ≤ 60) := by
            by_cases h2 : i ≤ 60
            · rw [decide_eq_true h2, decide_eq_true (.inr ⟨h1', h2⟩)]
            · rw [decide_eq_false h2, decide_eq_false (by omega)]
          rw [e] at q
          exact q
        · have h1' : ¬ 2 ≤ i := fun z => h1 (decide_eq_true z)
          rw [decide_eq_false (by omega)] at q
          exact q
theorem scIsEdge : FnScope ["size", "thing", "node"] ["size", "thing"] (defScope sIsEdge) := ⟨rfl, rfl, rfl, by decide +kernel, rfl, by decide +kernel, by decide +kernel⟩
theorem ok_isedge {f : Addr} {fd : FuncData} (F : Fun K "is_edge" "is_edge" sIsEdge f fd) (B : Bn mg) (D : Df P w K mg base 2 "is_between" ["thing", "low", "high"] (spBetween K)) : FnOk P w K mg base CX0 3 f fd ["size", "thing"] (spIsEdge K) := by
  obtain ⟨g, gd, G, mgG, kG, bG⟩ := D.ex
  refine F.ok scIsEdge (fun vs H Q E h => ?_) (fun cdv A outer s H vs Q E hr h => ?_)
  · obtain ⟨n, x, rfl, _⟩ := h
    rfl
  · obtain ⟨n, x, rfl, h⟩ := h
    refine ⟨_, pss_cons (ps_if (PW.pt (pw_or (pt_not (pt_val (pe_callB call_isi (by rfl) B.isinstance (by decide +kernel) (pa_cons (pv 1) (pa_cons (pe_bltn (v := .ty "tuple") (by rfl) B.tuple (by decide +kernel) rfl) pa_nil)))))
        (pw_or1 (pt_cmpR op_ne (pe_callB call_len_seq (by rfl) B.len PySem.boot_len (pa_cons (pv 1) pa_nil)) pe_int (nomark _))))) (pss_one (ps_ret pe_bl)) pss_nil)
      (pss_one (ps_ret (pe_callB (cr_all rfl) (by rfl) B.all (by decide +kernel) (pa_cons (pe_lc (own := [("node", 2)]) (g := gName 2) rfl scIsEdge.nd (pi_tup (pv 1)) (blkOk_by (N := ["size", "thing", "node"]) (sc := defScope sIsEdge) (by decide +kernel))
        (fun _ _ _ _ _ => pg_name (i := 2) scIsEdge.nd rfl (Or.inl rfl)) (fun _ _ _ _ _ => pts_nil) (fun _ _ _ _ _ => pe_call G hr rfl mgG kG bG .nil pass0 (pa_cons (pv 2) (pa_cons pe_int (pa_cons (pe_op op_sub (pv 0) pe_int) pa_nil))))) pa_nil)))), ?_⟩
    rcases h with ⟨t, hty, hk, q⟩ | ⟨a, xs, rfl, ha, hl, q⟩ | ⟨a, u, v, bu, bv, rfl, ha, hu, hv, q⟩
    · exact ⟨_, rfl, _, _, _, _, _, rfl, .ty _, hty, hk, _, rfl, iteT (iteT q)⟩
    · refine ⟨_, rfl, _, _, _, _, _, rfl, .ty _, .base (.tup ha), kit_ty (r := true) (by decide +kernel), _, rfl, iteF ⟨_, rfl, a, _, rfl, .inr (SqT.of ha), rfl, _, rfl, ?_⟩⟩
      have e : (!decide (V.int (xs.length : Int) = V.int 2)) = true := by
        rw [decide_eq_false fun z => hl (by have := V.int.inj z; omega)]
        rfl
      rw [e]
      exact iteT q
    · refine ⟨_, rfl, _, _, _, _, _, rfl, .ty _, .base (.tup ha), kit_ty (r := true) (by decide +kernel), _, rfl, iteF ⟨_, rfl, a, _, rfl, .inr (SqT.of ha), rfl, _, rfl, iteF ?_⟩⟩
      refine ⟨_, rfl, a, rfl, ⟨_, SqT.of ha⟩, fun D hD => lc_tup (xs := [u, v]) (fun i H' => Same H H' ∧ H' D = some (.lst (([bu, bv].take i).map V.bl)))
        ⟨same_new (Same.refl _) (.inl hD), upd_same⟩ (fun i H' _ ⟨s1, _⟩ => SqT.of (s1 _ _ ha)) ?_ ?_⟩
      · have one : ∀ (i : Nat) (x : V) (b : Bool) (H' : Hp), NodeV K H n x b → [bu, bv][i]? = some b → Same H H' → H' D = some (.lst (([bu, bv].take i).map V.bl)) →
            (tCall (spBetween K) [] E0 (tCons (tVar 2) (tCons (tC (.int 0)) (tCons (tOp (rI0 fun i j => .int (i - j)) (tVar 0) (tC (.int 1))) tNil)))) [some (.int n), some (.ref a), some x] H' fun y H4 => ∃ acc, H4 D = some (.lst acc) ∧ acc.length < sizeLine ∧
              (Same H (upd H4 D (.lst (acc ++ [y]))) ∧ (upd H4 D (.lst (acc ++ [y]))) D = some (.lst (([bu, bv].take (i + 1)).map V.bl))) := by
          intro i x b H' hx hb s1 hD'
          obtain ⟨t, c, h1, h2, h3, h4⟩ := hx
          have fin : ∀ b', b' = b → ∃ acc, H' D = some (.lst acc) ∧ acc.length < sizeLine ∧ (Same H (upd H' D (.lst (acc ++ [V.bl b']))) ∧ (upd H' D (.lst (acc ++ [V.bl b']))) D = some (.lst (([bu, bv].take (i + 1)).map V.bl))) := by
            rintro b' rfl
            refine ⟨_, hD', ?_, same_new s1 (.inr hD), ?_⟩
            · rw [List.length_map, List.length_take]
              exact Nat.lt_of_le_of_lt (Nat.min_le_right i 2) (by decide)
            · rw [upd_same, Wm.take_snoc hb, List.map_append]
              rfl
          refine ⟨_, rfl, _, rfl, _, _, rfl, rfl, x, 0, (n : Int) - 1, t, c, rfl, tyX_same s1 h1, h2, fun hc => ?_, fun hc => ?_⟩
          · exact fin false (h3 hc).symm
          · obtain ⟨z, rfl, e⟩ := h4 hc
            exact ⟨z, rfl, fin _ e.symm⟩
        intro i x H' hi ⟨s1, hD'⟩
        match i, hi with
        | 0, hi =>
          have e : u = x := Option.some.inj hi
          subst e
          exact ⟨rfl, tyes (one 0 u bu H' hu rfl s1 hD')⟩
        | 1, hi =>
          have e : v = x := Option.some.inj hi
          subst e
          exact ⟨rfl, tyes (one 1 v bv H' hv rfl s1 hD')⟩
      · intro H' ⟨s1, hD'⟩
        refine ⟨D, [bu, bv], rfl, SqL.of hD', ?_⟩
        have e : [bu, bv].all id = (bu && bv) := by simp
        rw [e]
        exact q H' s1
theorem scCheck : FnScope ["size", "edges", "entry"] ["size", "edges"] (defScope sCheck) := ⟨rfl, rfl, rfl, by decide +kernel, rfl, by decide +kernel, by decide +kernel⟩
theorem ok_check {f : Addr} {fd : FuncData} (F : Fun K "check_edges" "check_edges" sCheck f fd) (B : Bn mg) (C : Cs mg) (D : Df P w K mg base 3 "is_edge" ["size", "thing"] (spIsEdge K)) : FnOk P w K mg base CX0 4 f fd ["size", "edges"] (spCheck K) := by
  obtain ⟨g, gd, G, mgG, kG, bG⟩ := D.ex
  obtain ⟨t1, c1⟩ := C.edges
  refine F.ok scCheck (fun vs H Q E h => ?_) (fun cdv A outer s H vs Q E hr h => ?_)
  · obtain ⟨n, a, ts, ps, rfl, _⟩ := h
    rfl
  · obtain ⟨n, a, ts, ps, rfl, hE, hw, hl, q⟩ := h
    refine ⟨_, pss_cons (ps_if (pt_not (pt_val (pe_callB call_isiT (by rfl) B.isinstance (by decide +kernel) (pa_cons (pv 1) (pa_cons (pe_tup (pa_cons (pe_bltn (v := .ty "list") (by rfl) B.list (by decide +kernel) rfl) (pa_cons (pe_bltn (v := .ty "tuple") (by rfl) B.tuple (by decide +kernel) rfl) pa_nil))) pa_nil))))) (pss_one ps_never) pss_nil)
      (pss_cons (ps_for PassesOwn.never rfl (pi_list (pv 1)) (pg_name (i := 2) scCheck.nd rfl (Or.inl rfl)) (pss_one (ps_if (pt_not (pt_val (pe_call G hr rfl mgG kG bG .nil pass0 (pa_cons (pv 0) (pa_cons (pv 2) pa_nil))))) (pss_one ps_never) pss_nil)))
      (pss_one (ps_if (pt_cmpR op_gt (pe_callB call_len_seq (by rfl) B.len PySem.boot_len (pa_cons (pv 1) pa_nil)) (pe_glob rfl c1 (v := .int 60) ⟨_, rfl⟩) (nomark _)) (pss_one ps_never) pss_nil))), ?_⟩
    refine ⟨_, rfl, (by show 2 ≤ sizeLine; decide), fun tp htp => ⟨_, tp, _, _, _, true, rfl, upd_same, .cons (.ty _) (.cons (.ty _) .nil), .base (.lst (by rw [upd_ne (ne_of_none hE.1 htp)]; exact hE.1)), kitAny_cons (b := true) (kit_ty (by decide +kernel)) (fun z => nomatch z) (fun _ => rfl), _, rfl, iteF ?_⟩⟩
    have s0 : Same H (upd H tp (.tup [.ty "list", .ty "tuple"])) := same_new (Same.refl _) (.inl htp)
    refine ⟨_, rfl, a, rfl, ⟨_, SqL.of (s0 _ _ hE.1)⟩, for_list (K := K) (xs := ts.map V.ref) (fun i σ H' => ∃ v, σ = [some (.int n), some (.ref a), v] ∧ Same H H') ⟨none, rfl, s0⟩ (fun i σ H' _ ⟨_, _, s1⟩ => SqL.of (s1 _ _ hE.1)) ?_ ?_⟩
    · rintro i x σ H' hi ⟨v, rfl, s1⟩
      obtain ⟨t, ht, rfl⟩ : ∃ t, ts[i]? = some t ∧ x = V.ref t := by
        rw [List.getElem?_map] at hi
        cases e : ts[i]? with
        | none => rw [e] at hi; cases hi
        | some t => rw [e] at hi; exact ⟨t, rfl, (Option.some.inj hi).symm⟩
      have hi' : i < ps.length := by rw [← hE.2.1]; exact (List.getElem?_eq_some_iff.mp ht).1
      have hp : ps[i]? = some ps[i] := List.getElem?_eq_getElem hi'
      have hw' := hw ps[i] (List.getElem_mem hi')
      refine ⟨_, rfl, _, rfl, n, .ref t, rfl, .inr (.inr ⟨t, _, _, true, true, rfl, s1 _ _ (hE.2.2 i t _ ht hp), .int hw'.1, .int hw'.2, fun H2 s2 => ⟨_, rfl, iteF ⟨_, rfl, s1.trans s2⟩⟩⟩)⟩
    · rintro σ H' ⟨v, rfl, s1⟩
      refine ⟨_, rfl, a, _, rfl, .inl (SqL.of (s1 _ _ hE.1)), _, _, rfl, rfl, _, rfl, ?_⟩
      have e : decide ((60 : Int) < ((ts.map V.ref).length : Int)) = false := decide_eq_false (by rw [List.length_map, hE.2.1]; omega)
      rw [e]
      exact iteF (q H' s1)
end
end Wb

namespace Wb
open PySem L2
theorem imin (a b : Nat) : (if (b : Int) < (a : Int) then (b : Int) else (a : Int)) = ((min a b : Nat) : Int) := by
  rcases Wm.min_or a b with ⟨h, h2⟩ | ⟨h, h2⟩
  · rw [h, if_neg (by have := Nat.min_le_right a b; omega)]
  · rw [h]
    split
    · rfl
    · have := Nat.min_le_left a b
      omega
theorem imax (a b : Nat) : (if (b : Int) > (a : Int) then (b : Int) else (a : Int)) = ((max a b : Nat) : Int) := by
  rcases Wm.min_or a b with ⟨h, h2⟩ | ⟨h, h2⟩
  · rw [h2]
    split
    · rfl
    · have := Nat.le_max_left a b
      omega
  · rw [h2, if_neg (by have := Nat.le_max_right a b; omega)]
theorem dint (a b : Nat) : decide (V.int (a : Int) = V.int (b : Int)) = decide (a = b) := by
  by_cases h : a = b
  · subst h; simp
  · rw [decide_eq_false h, decide_eq_false fun z => h (by have := V.int.inj z; omega)]
theorem refs_get {ts : List Addr} {i : Nat} {x : V} (h : (ts.map V.ref)[i]? = some x) : ∃ t, ts[i]? = some t ∧ x = V.ref t := by
  rw [List.getElem?_map] at h
  cases e : ts[i]? with
  | none => rw [e] at h; cases h
  | some t => rw [e] at h; exact ⟨t, rfl, (Option.some.inj h).symm⟩
theorem ivs_get {l : List Nat} {i : Nat} {x : V} (h : (ivs l)[i]? = some x) : ∃ k, l[i]? = some k ∧ x = V.int (k : Int) := by
  unfold ivs at h
  rw [List.getElem?_map] at h
  cases e : l[i]? with
  | none => rw [e] at h; cases h
  | some t => rw [e] at h; exact ⟨t, rfl, (Option.some.inj h).symm⟩
theorem gs_same {f : Nat → Nat} {e : Nat × Nat} (h : f e.1 = f e.2) : Wm.gs f e = f := by
  funext v
  by_cases h2 : f v = max (f e.1) (f e.2)
  · rw [Wm.gs_hit h2, h2, h]
    simp
  · exact Wm.gs_miss h2
theorem rg_lab (n : Nat) : rgV 0 (n : Int) = lab n id := by
  unfold rgV lab ivs
  rw [List.map_id]
  have e : ((n : Int) - 0).toNat = n := by omega
  rw [e]
  exact List.map_congr_left fun i _ => by rw [Int.zero_add]
theorem rgOk {n : Nat} (h : n ≤ 1000) : RgOk 0 (n : Int) := RgOk.of_le (Int.le_refl _) (by omega) (by decide) (by omega)
theorem PairsAt.get {H : Hp} {ts : List Addr} {ps : List (Nat × Nat)} (h : PairsAt H ts ps) {i : Nat} {t : Addr} (ht : ts[i]? = some t) : ∃ e, ps[i]? = some e ∧ H t = some (.tup [.int e.1, .int e.2]) := by
  have hi : i < ps.length := by rw [← h.1]; exact (List.getElem?_eq_some_iff.mp ht).1
  exact ⟨ps[i], List.getElem?_eq_getElem hi, h.2 i t _ ht (List.getElem?_eq_getElem hi)⟩
theorem mem_of_get {α : Type} {l : List α} {i : Nat} {x : α} (h : l[i]? = some x) : x ∈ l := by
  obtain ⟨hi, rfl⟩ := List.getElem?_eq_some_iff.mp h
  exact List.getElem_mem hi
def spGrown : Sp := fun vs H Q _ => ∃ (n : Nat) (a : Addr) (ts : List Addr) (ps : List (Nat × Nat)), vs = [.int n, .ref a] ∧ EdgesAt H a ts ps ∧ Within n ps ∧ ps.length ≤ 60 ∧ n ≤ 30 ∧
  ∀ H' t nl fl, Same H H' → H' t = some (.tup [.ref nl, .ref fl]) → H nl = none → H fl = none → H' nl = some (.lst (ivs (Wm.nums ps ps.length))) → H' fl = some (.lst (lab n (Wm.F ps))) → Q (.ref t) H'
section
variable {P : Program} {w : World} {K : PySem.W.Frag} {mg : Str → Option Value} {base : Heap}
theorem scGrown : FnScope ["size", "pairs", "numbers", "firsts", "number", "tail", "head", "low", "high", "first"] ["size", "pairs"] (defScope sGrown) := ⟨rfl, rfl, rfl, by decide +kernel, rfl, by decide +kernel, by decide +kernel⟩
theorem ok_grown {f : Addr} {fd : FuncData} (F : Fun K "grown_forest" "grown_forest" sGrown f fd) (B : Bn mg) : FnOk P w K mg base CX0 1 f fd ["size", "pairs"] spGrown := by
  refine F.ok scGrown (fun vs H Q E h => ?_) (fun cdv A outer s H vs Q E hr h => ?_)
  · obtain ⟨n, a, ts, ps, rfl, _⟩ := h
    rfl
  · obtain ⟨n, a, ts, ps, rfl, hE, hw, hl, hn, q⟩ := h
    refine ⟨_, pss_cons (ps_set (i := 2) scGrown.nd rfl (Or.inl rfl) (pe_lst pa_nil))
      (pss_cons (ps_set (i := 3) scGrown.nd rfl (Or.inl rfl) (pe_listRg rfl rfl B.list (prg_1 rfl B.range (pv 0))))
      (pss_cons (ps_for PassesOwn.never rfl (pi_enum rfl B.enumerate (pa_cons (pv 1) pa_nil))
          (pg_tup rfl (pgs_cons (pg_name (i := 4) scGrown.nd rfl (Or.inl rfl)) (pgs_cons (pg_tup rfl (pgs_cons (pg_name (i := 5) scGrown.nd rfl (Or.inl rfl)) (pgs_cons (pg_name (i := 6) scGrown.nd rfl (Or.inl rfl)) pgs_nil))) pgs_nil)))
        (pss_one (ps_if (pt_cmpR op_ne (pe_ix ix_list (pv 3) (pv 5) (fun _ _ => rfl)) (pe_ix ix_list (pv 3) (pv 6) (fun _ _ => rfl)) (nomark _))
          (pss_cons (ps_expr (pe_bm PySem.F.plainAttrs_list PySem.F.slot_list_append PySem.F.type_list_append mt_append (pv 2) (pa_cons (pv 4) pa_nil)))
          (pss_cons (ps_set (i := 7) scGrown.nd rfl (Or.inr rfl) (pe_callB (call_min2 rfl) (by rfl) B.min (by decide +kernel) (pa_cons (pe_ix ix_list (pv 3) (pv 5) (fun _ _ => rfl)) (pa_cons (pe_ix ix_list (pv 3) (pv 6) (fun _ _ => rfl)) pa_nil))))
          (pss_cons (ps_set (i := 8) scGrown.nd rfl (Or.inr rfl) (pe_callB (call_max2 rfl) (by rfl) B.max (by decide +kernel) (pa_cons (pe_ix ix_list (pv 3) (pv 5) (fun _ _ => rfl)) (pa_cons (pe_ix ix_list (pv 3) (pv 6) (fun _ _ => rfl)) pa_nil))))
          (pss_one (ps_setLc (i := 3) (own := [("first", 9)]) (g := gName 9) rfl scGrown.nd rfl rfl (sw_true rfl rfl rfl (by decide +kernel)) (pi_list (pv 3)) (blkOk_by (N := ["size", "pairs", "numbers", "firsts", "number", "tail", "head", "low", "high", "first"]) (sc := defScope sGrown) (by decide +kernel))
            (fun _ _ _ _ _ => pg_name (i := 9) scGrown.nd rfl (Or.inl rfl)) (fun _ _ _ _ _ => pts_nil) (fun _ _ _ _ _ => pe_ifExp (pt_cmpR op_eq (pv 9) (pv 8) (nomark _)) (pv 7) (pv 9))))))) pss_nil)))
      (pss_one (ps_ret (pe_tup (pa_cons (pv 2) (pa_cons (pv 3) pa_nil))))))), ?_⟩
    refine ⟨Nat.zero_le _, fun nl hnl => ?_⟩
    refine ⟨_, rfl, _, rfl, rgOk (by omega), fun fl hfl => ?_⟩
    rw [rg_lab]
    have hfl0 : H fl = none := (same_new (Same.refl H) (.inl hnl)).free hfl
    have nfn : nl ≠ fl := fun z => by rw [← z, upd_same] at hfl; cases hfl
    have s0 : Same H (upd (upd H nl (.lst [])) fl (.lst (lab n id))) := same_new (same_new (Same.refl H) (.inl hnl)) (.inr hfl0)
    refine ⟨_, rfl, a, _, rfl, SqL.of (s0 _ _ hE.1), for_enum (K := K) (xs := ts.map V.ref) (fun i σ H' => ∃ fl v4 v5 v6 v7 v8, σ = [some (.int n), some (.ref a), some (.ref nl), some (.ref fl), v4, v5, v6, v7, v8, none] ∧ Same H H' ∧ H fl = none ∧ nl ≠ fl ∧
        H' nl = some (.lst (ivs (Wm.nums ps i))) ∧ H' fl = some (.lst (lab n (Wm.F (ps.take i)))))
      ⟨fl, none, none, none, none, none, rfl, s0, hfl0, nfn, by rw [upd_ne nfn, upd_same]; rfl, upd_same⟩ (fun i σ H' _ ⟨_, _, _, _, _, _, _, s1, _⟩ => SqL.of (s1 _ _ hE.1)) ?_ ?_⟩
    · rintro i x T σ H1 hi ⟨fl, v4, v5, v6, v7, v8, rfl, s1, hfl0, nfn, h1n, h1f⟩ hT
      obtain ⟨t, ht, rfl⟩ := refs_get hi
      obtain ⟨e, he, het⟩ := (hE.2.same s1).get ht
      have hwe := hw e (mem_of_get he)
      have hi60 : i < ps.length := (List.getElem?_eq_some_iff.mp he).1
      have s2 : Same H1 (upd H1 T (.tup [.int (i : Nat), .ref t])) := same_new (Same.refl H1) (.inl hT)
      have h2n := s2 _ _ h1n
      have h2f := s2 _ _ h1f
      have s02 := s1.trans s2
      generalize hH2 : upd H1 T (.tup [.int (i : Nat), .ref t]) = H2 at *
      refine ⟨T, _, rfl, SqT.of (by rw [← hH2]; exact upd_same), rfl, _, _, rfl, _, _, rfl, t, _, rfl, SqT.of (s2 _ _ het), rfl, _, _, rfl, _, _, rfl, rfl, rfl, ?_⟩
      have hF := Wm.root_F i ps
      generalize hf : Wm.F (ps.take i) = f at *
      have hF' : Wm.F (ps.take (i + 1)) = Wm.gs f e := by rw [Wm.take_snoc he, Wm.F_snoc, hf]
      refine ⟨_, rfl, _, rfl, fl, _, _, _, rfl, rfl, SqL.of h2f, lab_at hwe.1, _, rfl, _, rfl, fl, _, _, _, rfl, rfl, SqL.of h2f, lab_at hwe.2, rfl, _, rfl, ?_⟩
      rw [dint]
      by_cases hd : f e.1 = f e.2
      · rw [decide_eq_true hd]
        refine iteF ?_
        refine ⟨fl, _, _, _, _, _, rfl, s02, hfl0, nfn, ?_, ?_⟩
        · rw [Wm.nums_succ, if_neg]
          · exact h2n
          · unfold Wm.grows
            rw [Wm.at2_get he, hf]
            simp [hd]
        · rw [hF', gs_same hd]
          exact h2f
      · rw [decide_eq_false hd]
        refine iteT ?_
        have hg : Wm.grows ps i = true := by
          unfold Wm.grows
          rw [Wm.at2_get he, hf]
          simp [hd]
        refine ⟨_, rfl, .inl ⟨rfl, _, SqL.of h2n⟩, _, rfl, nl, _, _, rfl, rfl, h2n, ?_, ?_⟩
        · unfold ivs
          rw [List.length_map]
          have hle : (Wm.nums ps i).length ≤ i := by
            unfold Wm.nums
            exact Nat.le_trans (List.length_filter_le _ _) (by rw [List.length_range]; exact Nat.le_refl _)
          exact small1000 (by omega)
        · have h3f : upd H2 nl (.lst (ivs (Wm.nums ps i) ++ [.int (i : Nat)])) fl = some (.lst (lab n f)) := by rw [upd_ne nfn.symm]; exact h2f
          have s03 : Same H (upd H2 nl (.lst (ivs (Wm.nums ps i) ++ [.int (i : Nat)]))) := same_new s02 (.inr hnl)
          generalize hH3 : upd H2 nl (.lst (ivs (Wm.nums ps i) ++ [.int (i : Nat)])) = H3 at *
          have h3n : H3 nl = some (.lst (ivs (Wm.nums ps (i + 1)))) := by
            rw [← hH3, upd_same, Wm.nums_succ, if_pos hg]
            unfold ivs
            rw [List.map_append]
            rfl
          refine ⟨_, rfl, _, rfl, fl, _, _, _, rfl, rfl, SqL.of h3f, lab_at hwe.1, _, rfl, _, rfl, fl, _, _, _, rfl, rfl, SqL.of h3f, lab_at hwe.2, _, _, rfl, ?_⟩
          rw [imin]
          refine ⟨_, rfl, _, rfl, fl, _, _, _, rfl, rfl, SqL.of h3f, lab_at hwe.1, _, rfl, _, rfl, fl, _, _, _, rfl, rfl, SqL.of h3f, lab_at hwe.2, _, _, rfl, ?_⟩
          rw [imax]
          refine ⟨_, rfl, fl, rfl, ⟨_, SqL.of h3f⟩, fun D hD => lc_list (K := K) (xs := lab n f) (fun j H' => Same H3 H' ∧ H' D = some (.lst ((lab n (Wm.gs f e)).take j)))
            ⟨same_new (Same.refl _) (.inl hD), upd_same⟩ (fun j H' _ ⟨s4, _⟩ => SqL.of (s4 _ _ h3f)) ?_ ?_⟩
          · rintro j x H4 hj ⟨s4, h4⟩
            have hjn : j < n := by have := (List.getElem?_eq_some_iff.mp hj).1; rw [lab_len] at this; exact this
            have ex : x = .int (f j : Int) := by rw [lab_get hjn] at hj; exact (Option.some.inj hj).symm
            subst ex
            refine ⟨rfl, tyes ?_⟩
            have fin : ∀ z : V, z = .int (Wm.gs f e j : Int) → ∃ acc, H4 D = some (.lst acc) ∧ acc.length < sizeLine ∧ (Same H3 (upd H4 D (.lst (acc ++ [z]))) ∧ (upd H4 D (.lst (acc ++ [z]))) D = some (.lst ((lab n (Wm.gs f e)).take (j + 1)))) := by
              rintro z rfl
              refine ⟨_, h4, ?_, same_new s4 (.inr hD), ?_⟩
              · rw [List.length_take, lab_len]
                exact small1000 (by have := Nat.min_le_right j n; omega)
              · rw [upd_same, Wm.take_snoc (lab_get hjn)]
            refine ⟨_, rfl, _, rfl, rfl, _, rfl, ?_⟩
            rw [dint]
            by_cases hm : f j = max (f e.1) (f e.2)
            · rw [decide_eq_true hm]
              exact iteT ⟨_, rfl, fin _ (by rw [Wm.gs_hit hm])⟩
            · rw [decide_eq_false hm]
              exact iteF ⟨_, rfl, fin _ (by rw [Wm.gs_miss hm])⟩
          · rintro H4 ⟨s4, h4⟩
            have e4 : (lab n (Wm.gs f e)).take (lab n f).length = lab n (Wm.gs f e) := by rw [List.take_of_length_le (by rw [lab_len, lab_len]; exact Nat.le_refl _)]
            rw [e4] at h4
            refine ⟨D, _, _, _, _, _, rfl, s03.trans s4, s03.free hD, ?_, s4 _ _ h3n, ?_⟩
            · rintro rfl
              rw [h3n] at hD
              cases hD
            · rw [hF']
              exact h4
    · rintro σ H1 ⟨fl, v4, v5, v6, v7, v8, rfl, s1, hfl0, nfn, h1n, h1f⟩
      have el : (ts.map V.ref).length = ps.length := by rw [List.length_map]; exact hE.2.1
      rw [el] at h1n h1f
      rw [List.take_length] at h1f
      refine ⟨_, rfl, _, rfl, (by show 2 ≤ sizeLine; decide), fun t ht => ?_⟩
      have s2 : Same H1 (upd H1 t (.tup [.ref nl, .ref fl])) := same_new (Same.refl _) (.inl ht)
      exact q _ t nl fl (s1.trans s2) upd_same hnl hfl0 (s2 _ _ h1n) (s2 _ _ h1f)
end
end Wb

namespace Wb
open PySem L2
/-! ### ties -/
def TiesI (H0 H : Hp) (D : Addr) (n b : Nat) : Prop := ∃ ls : List Addr, H D = some (.lst (ls.map V.ref)) ∧ ls.length = n ∧ ∀ l ∈ ls, H0 l = none ∧ l ≠ D ∧ ∃ xs, H l = some (.lst xs) ∧ xs.length ≤ b
theorem TiesI.same {H0 H H' : Hp} {D : Addr} {n b : Nat} (h : TiesI H0 H D n b) (s : Same H H') : TiesI H0 H' D n b := by
  obtain ⟨ls, h1, h2, h3⟩ := h
  refine ⟨ls, s _ _ h1, h2, fun l hl => ?_⟩
  obtain ⟨a1, a2, xs, a3, a4⟩ := h3 l hl
  exact ⟨a1, a2, xs, s _ _ a3, a4⟩
/-- the list at place i, one item more -/
theorem TiesI.grow {H0 H : Hp} {D : Addr} {n b i : Nat} (h : TiesI H0 H D n b) (hi : i < n) : ∃ (vs : List V) (l : Addr) (xs : List V), H D = some (.lst vs) ∧ atI vs (i : Int) = some (.ref l) ∧ H l = some (.lst xs) ∧ xs.length ≤ b ∧ H0 l = none ∧
    ∀ H' y, Same H H' → TiesI H0 (upd H' l (.lst (xs ++ [y]))) D n (b + 1) := by
  obtain ⟨ls, h1, h2, h3⟩ := h
  have hi' : i < ls.length := by rw [h2]; exact hi
  have hm : ls[i] ∈ ls := List.getElem_mem hi'
  obtain ⟨a1, a2, xs, a3, a4⟩ := h3 _ hm
  refine ⟨_, ls[i], xs, h1, atI_nat (by rw [List.getElem?_map, List.getElem?_eq_getElem hi']; rfl), a3, a4, a1, fun H' y s => ⟨ls, ?_, h2, fun l hl => ?_⟩⟩
  · rw [upd_ne (Ne.symm a2)]
    exact s _ _ h1
  · obtain ⟨c1, c2, zs, c3, c4⟩ := h3 l hl
    refine ⟨c1, c2, ?_⟩
    by_cases e : l = ls[i]
    · rw [e]
      exact ⟨_, upd_same, by rw [List.length_append]; exact Nat.add_le_add_right a4 1⟩
    · exact ⟨zs, by rw [upd_ne e]; exact s _ _ c3, Nat.le_succ_of_le c4⟩
def spTies : Sp := fun vs H Q _ => ∃ (n : Nat) (a nl : Addr) (ts : List Addr) (ps : List (Nat × Nat)) (ks : List Nat), vs = [.int n, .ref a, .ref nl] ∧ EdgesAt H a ts ps ∧ Within n ps ∧ n ≤ 30 ∧ H nl = some (.lst (ivs ks)) ∧ (∀ k ∈ ks, k < ps.length) ∧ ks.length ≤ 60 ∧
  ∀ H' p, Same H H' → H p = none → Q (.ref p) H'
/-! ### groups as they lie in a heap: all new since H0 -/
def GroupsAt (H0 H : Hp) (a : Addr) (gs : List (List Nat)) : Prop := ∃ ls : List Addr, H a = some (.lst (ls.map V.ref)) ∧ ls.length = gs.length ∧ H0 a = none ∧
  (∀ (i : Nat) (l : Addr) (g : List Nat), ls[i]? = some l → gs[i]? = some g → H l = some (.lst (ivs g))) ∧ ∀ l ∈ ls, H0 l = none ∧ l ≠ a
theorem GroupsAt.same {H0 H H' : Hp} {a : Addr} {gs : List (List Nat)} (h : GroupsAt H0 H a gs) (s : Same H H') : GroupsAt H0 H' a gs := by
  obtain ⟨ls, h1, h2, h3, h4, h5⟩ := h
  exact ⟨ls, s _ _ h1, h2, h3, fun i l g e1 e2 => s _ _ (h4 i l g e1 e2), h5⟩
theorem GroupsAt.back {H00 H0 H : Hp} {a : Addr} {gs : List (List Nat)} (h : GroupsAt H0 H a gs) (s : Same H00 H0) : GroupsAt H00 H a gs := by
  obtain ⟨ls, h1, h2, h3, h4, h5⟩ := h
  exact ⟨ls, h1, h2, s.free h3, h4, fun l hl => ⟨s.free (h5 l hl).1, (h5 l hl).2⟩⟩
theorem GroupsAt.nil {H0 H : Hp} {a : Addr} (h : H0 a = none) : GroupsAt H0 (upd H a (.lst [])) a [] := ⟨[], upd_same, rfl, h, fun i l g e _ => by simp at e, fun l hl => by simp at hl⟩
/-- one group more -/
theorem GroupsAt.snoc {H0 H H' : Hp} {a p : Addr} {gs : List (List Nat)} {g : List Nat} (h : GroupsAt H0 H a gs) (s : Same H H') (hp : H p = none) (hp' : H' p = some (.lst (ivs g))) :
    ∃ ls : List Addr, H' a = some (.lst (ls.map V.ref)) ∧ ls.length = gs.length ∧ ∀ (_ : Same H0 H), GroupsAt H0 (upd H' a (.lst (ls.map V.ref ++ [.ref p]))) a (gs ++ [g]) := by
  obtain ⟨ls, h1, h2, h3, h4, h5⟩ := h
  refine ⟨ls, s _ _ h1, h2, fun s0 => ⟨ls ++ [p], by rw [upd_same]; simp, by simp [h2], h3, fun i l d e1 e2 => ?_, fun l hl => ?_⟩⟩
  · have npa : p ≠ a := by
      rintro rfl
      rw [h1] at hp
      cases hp
    by_cases hi : i < ls.length
    · rw [List.getElem?_append_left hi] at e1
      rw [List.getElem?_append_left (by rw [← h2]; exact hi)] at e2
      have q := h4 i l d e1 e2
      rw [upd_ne (h5 l (mem_of_get e1)).2]
      exact s _ _ q
    · have e : i = ls.length := by
        have := (List.getElem?_eq_some_iff.mp e1).1
        simp at this
        omega
      subst e
      rw [List.getElem?_append_right (Nat.le_refl _)] at e1
      rw [h2, List.getElem?_append_right (Nat.le_refl _)] at e2
      simp at e1 e2
      subst e1 e2
      rw [upd_ne npa]
      exact hp'
  · rcases List.mem_append.mp hl with hl | hl
    · exact h5 l hl
    · have e : l = p := by simpa using hl
      subst e
      refine ⟨s0.free hp, ?_⟩
      rintro rfl
      rw [h1] at hp
      cases hp
/-- the scope of a list comprehension's block; what a return hands back -/
def lcScope : Expr → Scope
  | .ListComp _ _ sc _ => sc
  | _ => { kind := .function, names := [], isGenerator := false, isCoroutine := false }
def retE : Stmt → Expr
  | .Return (some e) _ => e
  | _ => .Name "" ⟨0, 0, 0, 0⟩
def spGroups : Sp := fun vs H Q _ => ∃ (n : Nat) (a : Addr) (ts : List Addr) (ps : List (Nat × Nat)), vs = [.int n, .ref a] ∧ EdgesAt H a ts ps ∧ Within n ps ∧ ps.length ≤ 60 ∧ n ≤ 30 ∧
  ∀ H' p, Same H H' → GroupsAt H H' p (Wm.groups n (Wm.F ps)) → Q (.ref p) H'
theorem lab_set (n : Nat) (f : Nat → Nat) (i m : Nat) : (lab n f).set i (.int (m : Int)) = lab n fun v => if v = i then m else f v := by
  apply List.ext_getElem?
  intro j
  by_cases hj : j < n
  · rw [lab_get hj]
    by_cases e : i = j
    · subst e
      rw [List.getElem?_set_self (by rw [lab_len]; exact hj), if_pos rfl]
    · rw [List.getElem?_set_ne e, lab_get hj, if_neg (Ne.symm e)]
  · rw [List.getElem?_eq_none (by rw [List.length_set, lab_len]; omega), List.getElem?_eq_none (by rw [lab_len]; omega)]
theorem ixN_nat' {n j : Nat} (hj : j < n) : ixN n (j : Int) = some j := by
  unfold ixN
  rw [if_pos (by omega), if_pos (by omega)]
  simp
theorem flat_ivs (l : List Nat) : (ivs l).all flatV = true := by
  unfold ivs
  rw [List.all_map]
  exact List.all_eq_true.mpr fun _ _ => rfl
theorem inV_ivs (a : Nat) : ∀ l : List Nat, inV (.int (a : Int)) (ivs l) = decide (a ∈ l)
  | [] => rfl
  | b :: l => by
    have ih := inV_ivs a l
    have e : inV (.int (a : Int)) (ivs (b :: l)) = (((b : Int) == (a : Int)) || inV (.int (a : Int)) (ivs l)) := rfl
    rw [e, ih]
    by_cases h : a = b
    · subst h; simp
    · have h2 : ((b : Int) == (a : Int)) = false := beq_eq_false_iff_ne.mpr (by omega)
      rw [h2, Bool.false_or]
      simp [h]
theorem range_filter_succ (p : Nat → Bool) (k : Nat) : (List.range (k + 1)).filter p = if p k = true then (List.range k).filter p ++ [k] else (List.range k).filter p := by
  rw [List.range_succ, List.filter_append]
  cases h : p k with
  | true => simp [h]
  | false => simp [h]
theorem filter_len (p : Nat → Bool) (k : Nat) : ((List.range k).filter p).length ≤ k := Nat.le_trans (List.length_filter_le _ _) (by rw [List.length_range]; exact Nat.le_refl _)
section
variable {P : Program} {w : World} {K : PySem.W.Frag} {mg : Str → Option Value} {base : Heap}
theorem scTies : FnScope ["size", "pairs", "numbers", "ties", "number", "tail", "head", "node"] ["size", "pairs", "numbers"] (defScope sTies) := ⟨rfl, rfl, rfl, by decide +kernel, rfl, by decide +kernel, by decide +kernel⟩
theorem ok_ties {f : Addr} {fd : FuncData} (F : Fun K "ties_of" "ties_of" sTies f fd) (B : Bn mg) : FnOk P w K mg base CX0 1 f fd ["size", "pairs", "numbers"] spTies := by
  refine F.ok scTies (fun vs H Q E h => ?_) (fun cdv A outer s H vs Q E hr h => ?_)
  · obtain ⟨n, a, nl, ts, ps, ks, rfl, _⟩ := h
    rfl
  · obtain ⟨n, a, nl, ts, ps, ks, rfl, hE, hw, hn, hnl, hk, hkl, q⟩ := h
    refine ⟨_, pss_cons (ps_setLc (i := 3) (own := [("node", 7)]) (g := gName 7) rfl scTies.nd rfl rfl (sw_true rfl rfl rfl (by decide +kernel)) (pi_range1 rfl B.range (pa_cons (pv 0) pa_nil)) (blkOk_by (N := ["size", "pairs", "numbers", "ties", "number", "tail", "head", "node"]) (sc := defScope sTies) (by decide +kernel))
            (fun _ _ _ _ _ => pg_name (i := 7) scTies.nd rfl (Or.inl rfl)) (fun _ _ _ _ _ => pts_nil) (fun _ _ _ _ _ => pe_lst pa_nil))
      (pss_cons (ps_for PassesOwn.never rfl (pi_list (pv 2)) (pg_name (i := 4) scTies.nd rfl (Or.inl rfl))
        (pss_cons (ps_asg (pe_ix ix_list (pv 1) (pv 4) (fun _ _ => rfl)) (pg_tup rfl (pgs_cons (pg_name (i := 5) scTies.nd rfl (Or.inl rfl)) (pgs_cons (pg_name (i := 6) scTies.nd rfl (Or.inl rfl)) pgs_nil))))
        (pss_cons (ps_expr (pe_bm PySem.F.plainAttrs_list PySem.F.slot_list_append PySem.F.type_list_append mt_append (pe_ix ix_list (pv 3) (pv 5) (fun _ _ => rfl)) (pa_cons (pe_tup (pa_cons (pe_tup (pa_cons (pv 4) (pa_cons pe_int pa_nil))) (pa_cons (pv 6) pa_nil))) pa_nil)))
        (pss_one (ps_expr (pe_bm PySem.F.plainAttrs_list PySem.F.slot_list_append PySem.F.type_list_append mt_append (pe_ix ix_list (pv 3) (pv 6) (fun _ _ => rfl)) (pa_cons (pe_tup (pa_cons (pe_tup (pa_cons (pv 4) (pa_cons (pe_un un_neg pe_int) pa_nil))) (pa_cons (pv 5) pa_nil))) pa_nil)))))))
      (pss_one (ps_ret (pv 3)))), ?_⟩
    refine ⟨_, rfl, n, rfl, by omega, by omega, fun D hD => lc_range (lo := 0) (n := (n : Int).toNat) (fun i H' => Same H H' ∧ TiesI H H' D i 0)
      ⟨same_new (Same.refl _) (.inl hD), [], upd_same, rfl, fun l hl => by simp at hl⟩ ?_ ?_⟩
    · rintro i H1 hi ⟨s1, ls, h1, h2, h3⟩
      refine ⟨rfl, tyes ?_⟩
      refine ⟨Nat.zero_le _, fun l hl => ?_⟩
      have h1' : upd H1 l (.lst []) D = some (.lst (ls.map V.ref)) := by rw [upd_ne (ne_of_none h1 hl)]; exact h1
      have nlD : l ≠ D := (ne_of_none h1 hl).symm
      refine ⟨_, h1', ?_, same_new (same_new s1 (.inl hl)) (.inr hD), ls ++ [l], by rw [upd_same]; simp, by simp [h2], fun m hm => ?_⟩
      · rw [List.length_map, h2]
        exact small1000 (by omega)
      · rcases List.mem_append.mp hm with hm | hm
        · obtain ⟨a1, a2, xs, a3, a4⟩ := h3 m hm
          exact ⟨a1, a2, xs, by rw [upd_ne a2, upd_ne (ne_of_none a3 hl)]; exact a3, a4⟩
        · have e : m = l := by simpa using hm
          subst e
          exact ⟨s1.free hl, nlD, [], by rw [upd_ne nlD, upd_same], Nat.le_refl _⟩
    · rintro H1 ⟨s1, T1⟩
      have en : (n : Int).toNat = n := by omega
      rw [en] at T1
      refine ⟨_, rfl, nl, rfl, ⟨_, SqL.of (s1 _ _ hnl)⟩, for_list (K := K) (xs := ivs ks) (fun i σ H' => ∃ v4 v5 v6, σ = [some (.int n), some (.ref a), some (.ref nl), some (.ref D), v4, v5, v6, none] ∧ Same H H' ∧ TiesI H H' D n (2 * i))
        ⟨none, none, none, rfl, s1, T1⟩ (fun i σ H' _ ⟨_, _, _, _, s2, _⟩ => SqL.of (s2 _ _ hnl)) ?_ ?_⟩
      · rintro i x σ H2 hi ⟨v4, v5, v6, rfl, s2, T2⟩
        obtain ⟨k, hk1, rfl⟩ := ivs_get hi
        have hkp := hk k (mem_of_get hk1)
        have hi60 : i < ks.length := (List.getElem?_eq_some_iff.mp hk1).1
        obtain ⟨tk, ht⟩ : ∃ tk, ts[k]? = some tk := ⟨_, List.getElem?_eq_getElem (show k < ts.length by rw [hE.2.1]; exact hkp)⟩
        obtain ⟨e, he, het⟩ := (hE.2.same s2).get ht
        have hwe := hw e (mem_of_get he)
        refine ⟨_, rfl, _, rfl, a, _, _, .ref tk, rfl, rfl, SqL.of (s2 _ _ hE.1), atI_nat (by rw [List.getElem?_map, ht]; rfl), _, _, rfl, SqT.of het, rfl, _, _, rfl, _, _, rfl, rfl, ?_⟩
        obtain ⟨vs1, l1, xs1, g1, g2, g3, g4, g5, g6⟩ := T2.grow hwe.1
        refine ⟨_, rfl, _, rfl, D, _, _, .ref l1, rfl, rfl, SqL.of g1, g2, .inl ⟨rfl, _, SqL.of g3⟩, ?_⟩
        refine ⟨_, rfl, (by show 2 ≤ sizeLine; decide), fun t1 ht1 => ⟨_, rfl, (by show 2 ≤ sizeLine; decide), fun t2 ht2 => ?_⟩⟩
        have s3 : Same H2 (upd (upd H2 t1 (.tup [.int (k : Int), .int 1])) t2 (.tup [.ref t1, .int (e.2 : Int)])) := same_new (same_new (Same.refl _) (.inl ht1)) (.inl ht2)
        refine ⟨l1, _, _, rfl, rfl, s3 _ _ g3, small1000 (by omega), ?_⟩
        have T3 := g6 _ (V.ref t2) s3
        have s03 := same_new (o := .lst (xs1 ++ [V.ref t2])) (s2.trans s3) (.inr g5)
        generalize upd (upd (upd H2 t1 (.tup [.int (k : Int), .int 1])) t2 (.tup [.ref t1, .int (e.2 : Int)])) l1 (.lst (xs1 ++ [V.ref t2])) = H3 at *
        obtain ⟨vs2, l2, xs2, k1, k2, k3, k4, k5, k6⟩ := T3.grow hwe.2
        refine ⟨_, rfl, _, rfl, D, _, _, .ref l2, rfl, rfl, SqL.of k1, k2, .inl ⟨rfl, _, SqL.of k3⟩, ?_⟩
        refine ⟨_, rfl, _, rfl, (by show 2 ≤ sizeLine; decide), fun t3 ht3 => ⟨_, rfl, (by show 2 ≤ sizeLine; decide), fun t4 ht4 => ?_⟩⟩
        have s4 : Same H3 (upd (upd H3 t3 (.tup [.int (k : Int), .int (-1)])) t4 (.tup [.ref t3, .int (e.1 : Int)])) := same_new (same_new (Same.refl _) (.inl ht3)) (.inl ht4)
        refine ⟨l2, _, _, rfl, rfl, s4 _ _ k3, small1000 (by omega), ?_⟩
        refine ⟨_, _, _, rfl, same_new (s03.trans s4) (.inr k5), ?_⟩
        have T5 := k6 _ (V.ref t4) s4
        have eb : 2 * i + 1 + 1 = 2 * (i + 1) := by omega
        rw [eb] at T5
        exact T5
      · rintro σ H2 ⟨v4, v5, v6, rfl, s2, T2⟩
        exact ⟨_, rfl, q H2 D s2 hD⟩
end
end Wb

namespace Wb
open PySem L2
/-! ### fields -/
theorem putF_new {f : Str} {v : V} : ∀ {fs : List (Str × V)} {ks : List Str}, fs.map (·.1) = ks → (ks.all fun k => decide (k ≠ f)) = true → putF f v fs = fs ++ [(f, v)]
  | [], _, _, _ => rfl
  | (g, x) :: fs, ks, h, hk => by
    subst h
    simp only [List.map_cons, List.all_cons, Bool.and_eq_true, decide_eq_true_eq] at hk
    have ih := putF_new (f := f) (v := v) (fs := fs) rfl hk.2
    show (if g = f then (g, v) :: fs else (g, x) :: putF f v fs) = _
    rw [if_neg hk.1, ih]
    rfl
theorem lk_here {k : Str} {v : V} {r : List (Str × V)} : List.lookup k ((k, v) :: r) = some v := by
  have e : (k == k) = true := beq_self_eq_true k
  simp only [List.lookup, e]
theorem lk_past {k g : Str} {v : V} {r : List (Str × V)} (h : (k == g) = false) : List.lookup k ((g, v) :: r) = List.lookup k r := by
  simp only [List.lookup, h]
def wf (n : Nat) (le : Addr) (m : Int) (lf lfn lt : Addr) : List (Str × V) := [("node_count", .int n), ("edge_pairs", .ref le), ("gain_modulus", .int m), ("forest_numbers", .ref lf), ("first_nodes", .ref lfn), ("forest_ties", .ref lt)]
section
variable (n : Nat) (le : Addr) (m : Int) (lf lfn lt : Addr)
theorem wf_count : (wf n le m lf lfn lt).lookup ("node_count" : Str) = some (.int n) := lk_here
theorem wf_pairs : (wf n le m lf lfn lt).lookup ("edge_pairs" : Str) = some (.ref le) := (lk_past (by decide +kernel)).trans lk_here
theorem wf_mod : (wf n le m lf lfn lt).lookup ("gain_modulus" : Str) = some (.int m) := (lk_past (by decide +kernel)).trans ((lk_past (by decide +kernel)).trans lk_here)
theorem wf_nums : (wf n le m lf lfn lt).lookup ("forest_numbers" : Str) = some (.ref lf) := (lk_past (by decide +kernel)).trans ((lk_past (by decide +kernel)).trans ((lk_past (by decide +kernel)).trans lk_here))
theorem wf_firsts : (wf n le m lf lfn lt).lookup ("first_nodes" : Str) = some (.ref lfn) := (lk_past (by decide +kernel)).trans ((lk_past (by decide +kernel)).trans ((lk_past (by decide +kernel)).trans ((lk_past (by decide +kernel)).trans lk_here)))
theorem wf_none {k : Str} (h : (["node_count", "edge_pairs", "gain_modulus", "forest_numbers", "first_nodes", "forest_ties"] : List Str).all (fun g => !(k == g)) = true) : (wf n le m lf lfn lt).lookup k = none := by
  simp only [List.all_cons, List.all_nil, Bool.and_eq_true, Bool.not_eq_true', Bool.and_true] at h
  obtain ⟨h1, h2, h3, h4, h5, h6⟩ := h
  unfold wf
  rw [lk_past h1, lk_past h2, lk_past h3, lk_past h4, lk_past h5, lk_past h6]
  rfl
end
def f1 (n : Nat) : List (Str × V) := [("node_count", .int n)]
def f2 (n : Nat) (D : Addr) : List (Str × V) := [("node_count", .int n), ("edge_pairs", .ref D)]
def f3 (n : Nat) (D : Addr) (m : Int) : List (Str × V) := [("node_count", .int n), ("edge_pairs", .ref D), ("gain_modulus", .int m)]
def f4 (n : Nat) (D : Addr) (m : Int) (nl : Addr) : List (Str × V) := [("node_count", .int n), ("edge_pairs", .ref D), ("gain_modulus", .int m), ("forest_numbers", .ref nl)]
def f5 (n : Nat) (D : Addr) (m : Int) (nl fl : Addr) : List (Str × V) := [("node_count", .int n), ("edge_pairs", .ref D), ("gain_modulus", .int m), ("forest_numbers", .ref nl), ("first_nodes", .ref fl)]
section
variable (n : Nat) (D : Addr) (m : Int) (nl fl lt : Addr)
theorem pf1 : putF "node_count" (.int n) [] = f1 n := rfl
theorem pf2 : putF "edge_pairs" (.ref D) (f1 n) = f2 n D := putF_new (ks := ["node_count"]) rfl (by decide +kernel)
theorem pf3 : putF "gain_modulus" (.int m) (f2 n D) = f3 n D m := putF_new (ks := ["node_count", "edge_pairs"]) rfl (by decide +kernel)
theorem pf4 : putF "forest_numbers" (.ref nl) (f3 n D m) = f4 n D m nl := putF_new (ks := ["node_count", "edge_pairs", "gain_modulus"]) rfl (by decide +kernel)
theorem pf5 : putF "first_nodes" (.ref fl) (f4 n D m nl) = f5 n D m nl fl := putF_new (ks := ["node_count", "edge_pairs", "gain_modulus", "forest_numbers"]) rfl (by decide +kernel)
theorem pf6 : putF "forest_ties" (.ref lt) (f5 n D m nl fl) = wf n D m nl fl lt := putF_new (ks := ["node_count", "edge_pairs", "gain_modulus", "forest_numbers", "first_nodes"]) rfl (by decide +kernel)
end
/-- what the top has written of the class -/
structure Txt (K : PySem.W.Frag) (mg : Str → Option Value) (C : Addr) : Prop where
  cl : Cls K C
  n1 : NoAttr K C "node_count"
  n2 : NoAttr K C "edge_pairs"
  n3 : NoAttr K C "gain_modulus"
  n4 : NoAttr K C "forest_numbers"
  n5 : NoAttr K C "first_nodes"
  n6 : NoAttr K C "forest_ties"
  mgC : mg "Web" = some (.ref C)
/-- a web at p: its fields, what they hold, all but p itself new since H0 -/
def WebAt (C : Addr) (H0 H : Hp) (p : Addr) (n : Nat) (ps : List (Nat × Nat)) (m : Int) : Prop := ∃ dx le lf lfn lt ts, H p = some (.ins C dx (wf n le m lf lfn lt)) ∧ EdgesAt H le ts ps ∧ H lf = some (.lst (ivs (Wm.nums ps ps.length))) ∧ H lfn = some (.lst (lab n (Wm.F ps))) ∧
  H0 le = none ∧ H0 lf = none ∧ H0 lfn = none
theorem WebAt.same {C : Addr} {H0 H H' : Hp} {p : Addr} {n : Nat} {ps : List (Nat × Nat)} {m : Int} (h : WebAt C H0 H p n ps m) (s : Same H H') : WebAt C H0 H' p n ps m := by
  obtain ⟨dx, le, lf, lfn, lt, ts, h1, h2, h3, h4, h5⟩ := h
  exact ⟨dx, le, lf, lfn, lt, ts, s _ _ h1, ⟨s _ _ h2.1, h2.2.same s⟩, s _ _ h3, s _ _ h4, h5⟩
theorem WebAt.back {C : Addr} {H00 H0 H : Hp} {p : Addr} {n : Nat} {ps : List (Nat × Nat)} {m : Int} (h : WebAt C H0 H p n ps m) (s : Same H00 H0) : WebAt C H00 H p n ps m := by
  obtain ⟨dx, le, lf, lfn, lt, ts, h1, h2, h3, h4, h5, h6, h7⟩ := h
  exact ⟨dx, le, lf, lfn, lt, ts, h1, h2, h3, h4, s.free h5, s.free h6, s.free h7⟩
/-- a list that stood in H0 may change -/
theorem WebAt.but {C : Addr} {H0 H H' : Hp} {p q : Addr} {n : Nat} {ps : List (Nat × Nat)} {m : Int} {xs : List V} (h : WebAt C H0 H p n ps m) (s : But [q] H H') (hq : H0 q ≠ none) (hl : H q = some (.lst xs)) : WebAt C H0 H' p n ps m := by
  obtain ⟨dx, le, lf, lfn, lt, ts, h1, h2, h3, h4, h5, h6, h7⟩ := h
  have ne : ∀ b, H0 b = none → b ∉ [q] := fun b hb z => hq (by have e : b = q := by simpa using z
                                                               rw [← e]; exact hb)
  refine ⟨dx, le, lf, lfn, lt, ts, s _ _ (fun z => ?_) h1, ⟨s _ _ (ne _ h5) h2.1, h2.2.but s fun b hb ys e => ?_⟩, s _ _ (ne _ h6) h3, s _ _ (ne _ h7) h4, h5, h6, h7⟩
  · have e : p = q := by simpa using z
    rw [e, hl] at h1
    cases h1
  · have e' : b = q := by simpa using hb
    rw [e', hl] at e
    cases e
def spInit (C : Addr) : Sp := fun vs H Q _ => ∃ (p dx a : Addr) (ts : List Addr) (ps : List (Nat × Nat)) (n : Nat) (m : Int), vs = [.ref p, .int n, .ref a, .int m] ∧ H p = some (.ins C dx []) ∧ EdgesAt H a ts ps ∧ Within n ps ∧ 1 ≤ n ∧ n ≤ 30 ∧ ps.length ≤ 60 ∧ (m = 0 ∨ 2 ≤ m ∧ m ≤ 60) ∧
  ∀ H', But [p] H H' → WebAt C H H' p n ps m → Q .non H'
def spComps (C : Addr) : Sp := fun vs H Q _ => ∃ (H0 : Hp) (p : Addr) (n : Nat) (ps : List (Nat × Nat)) (m : Int), vs = [.ref p] ∧ WebAt C H0 H p n ps m ∧ n ≤ 30 ∧ ∀ H' a, Same H H' → GroupsAt H H' a (Wm.groups n (Wm.F ps)) → Q (.ref a) H'
def spForest (C : Addr) : Sp := fun vs H Q _ => ∃ (H0 : Hp) (p : Addr) (n : Nat) (ps : List (Nat × Nat)) (m : Int), vs = [.ref p] ∧ WebAt C H0 H p n ps m ∧ ∀ H' a, Same H H' → H a = none → H' a = some (.lst (ivs (Wm.nums ps ps.length))) → Q (.ref a) H'
section
variable {X : Cx}
theorem pe_fldK {K : PySem.W.Frag} {e : Expr} {f : Str} {pos : Pos} {ta : TE} (he : PE X e ta) (hb : attributeBase e f X.env (eval e X.env) = eval e X.env) (hK : X.K = K := by rfl) : PE X (.Attribute e f pos) (tFld K ta f) := by
  subst hK
  exact pe_fld he hb
end
section
variable {P : Program} {w : World} {K : PySem.W.Frag} {mg : Str → Option Value} {base : Heap} {C : Addr}
theorem scInit : FnScope ["self", "size", "edges", "modulus", "tail", "head"] ["self", "size", "edges", "modulus"] (defScope sInit) := ⟨rfl, rfl, rfl, by decide +kernel, rfl, by decide +kernel, by decide +kernel⟩
theorem ok_init {f : Addr} {fd : FuncData} {kws : List (Str × V)} {dvs : List V} (F : FunD K "__init__" "Web.__init__" (defArgs sInit) (defBody sInit) (defScope sInit) dvs kws f fd) (T : Txt K mg C) (Cc : Cs mg) (D1 : Df P w K mg base 2 "is_between" ["thing", "low", "high"] (spBetween K))
    (D2 : Df P w K mg base 4 "check_edges" ["size", "edges"] (spCheck K)) (D3 : Df P w K mg base 2 "is_modulus" ["thing"] (spIsMod K)) (D4 : Df P w K mg base 1 "grown_forest" ["size", "pairs"] spGrown) (D5 : Df P w K mg base 1 "ties_of" ["size", "pairs", "numbers"] spTies) :
    FnOk P w K mg base CX0 5 f fd ["self", "size", "edges", "modulus"] (spInit C) := by
  obtain ⟨g1, gd1, G1, mg1, k1, b1⟩ := D1.ex
  obtain ⟨g2, gd2, G2, mg2, k2, b2⟩ := D2.ex
  obtain ⟨g3, gd3, G3, mg3, k3, b3⟩ := D3.ex
  obtain ⟨g4, gd4, G4, mg4, k4, b4⟩ := D4.ex
  obtain ⟨g5, gd5, G5, mg5, k5, b5⟩ := D5.ex
  obtain ⟨t1, c1⟩ := Cc.nodes
  refine F.ok scInit (fun vs H Q E h => ?_) (fun cdv A outer s H vs Q E hr h => ?_)
  · obtain ⟨p, dx, a, ts, ps, n, m, rfl, _⟩ := h
    rfl
  · obtain ⟨p, dx, a, ts, ps, n, m, rfl, hp, hE, hw, n1, n30, hl, hm, q⟩ := h
    have hr2 : Room 2 _ := hr.mono (by decide)
    have hr1 : Room 1 _ := hr.mono (by decide)
    refine ⟨_, PSs.nox (pss_cons (ps_if (pt_not (pt_val (pe_call G1 hr2 rfl mg1 k1 b1 .nil pass0 (pa_cons (pv 1) (pa_cons pe_int (pa_cons (pe_glob rfl c1 (v := .int 30) ⟨_, rfl⟩) pa_nil)))))) (pss_one ps_never) pss_nil)
      (pss_cons (ps_expr (pe_call G2 hr rfl mg2 k2 b2 .nil pass0 (pa_cons (pv 1) (pa_cons (pv 2) pa_nil))))
      (pss_cons (ps_if (pt_not (pt_val (pe_call G3 hr2 rfl mg3 k3 b3 .nil pass0 (pa_cons (pv 3) pa_nil)))) (pss_one ps_never) pss_nil)
      (pss_cons (ps_fld (pv 0) (pv 1) rfl)
      (pss_cons (ps_fld (pv 0) (pe_lc (own := [("tail", 4), ("head", 5)]) (g := gTup K 2 (gCons (gName 4) (gCons (gName 5) gNil))) rfl scInit.nd (pi_list (pv 2)) (blkOk_by (N := ["self", "size", "edges", "modulus", "tail", "head"]) (sc := defScope sInit) (by decide +kernel))
          (fun _ _ _ _ _ => pg_tup rfl (pgs_cons (pg_name (i := 4) scInit.nd rfl (Or.inl rfl)) (pgs_cons (pg_name (i := 5) scInit.nd rfl (Or.inl rfl)) pgs_nil))) (fun _ _ _ _ _ => pts_nil) (fun _ _ _ _ _ => pe_tup (pa_cons (pv 4) (pa_cons (pv 5) pa_nil)))) rfl)
      (pss_cons (ps_fld (pv 0) (pv 3) rfl)
      (pss_cons (ps_asg (pe_call G4 hr1 rfl mg4 k4 b4 .nil pass0 (pa_cons (pv 1) (pa_cons (pe_fld (pv 0) rfl) pa_nil))) (pg_tup rfl (pgs_cons (pg_attr (pv 0)) (pgs_cons (pg_attr (pv 0)) pgs_nil))))
      (pss_one (ps_fld (pv 0) (pe_call G5 hr1 rfl mg5 k5 b5 .nil pass0 (pa_cons (pv 1) (pa_cons (pe_fld (pv 0) rfl) (pa_cons (pe_fld (pv 0) rfl) pa_nil)))) rfl))))))))), ?_⟩
    refine ⟨_, rfl, .int n, 1, 30, _, true, rfl, .base (.int _), intB_int, (fun z => nomatch z), fun _ => ⟨n, rfl, ?_⟩⟩
    have e1 : decide ((1 : Int) ≤ (n : Int) ∧ (n : Int) ≤ 30) = true := decide_eq_true (by omega)
    rw [e1]
    refine ⟨_, rfl, iteF ?_⟩
    refine ⟨_, rfl, _, rfl, n, a, ts, ps, rfl, hE, hw, hl, fun H1 s1 => ?_⟩
    refine ⟨_, rfl, .int m, _, true, rfl, .base (.int _), intB_int, (fun z => nomatch z), fun _ => ⟨m, rfl, ?_⟩⟩
    have e2 : decide (m = 0 ∨ 2 ≤ m ∧ m ≤ 60) = true := decide_eq_true hm
    rw [e2]
    refine ⟨_, rfl, iteF ?_⟩
    refine ⟨_, rfl, _, rfl, p, C, dx, [], rfl, s1 _ _ hp, T.cl, T.n1, (by show 0 < 1000; decide), ?_⟩
    rw [pf1]
    have npa : a ≠ p := ne_of hE.1 hp (by intro z; cases z)
    have bp : But [p] H (upd H1 p (.ins C dx (f1 n))) := (But.of_same s1).upd_in (by simp)
    have pp : upd H1 p (.ins C dx (f1 n)) p = some (.ins C dx (f1 n)) := upd_same
    generalize upd H1 p (.ins C dx (f1 n)) = H2 at *
    have nop : ∀ b ∈ [p], ∀ xs, H b ≠ some (.tup xs) := fun b hb xs e => by
      have e' : b = p := by simpa using hb
      rw [e', hp] at e
      cases e
    have hp0 : H p ≠ none := by rw [hp]; exact fun z => nomatch z
    have a2 : H2 a = some (.lst (ts.map V.ref)) := bp.at (by simpa using npa) hE.1
    have ps2 : PairsAt H2 ts ps := hE.2.but bp nop
    -- the edges, copied
    refine ⟨_, rfl, a, rfl, ⟨_, SqL.of a2⟩, fun D hD => lc_list (K := K) (xs := ts.map V.ref) (fun i H' => Same H2 H' ∧ ∃ us, H' D = some (.lst (us.map V.ref)) ∧ PairsAt H' us (ps.take i) ∧ D ∉ us)
      ⟨same_new (Same.refl _) (.inl hD), [], upd_same, ⟨by simp, fun i t p e => by simp at e⟩, by simp⟩ (fun i H' _ ⟨s, _⟩ => SqL.of (s _ _ a2)) ?_ ?_⟩
    · rintro i x H3 hi ⟨s3, us, h3, hus, hDus⟩
      obtain ⟨t, ht, rfl⟩ := refs_get hi
      obtain ⟨e, he, het⟩ := (ps2.same s3).get ht
      refine ⟨t, _, rfl, SqT.of het, rfl, _, _, rfl, _, _, rfl, rfl, rfl, tyes ?_⟩
      refine ⟨_, rfl, _, rfl, (by show 2 ≤ sizeLine; decide), fun u hu => ?_⟩
      have s4 : Same H3 (upd H3 u (.tup [.int (e.1 : Int), .int (e.2 : Int)])) := same_new (Same.refl _) (.inl hu)
      have nuD : u ≠ D := (ne_of_none h3 hu).symm
      refine ⟨_, s4 _ _ h3, ?_, same_new (s3.trans s4) (.inr hD), us ++ [u], by rw [upd_same]; simp, ?_, by simp [hDus, nuD.symm]⟩
      · rw [List.length_map, hus.1, List.length_take]
        exact small1000 (by have := Nat.min_le_right i ps.length; omega)
      · rw [Wm.take_snoc he]
        have h5 := hus.snoc s4 (t := u) (p := e) upd_same
        refine h5.but ((But.refl [D] _).upd_in (by simp)) fun b hb xs z => ?_
        have e' : b = D := by simpa using hb
        rw [e', s4 _ _ h3] at z
        cases z
    · rintro H3 ⟨s3, us, h3, hus, hDus⟩
      have el : (ts.map V.ref).length = ps.length := by rw [List.length_map]; exact hE.2.1
      rw [el, List.take_length] at hus
      have hD0 : H D = none := bp.free (by
        have := ne_of_none pp hD
        simpa using this.symm) hD
      have b3 : But [p] H H3 := bp.trans (But.of_same s3)
      have p3 := s3 _ _ pp
      refine ⟨_, rfl, p, C, dx, _, rfl, p3, T.cl, T.n2, (by show 1 < 1000; decide), ?_⟩
      rw [pf2]
      refine ⟨_, rfl, _, rfl, p, C, dx, _, rfl, upd_same, T.cl, T.n3, (by show 2 < 1000; decide), ?_⟩
      rw [pf3, upd_upd]
      have nDp : D ≠ p := (ne_of_none pp hD).symm
      have b4 := b3.upd_in (p := p) (o := .ins C dx (f3 n D m)) (by simp)
      have p4 : upd H3 p (.ins C dx (f3 n D m)) p = some (.ins C dx (f3 n D m)) := upd_same
      have D4 : upd H3 p (.ins C dx (f3 n D m)) D = some (.lst (us.map V.ref)) := by rw [upd_ne nDp]; exact h3
      have u4 : PairsAt (upd H3 p (.ins C dx (f3 n D m))) us ps := hus.but ((But.refl [p] _).upd_in (by simp)) fun b hb xs z => by
        have e' : b = p := by simpa using hb
        rw [e', p3] at z
        cases z
      generalize upd H3 p (.ins C dx (f3 n D m)) = H4 at *
      -- the forest
      refine ⟨_, rfl, _, rfl, p, C, dx, _, .ref D, rfl, p4, T.cl, T.n2, (lk_past (by decide +kernel)).trans lk_here, n, D, us, ps, rfl, ⟨D4, u4⟩, hw, hl, n30, fun H5 t nl fl s5 h5t hnl hfl h5n h5f => ?_⟩
      refine ⟨t, _, rfl, SqT.of h5t, rfl, _, _, rfl, _, rfl, p, C, dx, _, rfl, s5 _ _ p4, T.cl, T.n4, (by show 3 < 1000; decide), ?_⟩
      rw [pf4]
      refine ⟨_, _, rfl, _, rfl, p, C, dx, _, rfl, upd_same, T.cl, T.n5, (by show 4 < 1000; decide), ?_⟩
      rw [pf5, upd_upd]
      refine ⟨rfl, ?_⟩
      have p5 := s5 _ _ p4
      have nnp : nl ≠ p := (ne_of_none p4 hnl).symm
      have nfp : fl ≠ p := (ne_of_none p4 hfl).symm
      generalize hfs : f5 n D m nl fl = fs
      have b6 := (b4.trans (But.of_same s5)).upd_in (p := p) (o := .ins C dx fs) (by simp)
      have p6 : upd H5 p (.ins C dx fs) p = some (.ins C dx fs) := upd_same
      have D6 : upd H5 p (.ins C dx fs) D = some (.lst (us.map V.ref)) := by rw [upd_ne nDp]; exact s5 _ _ D4
      have n6 : upd H5 p (.ins C dx fs) nl = some (.lst (ivs (Wm.nums ps ps.length))) := by rw [upd_ne nnp]; exact h5n
      have f6 : upd H5 p (.ins C dx fs) fl = some (.lst (lab n (Wm.F ps))) := by rw [upd_ne nfp]; exact h5f
      have u6 : PairsAt (upd H5 p (.ins C dx fs)) us ps := (u4.same s5).but ((But.refl [p] _).upd_in (by simp)) fun b hb xs z => by
        have e' : b = p := by simpa using hb
        rw [e', p5] at z
        cases z
      generalize upd H5 p (.ins C dx fs) = H6 at *
      have lkD : fs.lookup ("edge_pairs" : Str) = some (.ref D) := by rw [← hfs]; exact (lk_past (by decide +kernel)).trans lk_here
      have lkN : fs.lookup ("forest_numbers" : Str) = some (.ref nl) := by rw [← hfs]; exact (lk_past (by decide +kernel)).trans ((lk_past (by decide +kernel)).trans ((lk_past (by decide +kernel)).trans lk_here))
      have hks : ∀ k ∈ Wm.nums ps ps.length, k < ps.length := fun k hk => List.mem_range.mp (List.mem_filter.mp hk).1
      refine ⟨_, rfl, _, rfl, p, C, dx, _, .ref D, rfl, p6, T.cl, T.n2, lkD, _, rfl, p, C, dx, _, .ref nl, rfl, p6, T.cl, T.n4, lkN, n, D, nl, us, ps, _, rfl, ⟨D6, u6⟩, hw, n30, n6, hks, Nat.le_trans (filter_len _ _) hl, fun H7 lt s7 hlt => ?_⟩
      refine ⟨_, rfl, p, C, dx, _, rfl, s7 _ _ p6, T.cl, T.n6, (by rw [← hfs]; show 5 < 1000; decide), ?_⟩
      rw [← hfs, pf6]
      have b8 := (b6.trans (But.of_same s7)).upd_in (p := p) (o := .ins C dx (wf n D m nl fl lt)) (by simp)
      have p7 := s7 _ _ p6
      refine q _ b8 ⟨dx, D, nl, fl, lt, us, upd_same, ⟨by rw [upd_ne nDp]; exact s7 _ _ D6, ?_⟩, by rw [upd_ne nnp]; exact s7 _ _ n6, by rw [upd_ne nfp]; exact s7 _ _ f6, hD0, ?_, ?_⟩
      · refine (u6.same s7).but ((But.refl [p] _).upd_in (by simp)) fun b hb xs z => ?_
        have e' : b = p := by simpa using hb
        rw [e', p7] at z
        cases z
      · exact b4.free (by simpa using nnp) hnl
      · exact b4.free (by simpa using nfp) hfl
end
end Wb

namespace Wb
open PySem L2
/-! ### any value: what it is as data -/
def dKey : Key → PyData
  | .inl i => .int i
  | .inr x => .str x
/-- x is the data d: numbers, texts, None, lists and tuples of such, to any depth; or a dict, of which only that is known -/
inductive Vd (K : PySem.W.Frag) (H : Hp) : V → PyData → Prop
  | dat {x : V} {d : PyData} (h : Dp K H x d) : Vd K H x d
  | dic {a : Addr} {kvs : List (Key × V)} {ds : List (PyData × PyData)} (h : H a = some (.dK kvs)) : Vd K H (.ref a) (.dict ds)
mutual
theorem dp_same {K : PySem.W.Frag} {H H' : Hp} (s : Same H H') : ∀ {x : V} {d : PyData}, Dp K H x d → Dp K H' x d
  | _, _, .non => .non
  | _, _, .bl b => .bl b
  | _, _, .int i => .int i
  | _, _, .str z => .str z
  | _, _, .lst h t => .lst (s.seq h) (dpAll_same s t)
  | _, _, .tup h t => .tup (by
      rcases h with (h | ⟨o, h⟩) | h
      · exact .inl (.inl (s _ _ h))
      · exact .inl (.inr ⟨o, s _ _ h⟩)
      · exact .inr h) (dpAll_same s t)
theorem dpAll_same {K : PySem.W.Frag} {H H' : Hp} (s : Same H H') : ∀ {xs : List V} {ds : List PyData}, DpAll K H xs ds → DpAll K H' xs ds
  | _, _, .nil => .nil
  | _, _, .cons h t => .cons (dp_same s h) (dpAll_same s t)
end
theorem Vd.same {K : PySem.W.Frag} {H H' : Hp} {x : V} {d : PyData} (s : Same H H') (h : Vd K H x d) : Vd K H' x d := by
  cases h with
  | dat h => exact .dat (dp_same s h)
  | dic h => exact .dic (s _ _ h)
theorem DpAll.len {K : PySem.W.Frag} {H : Hp} : ∀ {xs : List V} {ds : List PyData}, DpAll K H xs ds → xs.length = ds.length
  | _, _, .nil => rfl
  | _, _, .cons _ t => congrArg Nat.succ (DpAll.len t)
theorem DpAll.get {K : PySem.W.Frag} {H : Hp} : ∀ {xs : List V} {ds : List PyData} {i : Nat} {x : V}, DpAll K H xs ds → xs[i]? = some x → ∃ d, ds[i]? = some d ∧ Dp K H x d
  | _, _, _, _, .nil, h => by simp at h
  | _, _, 0, _, .cons h t, e => by simp at e; subst e; exact ⟨_, rfl, h⟩
  | _, _, i + 1, _, .cons h t, e => DpAll.get (i := i) t (by simpa using e)
/-- the type's name -/
def tyN : PyData → String
  | .none => "NoneType"
  | .bool _ => "bool"
  | .int _ => "int"
  | .str _ => "str"
  | .list _ => "list"
  | .tuple _ => "tuple"
  | .dict _ => "dict"
theorem sqL_ty {K : PySem.W.Frag} {H : Hp} {a : Addr} {xs : List V} (h : SqL K H a xs) : TyX K H (.ref a) (.type "list") := by
  rcases h with (h | ⟨o, h⟩) | ⟨o, _, _, h, c, _⟩
  · exact .base (.lst h)
  · exact .base (.frz h)
  · exact .kList h c
theorem sqT_ty {K : PySem.W.Frag} {H : Hp} {a : Addr} {xs : List V} (h : SqT K H a xs) : TyX K H (.ref a) (.type "tuple") := by
  rcases h with (h | ⟨o, h⟩) | ⟨o, _, _, h, c, _⟩
  · exact .base (.tup h)
  · exact .fTuple h
  · exact .kTuple h c
theorem Vd.ty {K : PySem.W.Frag} {H : Hp} {x : V} {d : PyData} (h : Vd K H x d) : TyX K H x (.type (tyN d)) := by
  cases h with
  | dat h =>
    cases h with
    | non => exact .base .non
    | bl b => exact .base (.bl b)
    | int i => exact .base (.int i)
    | str z => exact .base (.str z)
    | lst h _ => exact sqL_ty h
    | tup h _ => exact sqT_ty h
  | dic h => exact .base (.dK h)
def isTup : PyData → Bool
  | .tuple _ => true
  | _ => false
def isLst : PyData → Bool
  | .list _ => true
  | _ => false
def isNum : PyData → Bool
  | .int _ => true
  | _ => false
theorem kit_tup {K : PySem.W.Frag} : ∀ d : PyData, PySem.W.kitOne K (.type (tyN d)) (.type "tuple") = some (isTup d)
  | .none => kit_ty (a := "NoneType") (b := "tuple") (r := false) (by decide +kernel)
  | .bool _ => kit_ty (a := "bool") (b := "tuple") (r := false) (by decide +kernel)
  | .int _ => kit_ty (a := "int") (b := "tuple") (r := false) (by decide +kernel)
  | .str _ => kit_ty (a := "str") (b := "tuple") (r := false) (by decide +kernel)
  | .list _ => kit_ty (a := "list") (b := "tuple") (r := false) (by decide +kernel)
  | .tuple _ => kit_ty (a := "tuple") (b := "tuple") (r := true) (by decide +kernel)
  | .dict _ => kit_ty (a := "dict") (b := "tuple") (r := false) (by decide +kernel)
theorem kit_lst {K : PySem.W.Frag} : ∀ d : PyData, PySem.W.kitOne K (.type (tyN d)) (.type "list") = some (isLst d)
  | .none => kit_ty (a := "NoneType") (b := "list") (r := false) (by decide +kernel)
  | .bool _ => kit_ty (a := "bool") (b := "list") (r := false) (by decide +kernel)
  | .int _ => kit_ty (a := "int") (b := "list") (r := false) (by decide +kernel)
  | .str _ => kit_ty (a := "str") (b := "list") (r := false) (by decide +kernel)
  | .list _ => kit_ty (a := "list") (b := "list") (r := true) (by decide +kernel)
  | .tuple _ => kit_ty (a := "tuple") (b := "list") (r := false) (by decide +kernel)
  | .dict _ => kit_ty (a := "dict") (b := "list") (r := false) (by decide +kernel)
theorem intB_d {K : PySem.W.Frag} : ∀ d : PyData, IntB K (.type (tyN d)) (isNum d)
  | .none => ⟨false, kit_ty (a := "NoneType") (b := "int") (by decide +kernel), fun _ => rfl, (fun h => nomatch h)⟩
  | .bool _ => ⟨true, kit_ty (a := "bool") (b := "int") (by decide +kernel), (fun h => nomatch h), fun _ => ⟨true, kit_ty (a := "bool") (b := "bool") (by decide +kernel), rfl⟩⟩
  | .int _ => intB_int
  | .str _ => ⟨false, kit_ty (a := "str") (b := "int") (by decide +kernel), fun _ => rfl, (fun h => nomatch h)⟩
  | .list _ => ⟨false, kit_ty (a := "list") (b := "int") (by decide +kernel), fun _ => rfl, (fun h => nomatch h)⟩
  | .tuple _ => ⟨false, kit_ty (a := "tuple") (b := "int") (by decide +kernel), fun _ => rfl, (fun h => nomatch h)⟩
  | .dict _ => ⟨false, kit_ty (a := "dict") (b := "int") (by decide +kernel), fun _ => rfl, (fun h => nomatch h)⟩
theorem Vd.num {K : PySem.W.Frag} {H : Hp} {x : V} {d : PyData} (h : Vd K H x d) (n : isNum d = true) : ∃ i, d = .int i ∧ x = .int i := by
  cases h with
  | dat h => cases h with
    | int i => exact ⟨i, rfl, rfl⟩
    | _ => cases n
  | dic h => cases n
theorem Vd.tup {K : PySem.W.Frag} {H : Hp} {x : V} {d : PyData} (h : Vd K H x d) (n : isTup d = true) : ∃ a xs ds, d = .tuple ds ∧ x = .ref a ∧ SqT K H a xs ∧ DpAll K H xs ds := by
  cases h with
  | dat h => cases h with
    | tup h t => exact ⟨_, _, _, rfl, rfl, h, t⟩
    | _ => cases n
  | dic h => cases n
theorem Vd.lst {K : PySem.W.Frag} {H : Hp} {x : V} {d : PyData} (h : Vd K H x d) (n : isLst d = true) : ∃ a xs ds, d = .list ds ∧ x = .ref a ∧ SqL K H a xs ∧ DpAll K H xs ds := by
  cases h with
  | dat h => cases h with
    | lst h t => exact ⟨_, _, _, rfl, rfl, h, t⟩
    | _ => cases n
  | dic h => cases n
theorem sqT_same {K : PySem.W.Frag} {H H' : Hp} {a : Addr} {xs : List V} (s : Same H H') (h : SqT K H a xs) : SqT K H' a xs := by
  rcases h with (h | ⟨o, h⟩) | h
  · exact .inl (.inl (s _ _ h))
  · exact .inl (.inr ⟨o, s _ _ h⟩)
  · exact .inr h
/-! ### len of an own object -/
def rLenO (C : Addr) (sp : Sp) : List V → Hp → VK → Prop := fun xs H Q => ∃ a dx fs, xs = [.ref a] ∧ H a = some (.ins C dx fs) ∧ sp [.ref a] H (fun v H' => ∃ n : Nat, v = .int n ∧ n ≤ 1000 ∧ Q v H') E0
theorem call_lenO {X : Cx} {C f : Addr} {fd : FuncData} {k : Nat} {sp : Sp} (m : Meth X.K C "__len__" f) (F : FnOk X.prog X.w X.K X.mg X.base CX0 k f fd ["self"] sp) (b : Binds X.K fd ["self"] []) (hr : Room (k + 1) X.A) : CallR X (.builtin "len") (rLenO C sp) := by
  intro pins s σ H xs us Q I r h
  obtain ⟨a, dx, fs, rfl, ea, h⟩ := h
  cases r with
  | cons r1 r2 =>
    cases r1
    cases r2
    obtain ⟨mm, fr⟩ := I.fr
    obtain ⟨mA, O, _⟩ := ins_get I.hok ea
    obtain ⟨od, J, _⟩ := O.look
    refine PySem.W.len_K fr I.ok.mod.kin J m.at_ m.fn (wpAny_call (codeAny_mono (F.run X.A.in1 X.stack s H ⟨[.ref a], []⟩ [.ref a] [.ref a] _ E0 hr.in1 I.env0.in1 (b s [.ref a] I.kIn rfl) (.cons rfl .nil) h) fun out s' got => ?_))
    match out, got with
    | .error e, got => exact got.elim
    | .ok .next, got => exact got.elim
    | .ok .brk, got => exact got.elim
    | .ok .cont, got => exact got.elim
    | .ok (.ret u), got =>
      obtain ⟨v, H', I', rv, n, rfl, hn, q⟩ := I.after got
      obtain ⟨t, rfl⟩ := rv
      exact ⟨⟨by omega, by omega⟩, .int n, H', I'.tok _, ⟨_, rfl⟩, q⟩
/-! ### steps as data -/
def stepD (m : Nat) : PyData → Bool
  | .tuple [.int i, .int w] => decide (0 ≤ i ∧ i ≤ (m : Int) - 1) && decide (w = 1 ∨ w = -1)
  | _ => false
theorem stepD_tup (m : Nat) (i w : Int) : stepD m (.tuple [.int i, .int w]) = (decide (0 ≤ i ∧ i ≤ (m : Int) - 1) && decide (w = 1 ∨ w = -1)) := rfl
/-- where a step begins and ends -/
def endsAt (ps : List (Nat × Nat)) (i : Nat) (w : Int) : Nat × Nat := if w = 1 then Wm.at2 ps i else ((Wm.at2 ps i).2, (Wm.at2 ps i).1)
def spLen (C : Addr) : Sp := fun vs H Q _ => ∃ (H0 : Hp) (p : Addr) (n : Nat) (ps : List (Nat × Nat)) (m : Int), vs = [.ref p] ∧ WebAt C H0 H p n ps m ∧ Q (.int (ps.length : Nat)) H
/-- a number that is one of the edges' -/
def spEdgeM (C : Addr) : Sp := fun vs H Q _ => ∃ (H0 : Hp) (p : Addr) (n : Nat) (ps : List (Nat × Nat)) (m : Int) (i : Nat), vs = [.ref p, .int i] ∧ WebAt C H0 H p n ps m ∧ i < ps.length ∧
  ∀ t, H t = some (.tup [.int (Wm.at2 ps i).1, .int (Wm.at2 ps i).2]) → Q (.ref t) H
def spIsStep (K : PySem.W.Frag) (C : Addr) : Sp := fun vs H Q _ => ∃ (H0 : Hp) (p : Addr) (n : Nat) (ps : List (Nat × Nat)) (m : Int) (x : V) (d : PyData), vs = [.ref p, x] ∧ WebAt C H0 H p n ps m ∧ ps.length ≤ 60 ∧ Vd K H x d ∧ ∀ H', Same H H' → Q (.bl (stepD ps.length d)) H'
def spStepEnds (K : PySem.W.Frag) (C : Addr) : Sp := fun vs H Q _ => ∃ (H0 : Hp) (p : Addr) (n : Nat) (ps : List (Nat × Nat)) (m : Int) (t : Addr) (i : Nat) (y : Int), vs = [.ref p, .ref t] ∧ WebAt C H0 H p n ps m ∧ SqT K H t [.int i, .int y] ∧ i < ps.length ∧ (y = 1 ∨ y = -1) ∧
  ∀ H' u, Same H H' → H u = none → H' u = some (.tup [.int (endsAt ps i y).1, .int (endsAt ps i y).2]) → Q (.ref u) H'
section
variable {P : Program} {w : World} {K : PySem.W.Frag} {mg : Str → Option Value} {base : Heap} {C : Addr}
/-- a method by its promise -/
structure Md (P : Program) (w : World) (K : PySem.W.Frag) (mg : Str → Option Value) (base : Heap) (C : Addr) (k : Nat) (m : Str) (ps : List Str) (sp : Sp) : Prop where
  ex : ∃ (g : Addr) (gd : FuncData), FnOk P w K mg base CX0 k g gd ps sp ∧ Meth K C m g ∧ Binds K gd ps []
theorem scLen : FnScope ["self"] ["self"] (defScope sLen) := ⟨rfl, rfl, rfl, by decide +kernel, rfl, by decide +kernel, by decide +kernel⟩
theorem ok_len {f : Addr} {fd : FuncData} (F : Fun K "__len__" "Web.__len__" sLen f fd) (B : Bn mg) (T : Txt K mg C) : FnOk P w K mg base CX0 1 f fd ["self"] (spLen C) := by
  refine F.ok scLen (fun vs H Q E h => ?_) (fun cdv A outer s H vs Q E hr h => ?_)
  · obtain ⟨H0, p, n, ps, m, rfl, _⟩ := h
    rfl
  · obtain ⟨H0, p, n, ps, m, rfl, ⟨dx, le, lf, lfn, lt, ts, hp, hE, _⟩, q⟩ := h
    refine ⟨_, pss_one (ps_ret (pe_callB call_len_seq (by rfl) B.len PySem.boot_len (pa_cons (pe_fld (pv 0) rfl) pa_nil))), ?_⟩
    refine ⟨_, rfl, p, C, dx, _, _, rfl, hp, T.cl, T.n2, wf_pairs _ _ _ _ _ _, le, _, rfl, .inl (SqL.of hE.1), ?_⟩
    have e : (ts.map V.ref).length = ps.length := by rw [List.length_map]; exact hE.2.1
    rw [e]
    exact q
theorem scEdgeM : FnScope ["self", "number"] ["self", "number"] (defScope sEdgeM) := ⟨rfl, rfl, rfl, by decide +kernel, rfl, by decide +kernel, by decide +kernel⟩
theorem ok_edge {f : Addr} {fd : FuncData} (F : Fun K "edge" "Web.edge" sEdgeM f fd) (B : Bn mg) (T : Txt K mg C) (D : Df P w K mg base 2 "is_between" ["thing", "low", "high"] (spBetween K)) : FnOk P w K mg base CX0 3 f fd ["self", "number"] (spEdgeM C) := by
  obtain ⟨g, gd, G, mgG, kG, bG⟩ := D.ex
  refine F.ok scEdgeM (fun vs H Q E h => ?_) (fun cdv A outer s H vs Q E hr h => ?_)
  · obtain ⟨H0, p, n, ps, m, i, rfl, _⟩ := h
    rfl
  · obtain ⟨H0, p, n, ps, m, i, rfl, ⟨dx, le, lf, lfn, lt, ts, hp, hE, _⟩, hi, q⟩ := h
    refine ⟨_, pss_cons (ps_if (pt_not (pt_val (pe_call G hr rfl mgG kG bG .nil pass0 (pa_cons (pv 1) (pa_cons pe_int (pa_cons (pe_op op_sub (pe_callB call_len_seq (by rfl) B.len PySem.boot_len (pa_cons (pe_fld (pv 0) rfl) pa_nil)) pe_int) pa_nil)))))) (pss_one ps_never) pss_nil)
      (pss_one (ps_ret (pe_ix ix_list (pe_fld (pv 0) rfl) (pv 1) (fun _ _ => rfl)))), ?_⟩
    have el : (ts.map V.ref).length = ps.length := by rw [List.length_map]; exact hE.2.1
    refine ⟨_, rfl, _, rfl, p, C, dx, _, _, rfl, hp, T.cl, T.n2, wf_pairs _ _ _ _ _ _, le, _, rfl, .inl (SqL.of hE.1), _, _, rfl, rfl, .int i, 0, _, _, true, rfl, .base (.int _), intB_int, (fun z => nomatch z), fun _ => ⟨i, rfl, ?_⟩⟩
    rw [el]
    rw [decide_eq_true (show (0 : Int) ≤ (i : Int) ∧ (i : Int) ≤ (ps.length : Int) - 1 by omega)]
    refine ⟨_, rfl, iteF ?_⟩
    obtain ⟨t, ht⟩ : ∃ t, ts[i]? = some t := ⟨_, List.getElem?_eq_getElem (show i < ts.length by rw [hE.2.1]; exact hi)⟩
    obtain ⟨e, he, het⟩ := hE.2.get ht
    refine ⟨_, rfl, p, C, dx, _, _, rfl, hp, T.cl, T.n2, wf_pairs _ _ _ _ _ _, _, rfl, le, _, _, .ref t, rfl, rfl, SqL.of hE.1, atI_nat (by rw [List.getElem?_map, ht]; rfl), q t ?_⟩
    rw [Wm.at2_get he]
    exact het
theorem scIsStep : FnScope ["web", "thing", "number", "way"] ["web", "thing"] (defScope sIsStep) := ⟨rfl, rfl, rfl, by decide +kernel, rfl, by decide +kernel, by decide +kernel⟩
theorem ok_isstep {f : Addr} {fd : FuncData} (F : Fun K "is_step" "is_step" sIsStep f fd) (B : Bn mg) (T : Txt K mg C) (D1 : Df P w K mg base 1 "is_integer" ["thing"] (spInt K)) (D2 : Df P w K mg base 2 "is_between" ["thing", "low", "high"] (spBetween K)) (ML : Md P w K mg base C 1 "__len__" ["self"] (spLen C)) :
    FnOk P w K mg base CX0 3 f fd ["web", "thing"] (spIsStep K C) := by
  obtain ⟨g1, gd1, G1, mg1, k1, b1⟩ := D1.ex
  obtain ⟨g2, gd2, G2, mg2, k2, b2⟩ := D2.ex
  obtain ⟨gl, gdl, Gl, ml, bl⟩ := ML.ex
  refine F.ok scIsStep (fun vs H Q E h => ?_) (fun cdv A outer s H vs Q E hr h => ?_)
  · obtain ⟨H0, p, n, ps, m, x, d, rfl, _⟩ := h
    rfl
  · obtain ⟨H0, p, n, ps, m, x, d, rfl, W, p60, hx, q⟩ := h
    have hr1 : Room 1 _ := hr.mono (by decide)
    refine ⟨_, pss_cons (ps_if (PW.pt (pw_or (pt_not (pt_val (pe_callB call_isi (by rfl) B.isinstance (by decide +kernel) (pa_cons (pv 1) (pa_cons (pe_bltn (v := .ty "tuple") (by rfl) B.tuple (by decide +kernel) rfl) pa_nil)))))
        (pw_or1 (pt_cmpR op_ne (pe_callB call_len_seq (by rfl) B.len PySem.boot_len (pa_cons (pv 1) pa_nil)) pe_int (nomark _))))) (pss_one (ps_ret pe_bl)) pss_nil)
      (pss_cons (ps_asg (pv 1) (pg_tup rfl (pgs_cons (pg_name (i := 2) scIsStep.nd rfl (Or.inl rfl)) (pgs_cons (pg_name (i := 3) scIsStep.nd rfl (Or.inl rfl)) pgs_nil))))
      (pss_one (ps_ret (pe_and (pe_call G2 hr rfl mg2 k2 b2 .nil pass0 (pa_cons (pv 2) (pa_cons pe_int (pa_cons (pe_op op_sub (pe_callB (call_lenO ml Gl bl (hr.mono (by decide))) (by rfl) B.len PySem.boot_len (pa_cons (pv 0) pa_nil)) pe_int) pa_nil))))
        (pe_and (pe_call G1 hr1 rfl mg1 k1 b1 .nil pass0 (pa_cons (pv 3) pa_nil)) (pe_one (pe_cmpR op_in_seq (pv 3) (pe_tup (pa_cons pe_int (pa_cons (pe_un un_neg pe_int) pa_nil))) (by rfl)))))))), ?_⟩
    refine ⟨_, rfl, _, _, _, _, _, rfl, .ty _, hx.ty, kit_tup d, _, rfl, ?_⟩
    cases hd : isTup d with
    | false =>
      have e : stepD ps.length d = false := by
        cases d <;> first | rfl | cases hd
      refine iteT (iteT ?_)
      have := q H (Same.refl _)
      rw [e] at this
      exact this
    | true =>
      obtain ⟨a, xs, ds, rfl, rfl, hs, hall⟩ := hx.tup hd
      refine iteF ⟨_, rfl, a, _, rfl, .inr hs, rfl, _, rfl, ?_⟩
      have hlen := DpAll.len hall
      by_cases h2 : xs.length = 2
      · have e2 : (!decide (V.int ((xs.length : Nat) : Int) = V.int 2)) = false := by
          rw [decide_eq_true (congrArg V.int (show ((xs.length : Nat) : Int) = 2 by omega))]
          rfl
        rw [e2]
        refine iteF ?_
        match xs, ds, h2, hlen, hall, hs, hx with
        | [u, v], [du, dv], _, _, .cons hu (.cons hv .nil), hs, hx =>
          refine ⟨_, rfl, a, _, rfl, hs, rfl, _, _, rfl, _, _, rfl, rfl, ?_⟩
          obtain ⟨dx, le, lf, lfn, lt, ts, hp, _⟩ := id W
          have hu' : Vd K H u du := .dat hu
          have hv' : Vd K H v dv := .dat hv
          refine ⟨_, rfl, _, rfl, p, dx, _, rfl, hp, H0, p, n, ps, m, rfl, W, ps.length, rfl, by omega, _, _, rfl, rfl, u, 0, (ps.length : Int) - 1, _, _, rfl, hu'.ty, intB_d du, fun hc => ?_, fun hc => ?_⟩
          · refine ⟨_, rfl, iteF ?_⟩
            have e : stepD ps.length (.tuple [du, dv]) = false := by
              cases du <;> first | rfl | cases hc
            have := q H (Same.refl _)
            rw [e] at this
            exact this
          · obtain ⟨i, rfl, rfl⟩ := hu'.num hc
            refine ⟨i, rfl, _, rfl, ?_⟩
            by_cases hi : 0 ≤ i ∧ i ≤ (ps.length : Int) - 1
            · rw [decide_eq_true hi]
              refine iteT ⟨_, rfl, v, _, _, rfl, hv'.ty, intB_d dv, _, rfl, ?_⟩
              cases hdv : isNum dv with
              | false =>
                refine iteF ?_
                have e : stepD ps.length (.tuple [.int i, dv]) = false := by
                  cases dv <;> first | rfl | cases hdv
                have := q H (Same.refl _)
                rw [e] at this
                exact this
              | true =>
                obtain ⟨y, rfl, rfl⟩ := hv'.num hdv
                refine iteT ⟨_, rfl, 1, rfl, (by show 2 ≤ sizeLine; decide), fun t ht => ⟨t, _, rfl, .inr (SqT.of upd_same), rfl, rfl, ?_⟩⟩
                have := q _ (same_new (o := .tup [.int 1, .int (-1)]) (Same.refl H) (.inl ht))
                have e : stepD ps.length (.tuple [.int i, .int y]) = (if false = true then !inV (V.int y) [V.int 1, V.int (-1)] else inV (V.int y) [V.int 1, V.int (-1)]) := by
                  rw [if_neg Bool.false_ne_true]
                  rw [stepD_tup, decide_eq_true hi]
                  show (true && decide (y = 1 ∨ y = -1)) = (((1 : Int) == y) || (((-1 : Int) == y) || false))
                  by_cases h1 : y = 1
                  · subst h1; rfl
                  · by_cases h3 : y = -1
                    · subst h3; rfl
                    · rw [decide_eq_false (by omega), beq_eq_false_iff_ne.mpr (Ne.symm h1), beq_eq_false_iff_ne.mpr (Ne.symm h3)]
                      rfl
                rw [e] at this
                exact this
            · rw [decide_eq_false hi]
              refine iteF ?_
              have e : stepD ps.length (.tuple [.int i, dv]) = false := by
                cases dv <;> first | rfl | (rw [stepD_tup, decide_eq_false hi]; rfl)
              have := q H (Same.refl _)
              rw [e] at this
              exact this
      · have e2 : (!decide (V.int ((xs.length : Nat) : Int) = V.int 2)) = true := by
          rw [decide_eq_false fun z => h2 (by have := V.int.inj z; omega)]
          rfl
        rw [e2]
        refine iteT ?_
        have e : stepD ps.length (.tuple ds) = false := by
          match ds, hlen with
          | [], _ => rfl
          | [_], _ => unfold stepD; split <;> first | rfl | (rename_i z; cases z)
          | [_, _], hlen => exact absurd hlen h2
          | _ :: _ :: _ :: _, _ => unfold stepD; split <;> first | rfl | (rename_i z; cases z)
        have := q H (Same.refl _)
        rw [e] at this
        exact this
theorem scStepEnds : FnScope ["web", "step", "number", "way", "tail", "head"] ["web", "step"] (defScope sStepEnds) := ⟨rfl, rfl, rfl, by decide +kernel, rfl, by decide +kernel, by decide +kernel⟩
theorem ok_stepends {f : Addr} {fd : FuncData} (F : Fun K "step_ends" "step_ends" sStepEnds f fd) (T : Txt K mg C) (ME : Md P w K mg base C 3 "edge" ["self", "number"] (spEdgeM C)) : FnOk P w K mg base CX0 4 f fd ["web", "step"] (spStepEnds K C) := by
  obtain ⟨g, gd, G, mm, bb⟩ := ME.ex
  refine F.ok scStepEnds (fun vs H Q E h => ?_) (fun cdv A outer s H vs Q E hr h => ?_)
  · obtain ⟨H0, p, n, ps, m, t, i, y, rfl, _⟩ := h
    rfl
  · obtain ⟨H0, p, n, ps, m, t, i, y, rfl, W, ht, hi, hy, q⟩ := h
    refine ⟨_, pss_cons (ps_asg (pv 1) (pg_tup rfl (pgs_cons (pg_name (i := 2) scStepEnds.nd rfl (Or.inl rfl)) (pgs_cons (pg_name (i := 3) scStepEnds.nd rfl (Or.inl rfl)) pgs_nil))))
      (pss_cons (ps_asg (pe_meth (pv 0) T.cl mm G hr bb .nil pass0 (pa_cons (pv 2) pa_nil)) (pg_tup rfl (pgs_cons (pg_name (i := 4) scStepEnds.nd rfl (Or.inl rfl)) (pgs_cons (pg_name (i := 5) scStepEnds.nd rfl (Or.inl rfl)) pgs_nil))))
      (pss_cons (ps_if (pt_cmpR op_eq (pv 3) pe_int (nomark _)) (pss_one (ps_ret (pe_tup (pa_cons (pv 4) (pa_cons (pv 5) pa_nil))))) pss_nil)
      (pss_one (ps_ret (pe_tup (pa_cons (pv 5) (pa_cons (pv 4) pa_nil))))))), ?_⟩
    obtain ⟨dx, le, lf, lfn, lt, ts, hp, _⟩ := id W
    refine ⟨_, rfl, t, _, rfl, ht, rfl, _, _, rfl, _, _, rfl, rfl, ?_⟩
    refine ⟨_, rfl, p, dx, _, rfl, hp, wf_none _ _ _ _ _ _ (by decide +kernel), _, rfl, H0, p, n, ps, m, i, rfl, W, hi, fun u hu => ?_⟩
    refine ⟨u, _, rfl, SqT.of hu, rfl, _, _, rfl, _, _, rfl, rfl, ?_⟩
    refine ⟨_, rfl, rfl, _, rfl, ?_⟩
    by_cases h1 : y = 1
    · subst h1
      rw [decide_eq_true rfl]
      refine iteT ⟨_, rfl, _, rfl, (by show 2 ≤ sizeLine; decide), fun v hv => q _ v (same_new (Same.refl _) (.inl hv)) hv ?_⟩
      rw [upd_same]
      rfl
    · rw [decide_eq_false fun z => h1 (V.int.inj z)]
      refine iteF ⟨_, rfl, _, rfl, (by show 2 ≤ sizeLine; decide), fun v hv => q _ v (same_new (Same.refl _) (.inl hv)) hv ?_⟩
      rw [upd_same]
      unfold endsAt
      rw [if_neg h1]
end
end Wb

namespace Wb
open PySem L2
/-- a comprehension over zip of two lists, of any lengths -/
theorem lc_zip {K : PySem.W.Frag} {a b : Addr} {xs ys : List V} {g : TG} {tt : TT} {te : TE} {vs : List Nat} {σ : L2.St} {H1 : Hp} {D : Addr} {Qd : Hp → Prop} (Pv : Nat → Hp → Prop) (h0 : Pv 0 (upd H1 D (.lst [])))
    (hl : ∀ i H, Pv i H → SqL K H a xs ∧ SqL K H b ys)
    (hs : ∀ i x y T H, xs[i]? = some x → ys[i]? = some y → Pv i H → H T = none → g (.ref T) (wipe σ vs) (upd H T (.tup [x, y])) fun σ2 H2 => wipe σ2 vs = wipe σ vs ∧ tt σ2 H2 fun b H3 =>
      if b = true then te σ2 H3 fun y H4 => ∃ acc, H4 D = some (.lst acc) ∧ acc.length < sizeLine ∧ Pv (i + 1) (upd H4 D (.lst (acc ++ [y]))) else Pv (i + 1) H3) (hd : ∀ H, Pv (min xs.length ys.length) H → Qd H) :
    ∃ W : Nat → Nat → Hp → Prop, (∃ m, W 0 m (upd H1 D (.lst []))) ∧ ∀ i m H, W i m H →
      ((Itz K a b).stop i H ∧ Qd H) ∨ ((Itz K a b).go i H ∧ ∃ Nx : Hp → Prop, (∀ H', Nx H' → ∃ m', m' < m ∧ W (i + 1) m' H') ∧ ∀ x H', (Itz K a b).yld i H x H' → g x (wipe σ vs) H' fun σ2 H2 => wipe σ2 vs = wipe σ vs ∧ tt σ2 H2 fun b H3 =>
        if b = true then te σ2 H3 fun y H4 => ∃ acc, H4 D = some (.lst acc) ∧ acc.length < sizeLine ∧ Nx (upd H4 D (.lst (acc ++ [y]))) else Nx H3) := by
  refine ⟨fun i m H => m = min xs.length ys.length - i ∧ i ≤ min xs.length ys.length ∧ Pv i H, ⟨min xs.length ys.length, by simp, Nat.zero_le _, h0⟩, ?_⟩
  rintro i m H ⟨rfl, hi, p⟩
  obtain ⟨q1, q2⟩ := hl i H p
  by_cases hlt : i < min xs.length ys.length
  · have h1 : i < xs.length := Nat.lt_of_lt_of_le hlt (Nat.min_le_left _ _)
    have h2 : i < ys.length := Nat.lt_of_lt_of_le hlt (Nat.min_le_right _ _)
    refine .inr ⟨⟨xs, ys, xs[i], ys[i], q1, q2, by simp [h1], by simp [h2]⟩, Pv (i + 1), fun H' p' => ⟨min xs.length ys.length - (i + 1), by omega, rfl, hlt, p'⟩, fun x H' y => ?_⟩
    obtain ⟨T, u, v, rfl, hT, rfl, y1, y2⟩ := y
    exact hs i u v T H (y1 xs q1) (y2 ys q2) p hT
  · have e : i = min xs.length ys.length := by omega
    subst e
    refine .inl ⟨⟨xs, ys, q1, q2, ?_⟩, hd H p⟩
    rcases Wm.min_or xs.length ys.length with ⟨e, _⟩ | ⟨e, _⟩
    · exact .inl (by rw [e]; exact Nat.le_refl _)
    · exact .inr (by rw [e]; exact Nat.le_refl _)
/-! ### walks as data -/
def endsD (ps : List (Nat × Nat)) : PyData → Nat × Nat
  | .tuple [.int i, .int w] => endsAt ps i.toNat w
  | _ => (0, 0)
/-- each begins where the one ahead ends -/
def chain (es : List (Nat × Nat)) : Bool := (es.zip (es.drop 1)).all fun q => decide (q.1.2 = q.2.1)
def walkD (ps : List (Nat × Nat)) : PyData → Bool
  | .list ds => decide (ds ≠ []) && (ds.all (stepD ps.length) && chain (ds.map (endsD ps)))
  | _ => false
theorem walkD_list (ps : List (Nat × Nat)) (ds : List PyData) : walkD ps (.list ds) = (decide (ds ≠ []) && (ds.all (stepD ps.length) && chain (ds.map (endsD ps)))) := rfl
def few (d : PyData) : Prop := ∀ ds, d = .list ds → ds.length ≤ 1000
theorem stepD_shape {m : Nat} {d : PyData} (h : stepD m d = true) : ∃ (i : Nat) (w : Int), d = .tuple [.int i, .int w] ∧ i < m ∧ (w = 1 ∨ w = -1) := by
  match d, h with
  | .tuple [.int i, .int w], h =>
    rw [stepD_tup, Bool.and_eq_true, decide_eq_true_eq, decide_eq_true_eq] at h
    refine ⟨i.toNat, w, ?_, by omega, h.2⟩
    rw [Int.toNat_of_nonneg h.1.1]
def spIsWalk (K : PySem.W.Frag) (C : Addr) : Sp := fun vs H Q _ => ∃ (H0 : Hp) (p : Addr) (n : Nat) (ps : List (Nat × Nat)) (m : Int) (x : V) (d : PyData), vs = [.ref p, x] ∧ WebAt C H0 H p n ps m ∧ ps.length ≤ 60 ∧ Vd K H x d ∧ few d ∧ ∀ H', Same H H' → Q (.bl (walkD ps d)) H'
theorem isT_two {K : PySem.W.Frag} {H : Hp} {x : V} {i w : Int} (h : Dp K H x (.tuple [.int i, .int w])) : ∃ t, x = .ref t ∧ SqT K H t [.int i, .int w] := by
  cases h with
  | tup h t =>
    cases t with
    | cons a t =>
      cases a
      cases t with
      | cons b t =>
        cases b
        cases t
        exact ⟨_, rfl, h⟩
def pairsV (es : List (Nat × Nat)) (ts : List Addr) (H : Hp) : Prop := ts.length = es.length ∧ ∀ (i : Nat) (t : Addr) (e : Nat × Nat), ts[i]? = some t → es[i]? = some e → H t = some (.tup [.int e.1, .int e.2])
def spLinked (K : PySem.W.Frag) : Sp := fun vs H Q _ => ∃ (D : Addr) (ts : List Addr) (es : List (Nat × Nat)), vs = [.ref D] ∧ H D = some (.lst (ts.map V.ref)) ∧ pairsV es ts H ∧ es.length ≤ 1000 ∧ ∀ H', Same H H' → Q (.bl (chain es)) H'
section
variable {P : Program} {w : World} {K : PySem.W.Frag} {mg : Str → Option Value} {base : Heap} {C : Addr}
abbrev linkedN : List Str := ["ends", "before", "after"]
theorem scLinked : FnScope linkedN ["ends"] (defScope sLinked) := ⟨rfl, rfl, rfl, by decide +kernel, rfl, by decide +kernel, by decide +kernel⟩
theorem ok_linked {f : Addr} {fd : FuncData} (F : Fun K "are_linked" "are_linked" sLinked f fd) (B : Bn mg) : FnOk P w K mg base CX0 1 f fd ["ends"] (spLinked K) := by
  refine F.ok scLinked (fun vs H Q E h => ?_) (fun cdv A outer s H vs Q E hr h => ?_)
  · obtain ⟨D, ts, es, rfl, _⟩ := h
    rfl
  · obtain ⟨D2, ts, es, rfl, h2, hts, hsz, q⟩ := h
    refine ⟨_, pss_one (ps_ret (pe_callB (cr_all rfl) (by rfl) B.all (by decide +kernel) (pa_cons (pe_lc (own := [("before", 1), ("after", 2)]) (g := gTup K 2 (gCons (gName 1) (gCons (gName 2) gNil))) rfl scLinked.nd
          (pi_zip (by rfl) B.zip (pa_cons (pv 0) (pa_cons (pe_slice sl_list (pv 0) (po_some pe_int) po_none) pa_nil))) (blkOk_by (N := linkedN) (sc := defScope sLinked) (by decide +kernel))
          (fun _ _ _ _ _ => pg_tup rfl (pgs_cons (pg_name (i := 1) scLinked.nd rfl (Or.inl rfl)) (pgs_cons (pg_name (i := 2) scLinked.nd rfl (Or.inl rfl)) pgs_nil))) (fun _ _ _ _ _ => pts_nil)
          (fun _ _ _ _ _ => pe_cmpR op_eq (pe_ix (r := rIxT K) ix_tup (pv 1) pe_int (fun _ _ => rfl)) (pe_ix (r := rIxT K) ix_tup (pv 2) pe_int (fun _ _ => rfl)) (nomark _))) pa_nil))), ?_⟩
    -- one behind another
    refine ⟨_, rfl, _, rfl, 1, rfl, D2, _, rfl, SqL.of h2, fun sl hsl => ?_⟩
    have ecut : cutV (ts.map V.ref) (some 1) none = (ts.drop 1).map V.ref := by
      unfold cutV
      rw [HT.sIx_none, show ((1 : Int)) = ((1 : Nat) : Int) from rfl, HT.sIx_nat, List.length_map, ← List.map_drop]
      by_cases h : 1 ≤ ts.length
      · rw [Nat.min_eq_left h, List.take_of_length_le (by rw [List.length_map, List.length_drop]; exact Nat.le_refl _)]
      · have : ts = [] := List.length_eq_zero_iff.mp (by omega)
        rw [this]
        rfl
    rw [ecut]
    have s3 : Same H (upd H sl (.lst ((ts.drop 1).map V.ref))) := same_new (Same.refl _) (.inl hsl)
    have h3sl : upd H sl (.lst ((ts.drop 1).map V.ref)) sl = some (.lst ((ts.drop 1).map V.ref)) := upd_same
    generalize upd H sl (.lst ((ts.drop 1).map V.ref)) = H3 at *
    have h3 := s3 _ _ h2
    refine ⟨D2, sl, _, _, rfl, SqL.of h3, SqL.of h3sl, fun D3 hD3 => lc_zip (K := K) (xs := ts.map V.ref) (ys := (ts.drop 1).map V.ref) (fun i H' => Same H3 H' ∧ H' D3 = some (.lst ((((es.zip (es.drop 1)).take i).map fun q => decide (q.1.2 = q.2.1)).map V.bl)))
      ⟨same_new (Same.refl _) (.inl hD3), upd_same⟩ (fun i H' ⟨s4, _⟩ => ⟨SqL.of (s4 _ _ h3), SqL.of (s4 _ _ h3sl)⟩) ?_ ?_⟩
    · rintro i x y T H4 hx1 hy1 ⟨s4, h4⟩ hT
      obtain ⟨t1, ht1, rfl⟩ := refs_get hx1
      obtain ⟨t2, ht2, rfl⟩ := refs_get hy1
      rw [List.getElem?_drop] at ht2
      have s5 : Same H4 (upd H4 T (.tup [.ref t1, .ref t2])) := same_new (Same.refl _) (.inl hT)
      have hi1 : i < es.length := by rw [← hts.1]; exact (List.getElem?_eq_some_iff.mp ht1).1
      have hi2 : 1 + i < es.length := by rw [← hts.1]; exact (List.getElem?_eq_some_iff.mp ht2).1
      obtain ⟨e1, he1⟩ : ∃ e, es[i]? = some e := ⟨_, List.getElem?_eq_getElem hi1⟩
      obtain ⟨e2, he2⟩ : ∃ e, es[1 + i]? = some e := ⟨_, List.getElem?_eq_getElem hi2⟩
      have v1 := s5 _ _ (s4 _ _ (s3 _ _ (hts.2 i t1 e1 ht1 he1)))
      have v2 := s5 _ _ (s4 _ _ (s3 _ _ (hts.2 (1 + i) t2 e2 ht2 he2)))
      refine ⟨T, _, rfl, SqT.of upd_same, rfl, _, _, rfl, _, _, rfl, rfl, rfl, tyes ?_⟩
      refine ⟨_, rfl, t1, _, 1, .int (e1.2 : Int), rfl, rfl, SqT.of v1, rfl, _, rfl, t2, _, 0, .int (e2.1 : Int), rfl, rfl, SqT.of v2, rfl, rfl, ?_⟩
      rw [dint]
      have hz : (es.zip (es.drop 1))[i]? = some (e1, e2) := by
        rw [List.getElem?_zip_eq_some]
        exact ⟨he1, by rw [List.getElem?_drop]; exact he2⟩
      refine ⟨_, s5 _ _ h4, ?_, same_new (s4.trans s5) (.inr hD3), ?_⟩
      · rw [List.length_map, List.length_map, List.length_take]
        exact small1000 (by have := Nat.min_le_left i (es.zip (es.drop 1)).length; omega)
      · rw [upd_same, Wm.take_snoc hz, List.map_append, List.map_append]
        rfl
    · rintro H4 ⟨s4, h4⟩
      have ez : min (ts.map V.ref).length ((ts.drop 1).map V.ref).length = (es.zip (es.drop 1)).length := by
        rw [List.length_zip, List.length_map, List.length_map, List.length_drop, List.length_drop, hts.1]
      rw [ez, List.take_length] at h4
      refine ⟨D3, _, rfl, SqL.of h4, ?_⟩
      have e : chain es = ((es.zip (es.drop 1)).map fun q => decide (q.1.2 = q.2.1)).all id := by
        rw [List.all_map]
        unfold chain
        rfl
      have := q H4 (s3.trans s4)
      rw [e] at this
      exact this
abbrev isWalkN : List Str := ["web", "thing", "entry", "step"]
theorem scIsWalk : FnScope isWalkN ["web", "thing"] (defScope sIsWalk) := ⟨rfl, rfl, rfl, by decide +kernel, rfl, by decide +kernel, by decide +kernel⟩
theorem ok_iswalk {f : Addr} {fd : FuncData} (F : Fun K "is_walk" "is_walk" sIsWalk f fd) (B : Bn mg) (D1 : Df P w K mg base 3 "is_step" ["web", "thing"] (spIsStep K C)) (D2 : Df P w K mg base 4 "step_ends" ["web", "step"] (spStepEnds K C)) (DL : Df P w K mg base 1 "are_linked" ["ends"] (spLinked K)) :
    FnOk P w K mg base CX0 5 f fd ["web", "thing"] (spIsWalk K C) := by
  obtain ⟨g1, gd1, G1, mg1, k1, b1⟩ := D1.ex
  obtain ⟨g2, gd2, G2, mg2, k2, b2⟩ := D2.ex
  obtain ⟨gL, gdL, GL, mgL, kL, bL⟩ := DL.ex
  refine F.ok scIsWalk (fun vs H Q E h => ?_) (fun cdv A outer s H vs Q E hr h => ?_)
  · obtain ⟨H0, p, n, ps, m, x, d, rfl, _⟩ := h
    rfl
  · obtain ⟨H0, p, n, ps, m, x, d, rfl, W, p60, hx, hfew, q⟩ := h
    have hr3 : Room 3 _ := hr.mono (by decide)
    have hrL : Room 1 _ := hr.mono (by decide)
    refine ⟨_, pss_cons (ps_if (PW.pt (pw_or (pt_not (pt_val (pe_callB call_isi (by rfl) B.isinstance (by decide +kernel) (pa_cons (pv 1) (pa_cons (pe_bltn (v := .ty "list") (by rfl) B.list (by decide +kernel) rfl) pa_nil)))))
        (pw_or1 (pt_cmpR op_eq (pe_callB call_len_seq (by rfl) B.len PySem.boot_len (pa_cons (pv 1) pa_nil)) pe_int (nomark _))))) (pss_one (ps_ret pe_bl)) pss_nil)
      (pss_cons (ps_if (pt_not (pt_val (pe_callB (cr_all rfl) (by rfl) B.all (by decide +kernel) (pa_cons (pe_lc (own := [("entry", 2)]) (g := gName 2) rfl scIsWalk.nd (pi_list (pv 1)) (blkOk_by (N := isWalkN) (sc := defScope sIsWalk) (by decide +kernel))
          (fun _ _ _ _ _ => pg_name (i := 2) scIsWalk.nd rfl (Or.inl rfl)) (fun _ _ _ _ _ => pts_nil) (fun _ _ _ _ _ => pe_call G1 hr3 rfl mg1 k1 b1 .nil pass0 (pa_cons (pv 0) (pa_cons (pv 2) pa_nil)))) pa_nil)))) (pss_one (ps_ret pe_bl)) pss_nil)
      (pss_one (ps_ret (pe_call GL hrL rfl mgL kL bL .nil pass0 (pa_cons (pe_lc (own := [("step", 3)]) (g := gName 3) rfl scIsWalk.nd (pi_list (pv 1)) (blkOk_by (N := isWalkN) (sc := defScope sIsWalk) (by decide +kernel))
          (fun _ _ _ _ _ => pg_name (i := 3) scIsWalk.nd rfl (Or.inl rfl)) (fun _ _ _ _ _ => pts_nil) (fun _ _ _ _ _ => pe_call G2 hr rfl mg2 k2 b2 .nil pass0 (pa_cons (pv 0) (pa_cons (pv 3) pa_nil)))) pa_nil))))), ?_⟩
    refine ⟨_, rfl, _, _, _, _, _, rfl, .ty _, hx.ty, kit_lst d, _, rfl, ?_⟩
    cases hd : isLst d with
    | false =>
      have e : walkD ps d = false := by
        cases d <;> first | rfl | cases hd
      refine iteT (iteT ?_)
      have := q H (Same.refl _)
      rw [e] at this
      exact this
    | true =>
      obtain ⟨a, xs, ds, rfl, rfl, hs, hall⟩ := hx.lst hd
      have hlen := DpAll.len hall
      have hsz : ds.length ≤ 1000 := hfew ds rfl
      refine iteF ⟨_, rfl, a, _, rfl, .inl hs, rfl, _, rfl, ?_⟩
      by_cases h0 : xs.length = 0
      · rw [decide_eq_true (show V.int ((xs.length : Nat) : Int) = V.int 0 by rw [h0]; rfl)]
        refine iteT ?_
        have e : walkD ps (.list ds) = false := by
          have : ds = [] := List.length_eq_zero_iff.mp (by omega)
          rw [this]
          rfl
        have := q H (Same.refl _)
        rw [e] at this
        exact this
      · rw [decide_eq_false (fun z => h0 (by have := V.int.inj z; omega) : ¬ V.int ((xs.length : Nat) : Int) = V.int 0)]
        refine iteF ?_
        have hne : ds ≠ [] := fun z => h0 (by rw [hlen, z]; rfl)
        -- all steps
        refine ⟨_, rfl, a, rfl, ⟨_, hs⟩, fun D hD => lc_list (K := K) (xs := xs) (fun i H' => Same H H' ∧ H' D = some (.lst (((ds.take i).map (stepD ps.length)).map V.bl)))
          ⟨same_new (Same.refl _) (.inl hD), upd_same⟩ (fun i H' _ ⟨s1, _⟩ => s1.seq hs) ?_ ?_⟩
        · rintro i x H1 hi ⟨s1, h1⟩
          obtain ⟨di, hdi, hxi⟩ := DpAll.get hall hi
          refine ⟨rfl, tyes ?_⟩
          refine ⟨_, rfl, _, rfl, H0, p, n, ps, m, x, di, rfl, W.same s1, p60, (Vd.dat hxi).same s1, fun H2 s2 => ?_⟩
          refine ⟨_, s2 _ _ h1, ?_, same_new (s1.trans s2) (.inr hD), ?_⟩
          · rw [List.length_map, List.length_map, List.length_take]
            exact small1000 (by have := (List.getElem?_eq_some_iff.mp hdi).1; have := Nat.min_le_left i ds.length; omega)
          · rw [upd_same, Wm.take_snoc hdi, List.map_append, List.map_append]
            rfl
        · rintro H1 ⟨s1, h1⟩
          rw [hlen, List.take_length] at h1
          refine ⟨D, ds.map (stepD ps.length), rfl, SqL.of h1, _, rfl, ?_⟩
          have eall : (ds.map (stepD ps.length)).all id = ds.all (stepD ps.length) := by rw [List.all_map]; rfl
          rw [eall]
          cases ha : ds.all (stepD ps.length) with
          | false =>
            refine iteT ?_
            have e : walkD ps (.list ds) = false := by
              rw [walkD_list, ha, Bool.false_and, Bool.and_false]
            have := q H1 s1
            rw [e] at this
            exact this
          | true =>
            refine iteF ?_
            have hstep := List.all_eq_true.mp ha
            -- their ends
            refine ⟨_, rfl, a, rfl, ⟨_, s1.seq hs⟩, fun D2 hD2 => lc_list (K := K) (xs := xs) (fun i H' => Same H1 H' ∧ ∃ ts, H' D2 = some (.lst (ts.map V.ref)) ∧ pairsV ((ds.take i).map (endsD ps)) ts H' ∧ D2 ∉ ts)
              ⟨same_new (Same.refl _) (.inl hD2), [], upd_same, ⟨by simp, fun i t e h => by simp at h⟩, by simp⟩ (fun i H' _ ⟨s2, _⟩ => s2.seq (s1.seq hs)) ?_ ?_⟩
            · rintro i x H2 hi ⟨s2, ts, h2, hts, hnot⟩
              obtain ⟨di, hdi, hxi⟩ := DpAll.get hall hi
              obtain ⟨j, y, rfl, hj, hy⟩ := stepD_shape (hstep di (mem_of_get hdi))
              obtain ⟨t, rfl, ht⟩ := isT_two (dp_same (s1.trans s2) hxi)
              refine ⟨rfl, tyes ?_⟩
              refine ⟨_, rfl, _, rfl, H0, p, n, ps, m, t, j, y, rfl, W.same (s1.trans s2), ht, hj, hy, fun H3 u s3 hu hu3 => ?_⟩
              have nuD : u ≠ D2 := (ne_of_none h2 hu).symm
              refine ⟨_, s3 _ _ h2, ?_, same_new (s2.trans s3) (.inr hD2), ts ++ [u], by rw [upd_same]; simp, ⟨?_, ?_⟩, ?_⟩
              · rw [List.length_map, hts.1, List.length_map, List.length_take]
                exact small1000 (by have := (List.getElem?_eq_some_iff.mp hdi).1; have := Nat.min_le_left i ds.length; omega)
              · rw [Wm.take_snoc hdi]
                simp [hts.1]
              · intro k t' e he1 he2
                have hne' : t' ≠ D2 := by
                  rintro rfl
                  rcases List.mem_append.mp (mem_of_get he1) with z | z
                  · exact hnot z
                  · exact nuD (by simpa using z : t' = u).symm
                rw [upd_ne hne']
                rw [Wm.take_snoc hdi, List.map_append] at he2
                by_cases hk : k < ts.length
                · rw [List.getElem?_append_left hk] at he1
                  rw [List.getElem?_append_left (by rw [← hts.1]; exact hk)] at he2
                  exact s3 _ _ (hts.2 k t' e he1 he2)
                · have ek : k = ts.length := by
                    have := (List.getElem?_eq_some_iff.mp he1).1
                    simp at this
                    omega
                  subst ek
                  rw [List.getElem?_append_right (Nat.le_refl _)] at he1
                  rw [hts.1, List.getElem?_append_right (Nat.le_refl _)] at he2
                  simp at he1 he2
                  subst he1 he2
                  exact hu3
              · simp only [List.mem_append, List.mem_singleton, not_or]
                exact ⟨hnot, nuD.symm⟩
            · rintro H2 ⟨s2, ts, h2, hts, hnot⟩
              rw [hlen, List.take_length] at hts
              generalize hes : ds.map (endsD ps) = es at *
              have eln : es.length = ds.length := by rw [← hes, List.length_map]
              refine ⟨D2, ts, es, rfl, h2, hts, by omega, fun H3 s3 => ?_⟩
              have e : walkD ps (.list ds) = chain es := by
                rw [walkD_list, ha, hes, decide_eq_true hne]
                rfl
              have := q H3 ((s1.trans s2).trans s3)
              rw [e] at this
              exact this
end
end Wb

namespace Wb
open PySem L2
/-- self.value = value, of a fresh exception -/
def spWE (K : PySem.W.Frag) : Sp := fun vs H Q _ => ∃ (a C : Addr) (x : V), vs = [.ref a, x] ∧ OexC K C ∧ PySem.W.findIn K (.ref C) "value" = some none ∧ H a = some (exo a C none) ∧
  ∀ dx, H dx = none → dx ≠ a → Q .non (upd (upd H dx (exd dx [("value", x)])) a (exo a C (some dx)))
/-- what the top says of an error class of one value -/
structure Ex (K : PySem.W.Frag) (mg : Str → Option Value) (x : Str) (CW fI : Addr) : Prop where
  o : OexC K CW
  no : PySem.W.findIn K (.ref CW) "value" = some none
  init : PySem.W.findIn K (.ref CW) "__init__" = some (some (.ref fI))
  ty : PySem.W.typeIn K (.ref fI) = some (.type "function")
  mg : mg x = some (.ref CW)
/-- the error of the class at CW whose value is x is in the air, all else stands -/
def Errs (E : XK) (CW : Addr) (H : Hp) (x : V) : Prop := ∀ H' d, Same H H' → H' d = some (.xd [("value", x)]) → E (.ref CW) (some d) H'
section
variable {P : Program} {w : World} {K : PySem.W.Frag} {mg : Str → Option Value} {base : Heap} {C : Addr}
theorem scWE : FnScope ["self", "value"] ["self", "value"] (defScope sWebErr) := ⟨rfl, rfl, rfl, by decide +kernel, rfl, by decide +kernel, by decide +kernel⟩
theorem ok_we {f : Addr} {fd : FuncData} (F : Fun K "__init__" "WebError.__init__" sWebErr f fd) : FnOk P w K mg base CX0 1 f fd ["self", "value"] (spWE K) := by
  refine F.ok scWE (fun vs H Q E h => ?_) (fun cdv A outer s H vs Q E hr h => ?_)
  · obtain ⟨a, C, x, rfl, _⟩ := h
    rfl
  · obtain ⟨a, C, x, rfl, T, no, ha, q⟩ := h
    refine ⟨_, pss_one (ps_ost (pv 0) (pv 1)), ?_⟩
    exact ⟨_, rfl, _, rfl, a, C, rfl, T, no, .inl ⟨ha, fun dx n ne => q dx n ne⟩⟩
/-- X(e) of such a class, in a raise -/
theorem mk_reads {CW : Addr} {ta : TA} {σ : L2.St} {H : Hp} {Q : XK} (T : OexC K CW) (no : PySem.W.findIn K (.ref CW) "value" = some none) (h : ta σ H fun vs H1 => ∃ x, vs = [x] ∧ ∀ H' d, Same H1 H' → H' d = some (.xd [("value", x)]) → Q (.ref CW) (some d) H')
    (mono : ∀ {R R' : List V → Hp → Prop}, (∀ vs H, R vs H → R' vs H) → ta σ H R → ta σ H R') : tMkO CW (spWE K) [] ta σ H Q := by
  refine mono (fun vs H1 hh => ?_) h
  obtain ⟨x, rfl, q⟩ := hh
  refine ⟨by show 1 ≤ 1000; decide, fun a ha => ⟨a, CW, x, rfl, T, no, upd_same, fun dx hdx hne => ⟨rfl, dx, [("value", x)], upd_same, by rw [upd_ne hne, upd_same], ?_, ?_⟩⟩⟩
  · rw [upd_ne hne] at hdx
    exact hdx
  · rw [upd_ne hne] at hdx
    refine q _ dx (fun b o e => ?_) upd_same
    have nb : b ≠ dx := ne_of_none e hdx
    have na : b ≠ a := ne_of_none e ha
    rw [upd_ne nb, del_ne na, upd_ne na, upd_ne nb, upd_ne na]
    exact e
/-- where a walk begins and ends -/
def walkEnds (ps : List (Nat × Nat)) : PyData → Nat × Nat
  | .list ds => ((endsD ps (ds.headD .none)).1, (endsD ps (ds.getLastD .none)).2)
  | _ => (0, 0)
def spEndsOf (K : PySem.W.Frag) (C CW : Addr) : Sp := fun vs H Q E => ∃ (H0 : Hp) (p : Addr) (n : Nat) (ps : List (Nat × Nat)) (m : Int) (x : V) (d : PyData), vs = [.ref p, x] ∧ WebAt C H0 H p n ps m ∧ ps.length ≤ 60 ∧ Vd K H x d ∧ few d ∧
  (walkD ps d = false → Errs E CW H x) ∧ (walkD ps d = true → ∀ H' u, Same H H' → H u = none → H' u = some (.tup [.int (walkEnds ps d).1, .int (walkEnds ps d).2]) → Q (.ref u) H')
theorem scEndsOf : FnScope ["web", "walk"] ["web", "walk"] (defScope sEndsOf) := ⟨rfl, rfl, rfl, by decide +kernel, rfl, by decide +kernel, by decide +kernel⟩
theorem ok_endsof {f fI CW : Addr} {fd fdI : FuncData} (F : Fun K "ends_of" "ends_of" sEndsOf f fd) (B : Bn mg) (T : Ex K mg "InvalidWalk" CW fI) (FI : FnOk P w K mg base CX0 1 fI fdI ["self", "value"] (spWE K)) (bI : Binds K fdI ["self", "value"] [])
    (D1 : Df P w K mg base 5 "is_walk" ["web", "thing"] (spIsWalk K C)) (D2 : Df P w K mg base 4 "step_ends" ["web", "step"] (spStepEnds K C)) : FnOk P w K mg base (L2.CX P w) 6 f fd ["web", "walk"] (spEndsOf K C CW) := by
  obtain ⟨g1, gd1, G1, mg1, k1, b1⟩ := D1.ex
  obtain ⟨g2, gd2, G2, mg2, k2, b2⟩ := D2.ex
  refine F.okX scEndsOf (fun vs H Q E h => ?_) (fun cdv A outer s H vs Q E hr h => ?_)
  · obtain ⟨H0, p, n, ps, m, x, d, rfl, _⟩ := h
    rfl
  · obtain ⟨H0, p, n, ps, m, x, d, rfl, W, p60, hx, hfew, qE, q⟩ := h
    have hr4 : Room 4 _ := hr.mono (by decide)
    have hr2 : Room 2 _ := hr.mono (by decide)
    refine ⟨_, pss_cons (ps_if (pt_not (pt_val (pe_call G1 hr rfl mg1 k1 b1 .nil pass0 (pa_cons (pv 0) (pa_cons (pv 1) pa_nil)))))
        (pss_one (ps_raise rfl (takes_of rfl rfl rfl rfl) (pmk_oex T.o T.init T.ty FI hr2 bI .nil pass0 rfl T.mg (pa_cons (pv 1) pa_nil)))) pss_nil)
      (pss_one (ps_ret (pe_tup (pa_cons (pe_ix ix_tup (pe_call G2 hr4 rfl mg2 k2 b2 .nil pass0 (pa_cons (pv 0) (pa_cons (pe_ix ix_list (pv 1) pe_int (fun _ _ => rfl)) pa_nil))) pe_int (fun _ _ => rfl))
        (pa_cons (pe_ix ix_tup (pe_call G2 hr4 rfl mg2 k2 b2 .nil pass0 (pa_cons (pv 0) (pa_cons (pe_ix ix_list (pv 1) (pe_un un_neg pe_int) (fun _ _ => rfl)) pa_nil))) pe_int (fun _ _ => rfl)) pa_nil))))), ?_⟩
    refine ⟨_, rfl, _, rfl, H0, p, n, ps, m, x, d, rfl, W, p60, hx, hfew, fun H1 s1 => ⟨_, rfl, ?_⟩⟩
    cases hw : walkD ps d with
    | false =>
      refine iteT ?_
      exact mk_reads T.o T.no ⟨_, rfl, x, rfl, fun H' dd s2 hd => qE hw H' dd (s1.trans s2) hd⟩ (fun hh ⟨v, e, r⟩ => ⟨v, e, hh _ _ r⟩)
    | true =>
      refine iteF ?_
      match d, hw, hx, hfew, q hw with
      | .list ds, hw, hx, hfew, q =>
        rw [walkD_list, Bool.and_eq_true, Bool.and_eq_true, decide_eq_true_eq] at hw
        obtain ⟨hne, hall2, _⟩ := hw
        have hstep := List.all_eq_true.mp hall2
        obtain ⟨a, xs, ds', e', rfl, hs, hall⟩ := hx.lst rfl
        cases e'
        have hlen := DpAll.len hall
        have hpos : 0 < ds.length := List.length_pos_iff.mpr hne
        -- the first step, the last one
        obtain ⟨x0, hx0⟩ : ∃ x, xs[0]? = some x := ⟨_, List.getElem?_eq_getElem (show 0 < xs.length by omega)⟩
        obtain ⟨xl, hxl⟩ : ∃ x, xs[xs.length - 1]? = some x := ⟨_, List.getElem?_eq_getElem (show xs.length - 1 < xs.length by omega)⟩
        obtain ⟨d0, hd0, hv0⟩ := DpAll.get hall hx0
        obtain ⟨dl, hdl, hvl⟩ := DpAll.get hall hxl
        obtain ⟨i0, y0, rfl, hi0, hy0⟩ := stepD_shape (hstep d0 (mem_of_get hd0))
        obtain ⟨il, yl, rfl, hil, hyl⟩ := stepD_shape (hstep dl (mem_of_get hdl))
        obtain ⟨t0, rfl, ht0⟩ := isT_two hv0
        obtain ⟨tl, rfl, htl⟩ := isT_two hvl
        have eh : ds.headD .none = .tuple [.int i0, .int y0] := by
          cases ds with
          | nil => cases hd0
          | cons z r => exact Option.some.inj hd0
        have elst : ds.getLastD .none = .tuple [.int il, .int yl] := by
          rw [List.getLastD_eq_getLast?, List.getLast?_eq_getElem?, ← hlen, hdl]
          rfl
        have ew : walkEnds ps (.list ds) = ((endsAt ps i0 y0).1, (endsAt ps il yl).2) := by
          show ((endsD ps (ds.headD .none)).1, (endsD ps (ds.getLastD .none)).2) = _
          rw [eh, elst]
          show ((endsAt ps (i0 : Int).toNat y0).1, (endsAt ps (il : Int).toNat yl).2) = _
          rw [Int.toNat_natCast, Int.toNat_natCast]
        have atl : atI xs (-1) = some (V.ref tl) := by
          unfold atI ixN
          rw [if_neg (by decide), if_pos (by omega)]
          have e : ((-1 : Int) + (xs.length : Int)).toNat = xs.length - 1 := by omega
          show xs[((-1 : Int) + (xs.length : Int)).toNat]? = some (V.ref tl)
          rw [e]
          exact hxl
        refine ⟨_, rfl, _, rfl, a, _, _, .ref t0, rfl, rfl, s1.seq hs, atI_nat (j := 0) hx0, H0, p, n, ps, m, t0, i0, y0, rfl, W.same s1, sqT_same s1 ht0, hi0, hy0, fun H2 u s2 hu hu2 => ?_⟩
        refine ⟨u, _, 0, .int ((endsAt ps i0 y0).1 : Int), rfl, rfl, SqT.of hu2, rfl, ?_⟩
        refine ⟨_, rfl, _, rfl, 1, rfl, a, _, _, .ref tl, rfl, rfl, s2.seq (s1.seq hs), atl, H0, p, n, ps, m, tl, il, yl, rfl, (W.same s1).same s2, sqT_same s2 (sqT_same s1 htl), hil, hyl, fun H3 u2 s3 hu2' hu3 => ?_⟩
        refine ⟨u2, _, 1, .int ((endsAt ps il yl).2 : Int), rfl, rfl, SqT.of hu3, rfl, (by show 2 ≤ sizeLine; decide), fun t ht => ?_⟩
        have s4 := same_new (o := .tup [.int ((endsAt ps i0 y0).1 : Int), .int ((endsAt ps il yl).2 : Int)]) ((s1.trans s2).trans s3) (.inl ht)
        refine q _ t s4 (((s1.trans s2).trans s3).free ht) ?_
        rw [ew, upd_same]
      | .none, hw, _, _, _ => cases hw
      | .bool _, hw, _, _, _ => cases hw
      | .int _, hw, _, _, _ => cases hw
      | .str _, hw, _, _, _ => cases hw
      | .tuple _, hw, _, _, _ => cases hw
      | .dict _, hw, _, _, _ => cases hw
def closedD (ps : List (Nat × Nat)) (d : PyData) : Bool := walkD ps d && decide ((walkEnds ps d).1 = (walkEnds ps d).2)
def spIsClosed (K : PySem.W.Frag) (C : Addr) : Sp := fun vs H Q _ => ∃ (H0 : Hp) (p : Addr) (n : Nat) (ps : List (Nat × Nat)) (m : Int) (x : V) (d : PyData), vs = [.ref p, x] ∧ WebAt C H0 H p n ps m ∧ ps.length ≤ 60 ∧ Vd K H x d ∧ few d ∧ ∀ H', Same H H' → Q (.bl (closedD ps d)) H'
theorem scIsClosed : FnScope ["web", "thing", "start", "finish"] ["web", "thing"] (defScope sIsClosed) := ⟨rfl, rfl, rfl, by decide +kernel, rfl, by decide +kernel, by decide +kernel⟩
theorem ok_isclosed {f fE CW : Addr} {fd fdE : FuncData} (F : Fun K "is_closed" "is_closed" sIsClosed f fd) (D1 : Df P w K mg base 5 "is_walk" ["web", "thing"] (spIsWalk K C)) (GE : FnOk P w K mg base (L2.CX P w) 6 fE fdE ["web", "walk"] (spEndsOf K C CW))
    (mgE : mg "ends_of" = some (.ref fE)) (kE : PySem.W.keepIn K (.ref fE) = true) (bE : Binds K fdE ["web", "walk"] []) : FnOk P w K mg base CX0 7 f fd ["web", "thing"] (spIsClosed K C) := by
  obtain ⟨g1, gd1, G1, mg1, k1, b1⟩ := D1.ex
  refine F.ok scIsClosed (fun vs H Q E h => ?_) (fun cdv A outer s H vs Q E hr h => ?_)
  · obtain ⟨H0, p, n, ps, m, x, d, rfl, _⟩ := h
    rfl
  · obtain ⟨H0, p, n, ps, m, x, d, rfl, W, p60, hx, hfew, q⟩ := h
    have hr5 : Room 5 _ := hr.mono (by decide)
    refine ⟨_, pss_cons (ps_if (pt_not (pt_val (pe_call G1 hr5 rfl mg1 k1 b1 .nil pass0 (pa_cons (pv 0) (pa_cons (pv 1) pa_nil))))) (pss_one (ps_ret pe_bl)) pss_nil)
      (pss_cons (ps_asg (pe_call GE hr rfl mgE kE bE .nil passL (pa_cons (pv 0) (pa_cons (pv 1) pa_nil))) (pg_tup rfl (pgs_cons (pg_name (i := 2) scIsClosed.nd rfl (Or.inl rfl)) (pgs_cons (pg_name (i := 3) scIsClosed.nd rfl (Or.inl rfl)) pgs_nil))))
      (pss_one (ps_ret (pe_cmpR op_eq (pv 2) (pv 3) (nomark _))))), ?_⟩
    refine ⟨_, rfl, _, rfl, H0, p, n, ps, m, x, d, rfl, W, p60, hx, hfew, fun H1 s1 => ⟨_, rfl, ?_⟩⟩
    cases hw : walkD ps d with
    | false =>
      refine iteT ?_
      have := q H1 s1
      unfold closedD at this
      rw [hw, Bool.false_and] at this
      exact this
    | true =>
      refine iteF ⟨_, rfl, _, rfl, H0, p, n, ps, m, x, d, rfl, W.same s1, p60, hx.same s1, hfew, fun z => ?_, fun _ H2 u s2 hu hu2 => ?_⟩
      · rw [hw] at z
        cases z
      · refine ⟨u, _, rfl, SqT.of hu2, rfl, _, _, rfl, _, _, rfl, rfl, _, rfl, _, rfl, rfl, ?_⟩
        rw [dint]
        have := q H2 (s1.trans s2)
        unfold closedD at this
        rw [hw, Bool.true_and] at this
        exact this
end
end Wb

namespace Wb
open PySem PySem.Spec PyProof.Rows L2 HT
/-- t[::w], t a pair, w 1 or -1: the pair itself, or a new one the other way round -/
def tTurn (K : PySem.W.Frag) (te ts : TE) : TE := fun σ H Q => te σ H fun x H1 => ts σ H1 fun y H2 => ∃ a u v w, x = .ref a ∧ SqT K H2 a [u, v] ∧ y = .int w ∧ (w = 1 ∨ w = -1) ∧ (w = 1 → Q (.ref a) H2) ∧ (w = -1 → ∀ p, H2 p = none → Q (.ref p) (upd H2 p (.tup [v, u])))
section
variable {prog : Program} {w : World} {A : Around} {E : Value → Shared → Prop} {s : Shared}
theorem applied_two {sl : Addr} {z : Int} {t : Tok} {Q : Int × Int × Nat → Shared → Prop} (hs : s.heap.IsSliceOf sl .none .none (.int z t)) (hz : z = 1 ∨ z = -1) (h : Q (if z = 1 then 0 else 1, z, 2) s) :
    wpAny (model prog w) A (Builtin.Slice.sliceApplied (.ref sl) (pure (2 : Int))) Q E s := by
  obtain ⟨os, hos, hcs, hds⟩ := id hs
  unfold Builtin.Slice.sliceApplied Builtin.Slice.sliceFields
  refine wpAny_bind (wpAny_bind (wpAny_field hos hds (x := .none) rfl (wpAny_bind (wpAny_field hos hds (x := .none) rfl (wpAny_bind (wpAny_field hos hds (x := .int z t) rfl (wpAny_pure ?_)))))))
  refine wpAny_bind (slicePart_int ?_)
  rcases hz with rfl | rfl
  · show wpAny _ _ (if ((1 : Int) == 0) = true then _ else _) _ _ s
    rw [if_neg (by decide)]
    refine wpAny_bind (slicePart_none (wpAny_bind (slicePart_none (wpAny_bind (wpAny_pure ?_)))))
    exact wpAny_pure h
  · show wpAny _ _ (if ((-1 : Int) == 0) = true then _ else _) _ _ s
    rw [if_neg (by decide)]
    refine wpAny_bind (slicePart_none (wpAny_bind (slicePart_none (wpAny_bind (wpAny_pure ?_)))))
    exact wpAny_pure h
theorem turned_two {a sl : Addr} {x y : Value} {z : Int} {t : Tok} {Q : Value → Shared → Prop} (ht : IsTup s.heap a #[x, y]) (hs : s.heap.IsSliceOf sl .none .none (.int z t)) (hz : z = 1 ∨ z = -1)
    (h1 : z = 1 → Q (.ref a) s) (h2 : z = -1 → Q (.ref s.heap.objs.size) { s with heap := s.heap.push { cls := .type "tuple", data := .seq #[y, x] } }) : wpAny (model prog w) A (getItem (.ref a) (.ref sl)) Q E s := by
  obtain ⟨os, hos, hcs, hds⟩ := id hs
  have isSl : s.TypeIs (.ref sl) "slice" := ⟨os, hos, hcs⟩
  unfold getItem
  try with_reducible refine wpAny_holding ?_
  first | refine wpAny_bind (wpAny_pure ?_) | skip
  refine wpAny_bind (wpAny_sequenceKey ht.typeIs (by decide) (wpAny_bind (wpAny_callSpecial?_slot (name := Str.ofString "__getitem__") ht.typeIs PyProof.Rows.slot_tuple_getitem
    (wpAny_call_entry PyProof.Rows.slot_tuple_getitem ht.typeIs entry_tuple_getitem ?_ (args_tuple_getitem _ _)))))
  show wpAny _ _ (Builtin.Tuple.tupleItemsOf (.ref a) >>= _) _ _ s
  refine wpAny_bind (tupleItemsOf_ ht (wpAny_bind (wpAny_typeOf isSl ?_)))
  rw [if_pos (by decide)]
  refine wpAny_bind (applied_two hs hz ?_)
  rcases hz with rfl | rfl
  · show wpAny _ _ (if (((0 : Int) == 0 && (1 : Int) == 1 && (2 : Nat) == 2) = true) then _ else _) _ _ s
    rw [if_pos (by decide)]
    refine wpAny_bind ?_
    show wpAny _ _ (typeOf (.ref a) >>= fun T => pure (T == .type "tuple")) _ _ s
    refine wpAny_bind (wpAny_typeOf ht.typeIs (wpAny_pure ?_))
    first
      | rw [if_pos (by decide)]
      | simp only [beq_self_eq_true, if_true]
    first
      | exact wpAny_bind (wpAny_rule (wpAny_pure ⟨_, rfl, wpAny_pure (h1 rfl)⟩))
      | exact wpAny_bind (wpAny_rule (wpAny_bind (wpAny_pure (wpAny_pure ⟨_, rfl, wpAny_pure (h1 rfl)⟩))))
  · have fit : sizeOk (.seq #[y, x]) := by
      show 2 ≤ sizeLine
      decide
    have got := h2 rfl
    show wpAny _ _ (if (((1 : Int) == 0 && (-1 : Int) == 1 && (2 : Nat) == 2) = true) then _ else _) _ _ s
    rw [if_neg (by decide)]
    have pick : ((List.range 2).filterMap fun (k : Nat) => (#[x, y] : Array Value)[((1 : Int) + (k : Int) * (-1)).toNat]?).toArray = #[y, x] := by rfl
    first
      | exact wpAny_bind (m := Builtin.Tuple.tupleExact _) (wpAny_newObj_type (wpAny_pure ⟨_, rfl, wpAny_pure got⟩) fit)
      | exact wpAny_bind (m := Builtin.Tuple.tupleExact _) (wpAny_newObj_type (wpAny_bind (wpAny_pure (wpAny_pure ⟨_, rfl, wpAny_pure got⟩))) fit)
      | exact wpAny_bind (wpAny_bind (m := Builtin.Tuple.tupleExact _) (wpAny_newObj_type (wpAny_pure (wpAny_pure ⟨_, rfl, wpAny_pure got⟩)) fit))
      | exact wpAny_bind (wpAny_bind (m := Builtin.Tuple.tupleExact _) (wpAny_newObj_type (wpAny_pure ⟨_, rfl, wpAny_pure got⟩) fit))
end
theorem pe_turn {X : Cx} {e st : Expr} {te ts : TE} {p3 pos : Pos} (he : PE X e te) (hst : PE X st ts) : PE X (.Subscript e (.Slice none none (some st) p3) pos) (tTurn X.K te ts) := by
  refine ⟨fun pins s σ H Q I h => ?_⟩
  refine Subscript_ (thn (he.run pins s σ H _ I h) fun v s1 ⟨x, H1, I1, r1, q1⟩ => ?_)
  refine wpAny_Slice (thn (po_none.run pins s1 σ H1 (fun o H2 => o = none ∧ H2 = H1) I1 ⟨rfl, rfl⟩) fun vl s2 ⟨l, H2, I2, pl, el, e2⟩ => ?_)
  subst el e2
  refine thn (po_none.run pins s2 σ H2 (fun o H3 => o = none ∧ H3 = H2) I2 ⟨rfl, rfl⟩) fun vu s3 ⟨u, H3, I3, pu, eu, e3⟩ => ?_
  subst eu e3
  rw [evalPart_some]
  refine thn (hst.run pins s3 σ H3 _ I3 q1) fun vs s4 ⟨y, H4, I4, ry, a, c, d, z, ex, ht, ey, hz, qa, qb⟩ => ?_
  subst ex ey
  cases r1
  cases pl
  cases pu
  obtain ⟨t, rfl⟩ := ry
  have I5 : Inv X pins σ H4 { s4 with heap := s4.heap.push { cls := .type "slice", data := .fields #[.none, .none, .int z t] } } := I4.kept (t' := s4.toks) fun b ob q => Heap.get?_push_of_some _ q
  obtain ⟨its, r, isT, len⟩ := I5.tuple ht
  cases r with
  | cons rc r =>
    rename_i uc us
    cases r with
    | cons rd r =>
      rename_i ud us
      cases r
      show wpAny (model X.prog X.w) X.A (subscriptTail e (.Slice none none (some st) p3) (.ref a) (.ref s4.heap.objs.size)) (EP X pins σ Q) X.xe { s4 with heap := s4.heap.push { cls := .type "slice", data := .fields #[.none, .none, .int z t] } }
      refine tail_any (ops := [.ref a, .ref s4.heap.objs.size]) isT.typeIs PyProof.Rows.slot_tuple_getitem.lookup ?_ (by with_unfolding_all rfl)
      refine turned_two isT (Heap.IsSliceOf.new _ .none .none (.int z t)) hz (fun e1 => ⟨.ref a, H4, I5, rfl, qa e1⟩) (fun e1 => ?_)
      refine ⟨.ref _, _, I5.laid (t' := s4.toks) (o := .tup [d, c]) (fun b ob q => Heap.get?_push_of_some _ q) (Nat.le_refl _) ?_, rfl, qb e1 _ (I5.hok.fresh (Nat.le_refl _))⟩
      exact ⟨by show 2 ≤ sizeLine; decide, [ud, uc], .cons rd (.cons rc .nil), IsTup.new _ _⟩
end Wb
namespace Wb
open PySem L2
/-! ### lists of numbers and lists of such, as data -/
def dNums (l : List Nat) : List PyData := l.map fun (v : Nat) => PyData.int (v : Int)
def dInts (l : List Nat) : PyData := .list (dNums l)
def dGroups (gs : List (List Nat)) : PyData := .list (gs.map dInts)
theorem nums_lay : ∀ l : List Nat, PyData.canLayAll0 (dNums l) = true ∧ PyData.depthAll (dNums l) = 0
  | [] => ⟨by simp [dNums, PyData.canLayAll0], by simp [dNums, PyData.depthAll]⟩
  | v :: l => by
    have ih := nums_lay l
    have e : dNums (v :: l) = PyData.int (v : Int) :: dNums l := rfl
    rw [e]
    refine ⟨?_, ?_⟩
    · rw [PyData.canLayAll0, ih.1]; simp [PyData.canLay0]
    · rw [PyData.depthAll, ih.2]; simp [PyData.depth]
theorem ints_lay (l : List Nat) : (dInts l).canLay0 = true ∧ (dInts l).depth ≤ 1 := by
  have h := nums_lay l
  unfold dInts
  exact ⟨by rw [PyData.canLay0]; exact h.1, by rw [PyData.depth, h.2]; exact Nat.le_refl _⟩
theorem groups_lay : ∀ gs : List (List Nat), PyData.canLayAll0 (gs.map dInts) = true ∧ PyData.depthAll (gs.map dInts) ≤ 1
  | [] => ⟨by simp [PyData.canLayAll0], by simp [PyData.depthAll]⟩
  | g :: gs => by
    have ih := groups_lay gs
    have h := ints_lay g
    rw [List.map_cons]
    refine ⟨?_, ?_⟩
    · rw [PyData.canLayAll0, ih.1, h.1]; rfl
    · rw [PyData.depthAll]; exact Nat.max_le.mpr ⟨h.2, ih.2⟩
theorem shaped_ints (l : List Nat) : SeqAt.shaped (dInts l) = true := by
  unfold SeqAt.shaped
  rw [(ints_lay l).1, decide_eq_true (Nat.le_trans (ints_lay l).2 (by decide))]
  rfl
theorem shaped_groups (gs : List (List Nat)) : SeqAt.shaped (dGroups gs) = true := by
  have h := groups_lay gs
  unfold SeqAt.shaped dGroups
  have h1 : (PyData.list (gs.map dInts)).canLay0 = true := by rw [PyData.canLay0]; exact h.1
  have h2 : (PyData.list (gs.map dInts)).depth ≤ 64 := by rw [PyData.depth]; exact Nat.le_trans (Nat.succ_le_succ h.2) (by decide)
  rw [h1, decide_eq_true h2]
  rfl
theorem eqv_groups (gs : List (List Nat)) : PyData.eqv (dGroups gs) (dGroups gs) = true := SeqAt.eqv_refl _ (by rw [dGroups, PyData.canLay0]; exact (groups_lay gs).1)
theorem eqv_ints (l : List Nat) : PyData.eqv (dInts l) (dInts l) = true := SeqAt.eqv_refl _ (ints_lay l).1
theorem eqv_groups_nil (gs : List (List Nat)) : PyData.eqv (dGroups gs) (dGroups []) = decide (gs = []) := by
  cases gs with
  | nil => exact eqv_groups []
  | cons g gs =>
    unfold dGroups
    rw [PyData.eqv]
    simp [PyData.eqvAll]
theorem dp_nums {K : PySem.W.Frag} {H : Hp} : ∀ l : List Nat, DpAll K H (ivs l) (dNums l)
  | [] => .nil
  | v :: l => .cons (.int _) (dp_nums l)
theorem dp_ints {K : PySem.W.Frag} {H : Hp} {a : Addr} {l : List Nat} (h : H a = some (.lst (ivs l))) : Dp K H (.ref a) (dInts l) := .lst (SqL.of h) (dp_nums l)
end Wb

namespace Wb
open PySem L2
/-! ### the law's own walk through the steps -/
def nodesGo (ps : List (Nat × Nat)) : List Nat → List PyData → Option (List Nat)
  | f, [] => some f
  | f, d :: ds => if stepD ps.length d = true then (if f ≠ [] ∧ f.getLastD 0 ≠ (endsD ps d).1 then none else nodesGo ps ((if f = [] then [(endsD ps d).1] else f) ++ [(endsD ps d).2]) ds) else none
def nodesD (ps : List (Nat × Nat)) : PyData → List Nat
  | .list ds => (nodesGo ps [] ds).getD []
  | _ => []
def chainFrom : Nat → List (Nat × Nat) → Bool
  | _, [] => true
  | l, e :: es => decide (l = e.1) && chainFrom e.2 es
theorem chain_cons (e : Nat × Nat) : ∀ es : List (Nat × Nat), chain (e :: es) = chainFrom e.2 es
  | [] => rfl
  | f :: es => by
    have ih := chain_cons f es
    show (((e, f) :: (f :: es).zip es).all fun q => decide (q.1.2 = q.2.1)) = (decide (e.2 = f.1) && chainFrom f.2 es)
    rw [List.all_cons, ← ih]
    rfl
theorem lastD_snoc (f : List Nat) (x : Nat) : (f ++ [x]).getLastD 0 = x := by
  rw [List.getLastD_eq_getLast?]
  simp
theorem all_c (p : PyData → Bool) (d : PyData) (ds : List PyData) : (d :: ds).all p = (p d && ds.all p) := List.all_cons
theorem go_cons (ps : List (Nat × Nat)) (f : List Nat) (d : PyData) (ds : List PyData) : nodesGo ps f (d :: ds) = if stepD ps.length d = true then (if f ≠ [] ∧ f.getLastD 0 ≠ (endsD ps d).1 then none else nodesGo ps ((if f = [] then [(endsD ps d).1] else f) ++ [(endsD ps d).2]) ds) else none := rfl
theorem go_some (ps : List (Nat × Nat)) : ∀ (ds : List PyData) (f : List Nat), f ≠ [] → nodesGo ps f ds = if (ds.all (stepD ps.length) && chainFrom (f.getLastD 0) (ds.map (endsD ps))) = true then some (f ++ ds.map fun d => (endsD ps d).2) else none
  | [], f, _ => by
    show some f = if true = true then some (f ++ []) else none
    rw [if_pos rfl, List.append_nil]
  | d :: ds, f, hf => by
    have ih := go_some ps ds (f ++ [(endsD ps d).2]) (by simp)
    rw [lastD_snoc] at ih
    have ec : chainFrom (f.getLastD 0) ((d :: ds).map (endsD ps)) = (decide (f.getLastD 0 = (endsD ps d).1) && chainFrom (endsD ps d).2 (ds.map (endsD ps))) := rfl
    rw [go_cons, if_neg hf, ih, all_c, ec]
    cases hs : stepD ps.length d with
    | false => rw [if_neg Bool.false_ne_true, Bool.false_and, Bool.false_and, if_neg Bool.false_ne_true]
    | true =>
      rw [if_pos rfl, Bool.true_and]
      by_cases hl : f.getLastD 0 = (endsD ps d).1
      · rw [if_neg (fun z => z.2 hl), decide_eq_true hl, Bool.true_and, List.map_cons, List.append_assoc]
        rfl
      · rw [if_pos ⟨hf, hl⟩, decide_eq_false hl, Bool.false_and, Bool.and_false, if_neg Bool.false_ne_true]
theorem nodes_cons (ps : List (Nat × Nat)) (d : PyData) (ds : List PyData) : nodesD ps (.list (d :: ds)) = if walkD ps (.list (d :: ds)) = true then (endsD ps d).1 :: (endsD ps d).2 :: ds.map (fun d => (endsD ps d).2) else [] := by
  have e : nodesD ps (.list (d :: ds)) = (nodesGo ps [] (d :: ds)).getD [] := rfl
  have e2 : (if ([] : List Nat) = [] then [(endsD ps d).1] else []) ++ [(endsD ps d).2] = [(endsD ps d).1, (endsD ps d).2] := rfl
  have e3 : ([(endsD ps d).1, (endsD ps d).2] : List Nat).getLastD 0 = (endsD ps d).2 := rfl
  rw [e, walkD_list, go_cons, e2, go_some ps ds _ (by simp), e3, all_c, List.map_cons, chain_cons, decide_eq_true (by simp : d :: ds ≠ []), Bool.true_and]
  cases hs : stepD ps.length d with
  | false =>
    rw [if_neg Bool.false_ne_true, Bool.false_and, Bool.false_and, if_neg Bool.false_ne_true]
    rfl
  | true =>
    rw [if_pos rfl, if_neg (fun z => z.1 rfl), Bool.true_and]
    cases hc : (ds.all (stepD ps.length) && chainFrom (endsD ps d).2 (ds.map (endsD ps))) with
    | true =>
      rw [if_pos rfl, if_pos rfl]
      rfl
    | false =>
      rw [if_neg Bool.false_ne_true, if_neg Bool.false_ne_true]
      rfl
theorem last_map (g : PyData → Nat) (z : PyData) : ∀ (ds : List PyData), ds ≠ [] → (ds.map g).getLastD 0 = g (ds.getLastD z)
  | [], h => absurd rfl h
  | [_], _ => rfl
  | _ :: y :: r, _ => by
    have ih := last_map g z (y :: r) (by simp)
    rw [List.getLastD_eq_getLast?] at ih ⊢
    rw [List.getLastD_eq_getLast?] at ih ⊢
    rw [List.map_cons, List.map_cons, List.getLast?_cons_cons, List.getLast?_cons_cons]
    exact ih
theorem nodes_walk (ps : List (Nat × Nat)) (d : PyData) : walkD ps d = decide (nodesD ps d ≠ []) := by
  match d with
  | .list [] => rfl
  | .list (d :: ds) =>
    rw [nodes_cons]
    cases h : walkD ps (.list (d :: ds)) with
    | true => simp
    | false => simp
  | .none => rfl
  | .bool _ => rfl
  | .int _ => rfl
  | .str _ => rfl
  | .tuple _ => rfl
  | .dict _ => rfl
theorem nodes_ends (ps : List (Nat × Nat)) (d : PyData) (h : walkD ps d = true) : (nodesD ps d).headD 0 = (walkEnds ps d).1 ∧ (nodesD ps d).getLastD 0 = (walkEnds ps d).2 := by
  match d, h with
  | .list [], h => cases h
  | .list (d :: ds), h =>
    rw [nodes_cons, if_pos h]
    refine ⟨rfl, ?_⟩
    show ((endsD ps d).1 :: (endsD ps d).2 :: ds.map (fun d => (endsD ps d).2)).getLastD 0 = (endsD ps ((d :: ds).getLastD .none)).2
    rw [← last_map (fun d => (endsD ps d).2) .none (d :: ds) (by simp), List.getLastD_eq_getLast?, List.getLastD_eq_getLast?, List.getLast?_cons_cons]
    rfl
/-! ### what is given to the functions -/
structure Okv (K : PySem.W.Frag) (H : Hp) (x : V) (d : PyData) : Prop where
  vd : Vd K H x d
  few : few d
  shp : isLst d = true → SeqAt.shaped d = true
theorem Okv.same {K : PySem.W.Frag} {H H' : Hp} {x : V} {d : PyData} (s : Same H H') (h : Okv K H x d) : Okv K H' x d := ⟨h.vd.same s, h.few, h.shp⟩
theorem eqv_ints_nil (l : List Nat) : PyData.eqv (dInts l) (dInts []) = decide (l = []) := by
  cases l with
  | nil => exact eqv_ints []
  | cons g gs =>
    unfold dInts dNums
    rw [PyData.eqv]
    simp [PyData.eqvAll]
theorem eqv_list_nil (ds : List PyData) : PyData.eqv (.list ds) (dInts []) = decide (ds = []) := by
  cases ds with
  | nil => exact eqv_ints []
  | cons g gs =>
    unfold dInts dNums
    rw [PyData.eqv]
    simp [PyData.eqvAll]
theorem ivs_last {f : List Nat} (h : f ≠ []) : atI (ivs f) (-1) = some (.int (f.getLastD 0 : Nat)) := by
  have hl : (ivs f).length = f.length := by unfold ivs; rw [List.length_map]
  have hp : 0 < f.length := List.length_pos_iff.mpr h
  unfold atI ixN
  rw [if_neg (by decide), if_pos (by omega)]
  have e : ((-1 : Int) + ((ivs f).length : Int)).toNat = f.length - 1 := by omega
  show (ivs f)[((-1 : Int) + ((ivs f).length : Int)).toNat]? = _
  rw [e]
  unfold ivs
  rw [List.getElem?_map, ← List.getLast?_eq_getElem?, List.getLastD_eq_getLast?]
  cases hl2 : f.getLast? with
  | none => rw [List.getLast?_eq_none_iff] at hl2; exact absurd hl2 h
  | some z => rfl
def spNodes (K : PySem.W.Frag) : Sp := fun vs H Q _ => ∃ (a : Addr) (ts : List Addr) (ps : List (Nat × Nat)) (x : V) (d : PyData), vs = [.ref a, x] ∧ EdgesAt H a ts ps ∧ ps.length ≤ 60 ∧ Okv K H x d ∧
  ∀ H' u, Same H H' → H u = none → H' u = some (.lst (ivs (nodesD ps d))) → Q (.ref u) H'
section
variable {P : Program} {w : World} {K : PySem.W.Frag} {mg : Str → Option Value} {base : Heap}
theorem scIsNum : FnScope ["_law_thing"] ["_law_thing"] (defScope sIsNum) := ⟨rfl, rfl, rfl, by decide +kernel, rfl, by decide +kernel, by decide +kernel⟩
theorem ok_isnum {f : Addr} {fd : FuncData} (F : Fun K "_law_is_number" "_law_is_number" sIsNum f fd) (B : Bn mg) : FnOk P w K mg base CX0 1 f fd ["_law_thing"] (spInt K) := by
  refine F.ok scIsNum (fun vs H Q E h => ?_) (fun cdv A outer s H vs Q E hr h => ?_)
  · obtain ⟨x, t, b, rfl, _⟩ := h
    rfl
  · obtain ⟨x, t, b, rfl, hty, ⟨b1, h1, hf, ht⟩, q⟩ := h
    refine ⟨_, pss_one (ps_ret (pe_and (pe_callB call_isi (by rfl) B.isinstance (by decide +kernel) (pa_cons (pv 0) (pa_cons (pe_bltn (v := .ty "int") (by rfl) B.int (by decide +kernel) rfl) pa_nil)))
      (pe_one (pe_not (pe_callB call_isi (by rfl) B.isinstance (by decide +kernel) (pa_cons (pv 0) (pa_cons (pe_bltn (v := .ty "bool") (by rfl) B.bool (by decide +kernel) rfl) pa_nil))))))), ?_⟩
    refine ⟨_, rfl, _, _, _, _, _, rfl, .ty _, hty, h1, _, rfl, ?_⟩
    cases b1 with
    | false =>
      refine iteF ?_
      rw [hf rfl] at q
      exact q
    | true =>
      obtain ⟨b2, h2, rfl⟩ := ht rfl
      refine iteT ?_
      exact ⟨_, rfl, _, _, _, _, _, rfl, .ty _, hty, h2, _, rfl, q⟩
abbrev nodesN : List Str := ["_law_links_here", "_law_thing", "_law_found", "_law_entry", "_law_start", "_law_finish", "_law_part"]
theorem scNodes : FnScope nodesN ["_law_links_here", "_law_thing"] (defScope sNodes) := ⟨rfl, rfl, rfl, by decide +kernel, rfl, by decide +kernel, by decide +kernel⟩
theorem ok_nodes {f : Addr} {fd : FuncData} (F : Fun K "_law_nodes" "_law_nodes" sNodes f fd) (B : Bn mg) (D : Df P w K mg base 1 "_law_is_number" ["_law_thing"] (spInt K)) : FnOk P w K mg base CX0 2 f fd ["_law_links_here", "_law_thing"] (spNodes K) := by
  obtain ⟨g, gd, G, mgG, kG, bG⟩ := D.ex
  refine F.ok scNodes (fun vs H Q E h => ?_) (fun cdv A outer s H vs Q E hr h => ?_)
  · obtain ⟨a, ts, ps, x, d, rfl, _⟩ := h
    rfl
  · obtain ⟨a, ts, ps, x, d, rfl, hE, p60, hx, q⟩ := h
    refine ⟨_, pss_cons (ps_if (PW.pt (pw_or (pt_not (pt_val (pe_callB call_isi (by rfl) B.isinstance (by decide +kernel) (pa_cons (pv 1) (pa_cons (pe_bltn (v := .ty "list") (by rfl) B.list (by decide +kernel) rfl) pa_nil)))))
        (pw_or1 (pt_cmpR (op_eqD hr.units) (pv 1) (pe_lst pa_nil) (nomark _))))) (pss_one (ps_ret (pe_lst pa_nil))) pss_nil)
      (pss_cons (ps_set (i := 2) scNodes.nd rfl (Or.inl rfl) (pe_lst pa_nil))
      (pss_cons (ps_for PassesOwn.never rfl (pi_list (pv 1)) (pg_name (i := 3) scNodes.nd rfl (Or.inl rfl))
        (pss_cons (ps_if (PW.pt (pw_or (pt_not (pt_val (pe_callB call_isi (by rfl) B.isinstance (by decide +kernel) (pa_cons (pv 3) (pa_cons (pe_bltn (v := .ty "tuple") (by rfl) B.tuple (by decide +kernel) rfl) pa_nil)))))
            (pw_or (pt_cmpR op_ne (pe_callB call_len_seq (by rfl) B.len PySem.boot_len (pa_cons (pv 3) pa_nil)) pe_int (nomark _))
            (pw_or1 (pt_not (pt_val (pe_callB (cr_all rfl) (by rfl) B.all (by decide +kernel) (pa_cons (pe_lc (own := [("_law_part", 6)]) (g := gName 6) rfl scNodes.nd (pi_tup (pv 3)) (blkOk_by (N := nodesN) (sc := defScope sNodes) (by decide +kernel))
              (fun _ _ _ _ _ => pg_name (i := 6) scNodes.nd rfl (Or.inl rfl)) (fun _ _ _ _ _ => pts_nil) (fun _ _ _ _ _ => pe_call G hr rfl mgG kG bG .nil pass0 (pa_cons (pv 6) pa_nil))) pa_nil)))))))) (pss_one (ps_ret (pe_lst pa_nil))) pss_nil)
        (pss_cons (ps_if (PW.pt (pw_or (pt_not (pt_chain op_le op_lt pe_int (pe_ix ix_tup (pv 3) pe_int (fun _ _ => rfl)) (pe_callB call_len_seq (by rfl) B.len PySem.boot_len (pa_cons (pv 0) pa_nil))))
            (pw_or1 (pt_cmpR op_notIn_seq (pe_ix ix_tup (pv 3) pe_int (fun _ _ => rfl)) (pe_lst (pa_cons pe_int (pa_cons (pe_un un_neg pe_int) pa_nil))) (by rfl))))) (pss_one (ps_ret (pe_lst pa_nil))) pss_nil)
        (pss_cons (ps_asg (pe_turn (pe_ix ix_list (pv 0) (pe_ix ix_tup (pv 3) pe_int (fun _ _ => rfl)) (fun _ _ => rfl)) (pe_ix ix_tup (pv 3) pe_int (fun _ _ => rfl))) (pg_tup rfl (pgs_cons (pg_name (i := 4) scNodes.nd rfl (Or.inl rfl)) (pgs_cons (pg_name (i := 5) scNodes.nd rfl (Or.inl rfl)) pgs_nil))))
        (pss_cons (ps_if (PW.pt (pw_and (pt_cmpR (op_neD hr.units) (pv 2) (pe_lst pa_nil) (nomark _)) (pw_and1 (pt_cmpR op_ne (pe_ix ix_list (pv 2) (pe_un un_neg pe_int) (fun _ _ => rfl)) (pv 4) (nomark _))))) (pss_one (ps_ret (pe_lst pa_nil))) pss_nil)
        (pss_one (ps_set (i := 2) scNodes.nd rfl (Or.inl rfl) (pe_op op_cat (pe_orT (pv 2) (pe_one (pe_lst (pa_cons (pv 4) pa_nil)))) (pe_lst (pa_cons (pv 5) pa_nil))))))))))
      (pss_one (ps_ret (pv 2))))), ?_⟩
    have give : ∀ H' u, Same H H' → H' u = none → nodesD ps d = [] → Q (.ref u) (upd H' u (.lst [])) := fun H' u s1 hu e => q _ u (same_new s1 (.inl hu)) (s1.free hu) (by rw [upd_same, e]; rfl)
    refine ⟨_, rfl, _, _, _, _, _, rfl, .ty _, hx.vd.ty, kit_lst d, _, rfl, ?_⟩
    cases hd : isLst d with
    | false =>
      refine iteT (iteT ⟨Nat.zero_le _, fun u hu => give H u (Same.refl _) hu ?_⟩)
      cases d <;> first | rfl | cases hd
    | true =>
      obtain ⟨l, xs, ds, rfl, rfl, hs, hall⟩ := hx.vd.lst hd
      have hlen := DpAll.len hall
      have hsz : ds.length ≤ 1000 := hx.few ds rfl
      refine iteF ⟨_, rfl, Nat.zero_le _, fun em hem => ?_⟩
      have s0 : Same H (upd H em (.lst [])) := same_new (Same.refl _) (.inl hem)
      refine ⟨.list ds, dInts [], .lst (s0.seq hs) (dpAll_same s0 hall), .lst (SqL.of upd_same) .nil, hx.shp rfl, shaped_ints [], _, rfl, ?_⟩
      rw [eqv_list_nil]
      by_cases hnil : ds = []
      · rw [decide_eq_true hnil]
        refine iteT ⟨Nat.zero_le _, fun u hu => give _ u s0 hu ?_⟩
        rw [hnil]
        rfl
      · rw [decide_eq_false hnil]
        refine iteF ⟨Nat.zero_le _, fun f0 hf0 => ?_⟩
        have s1 : Same H (upd (upd H em (.lst [])) f0 (.lst [])) := same_new s0 (.inl hf0)
        refine ⟨_, rfl, l, rfl, ⟨_, s1.seq hs⟩, for_list (K := K) (xs := xs) (fun i σ H' => ∃ fa f v3 v4 v5, σ = [some (.ref a), some (.ref l), some (.ref fa), v3, v4, v5, none] ∧ Same H H' ∧ H fa = none ∧ H' fa = some (.lst (ivs f)) ∧ f.length ≤ i + 1 ∧ nodesGo ps [] ds = nodesGo ps f (ds.drop i))
          ⟨f0, [], none, none, none, rfl, s1, s0.free hf0, upd_same, Nat.zero_le _, rfl⟩ (fun i σ H' _ ⟨_, _, _, _, _, _, s2, _⟩ => s2.seq hs) ?_ ?_⟩
        · rintro i x σ H2 hi ⟨fa, f, v3, v4, v5, rfl, s2, hfa, h2, hfl, hgo⟩
          obtain ⟨di, hdi, hxi⟩ := DpAll.get hall hi
          have hiL : i < ds.length := (List.getElem?_eq_some_iff.mp hdi).1
          have hdrop : ds.drop i = di :: ds.drop (i + 1) := by
            rw [List.drop_eq_getElem_cons hiL]
            congr 1
            exact Option.some.inj ((List.getElem?_eq_getElem hiL).symm.trans hdi)
          rw [hdrop] at hgo
          have vi := (Vd.dat hxi).same s2
          -- where it is no step, nothing comes out
          have bad : stepD ps.length di = false → ∀ H' u, Same H2 H' → H' u = none → Q (.ref u) (upd H' u (.lst [])) := fun hb H' u s3 hu => give H' u (s2.trans s3) hu (by
            show (nodesGo ps [] ds).getD [] = []
            rw [hgo]
            unfold nodesGo
            rw [hb, if_neg Bool.false_ne_true]
            rfl)
          refine ⟨_, rfl, _, _, _, _, _, rfl, .ty _, vi.ty, kit_tup di, _, rfl, ?_⟩
          cases hdt : isTup di with
          | false =>
            refine iteT (iteT ⟨Nat.zero_le _, fun u hu => bad ?_ H2 u (Same.refl _) hu⟩)
            cases di <;> first | rfl | cases hdt
          | true =>
            obtain ⟨t, ys, es, rfl, rfl, ht, hal⟩ := vi.tup hdt
            have hl2 := DpAll.len hal
            refine iteF ⟨_, rfl, t, _, rfl, .inr ht, rfl, _, rfl, ?_⟩
            by_cases h2l : ys.length = 2
            · have e2 : (!decide (V.int ((ys.length : Nat) : Int) = V.int 2)) = false := by
                rw [decide_eq_true (congrArg V.int (show ((ys.length : Nat) : Int) = 2 by omega))]
                rfl
              rw [e2]
              refine iteF ?_
              match ys, es, h2l, hl2, hal, ht, bad, hgo with
              | [u, v], [du, dv], _, _, .cons hu (.cons hv .nil), ht, bad, hgo =>
                have hu' : Vd K H2 u du := .dat hu
                have hv' : Vd K H2 v dv := .dat hv
                -- both are numbers?
                refine ⟨_, rfl, t, rfl, ⟨_, ht⟩, fun D hD => lc_tup (xs := [u, v]) (fun j H' => Same H2 H' ∧ H' D = some (.lst (([isNum du, isNum dv].take j).map V.bl)))
                  ⟨same_new (Same.refl _) (.inl hD), upd_same⟩ (fun j H' _ ⟨s3, _⟩ => sqT_same s3 ht) ?_ ?_⟩
                · have one : ∀ (j : Nat) (z : V) (dz : PyData) (H' : Hp), Vd K H2 z dz → [isNum du, isNum dv][j]? = some (isNum dz) → Same H2 H' → H' D = some (.lst (([isNum du, isNum dv].take j).map V.bl)) →
                      tCall (spInt K) [] E0 (tCons (tVar 6) tNil) [some (.ref a), some (.ref l), some (.ref fa), some (.ref t), v4, v5, some z] H' fun y H4 => ∃ acc, H4 D = some (.lst acc) ∧ acc.length < sizeLine ∧
                        (Same H2 (upd H4 D (.lst (acc ++ [y]))) ∧ (upd H4 D (.lst (acc ++ [y]))) D = some (.lst (([isNum du, isNum dv].take (j + 1)).map V.bl))) := by
                    intro j z dz H' hz hb s3 hD'
                    refine ⟨_, rfl, z, _, _, rfl, (hz.same s3).ty, intB_d dz, _, hD', ?_, same_new s3 (.inr hD), ?_⟩
                    · rw [List.length_map, List.length_take]
                      exact Nat.lt_of_le_of_lt (Nat.min_le_right j 2) (by decide)
                    · rw [upd_same, Wm.take_snoc hb, List.map_append]
                      rfl
                  intro j z H' hj ⟨s3, hD'⟩
                  match j, hj with
                  | 0, hj =>
                    have e : u = z := Option.some.inj hj
                    subst e
                    exact ⟨rfl, tyes (one 0 u du H' hu' rfl s3 hD')⟩
                  | 1, hj =>
                    have e : v = z := Option.some.inj hj
                    subst e
                    exact ⟨rfl, tyes (one 1 v dv H' hv' rfl s3 hD')⟩
                · intro H3 ⟨s3, hD3⟩
                  refine ⟨D, [isNum du, isNum dv], rfl, SqL.of hD3, _, rfl, ?_⟩
                  have eall : [isNum du, isNum dv].all id = (isNum du && isNum dv) := by simp
                  rw [eall]
                  cases hn : (isNum du && isNum dv) with
                  | false =>
                    refine iteT ⟨Nat.zero_le _, fun o ho => bad ?_ H3 o s3 ho⟩
                    cases du <;> first | rfl | (cases dv <;> first | rfl | cases hn)
                  | true =>
                    rw [Bool.and_eq_true] at hn
                    obtain ⟨k, rfl, rfl⟩ := hu'.num hn.1
                    obtain ⟨y, rfl, rfl⟩ := hv'.num hn.2
                    refine iteF ?_
                    have ht3 := sqT_same s3 ht
                    have hE3 : EdgesAt H3 a ts ps := ⟨(s2.trans s3) _ _ hE.1, hE.2.same (s2.trans s3)⟩
                    have h3 := s3 _ _ h2
                    have eln : (ts.map V.ref).length = ps.length := by rw [List.length_map]; exact hE.2.1
                    -- its numbers in range?
                    refine ⟨_, rfl, t, _, 0, .int k, rfl, rfl, ht3, rfl, _, _, rfl, rfl, _, rfl, ?_⟩
                    have outer : ∀ b : Bool, decide (0 ≤ k ∧ k < (ps.length : Int)) = b → (stepD ps.length (.tuple [.int k, .int y]) = (b && decide (y = 1 ∨ y = -1))) := by
                      rintro b rfl
                      rw [stepD_tup]
                      congr 1
                      by_cases h : 0 ≤ k ∧ k < (ps.length : Int)
                      · rw [decide_eq_true h, decide_eq_true (by omega)]
                      · rw [decide_eq_false h, decide_eq_false (by omega)]
                    have outside : ¬ (0 ≤ k ∧ k < (ps.length : Int)) → tRet (tLst tNil) { nx := fun _ H' => Q .non H', rt := Q } [some (.ref a), some (.ref l), some (.ref fa), some (.ref t), v4, v5, none] H3 := fun hout =>
                      ⟨Nat.zero_le _, fun o ho => bad (by rw [outer false (decide_eq_false hout), Bool.false_and]) H3 o s3 ho⟩
                    by_cases hk0 : (0 : Int) ≤ k
                    · rw [decide_eq_true hk0]
                      refine iteT ⟨_, rfl, a, _, rfl, .inl (SqL.of hE3.1), _, _, rfl, rfl, _, rfl, ?_⟩
                      rw [eln]
                      by_cases hk1 : k < (ps.length : Int)
                      · rw [decide_eq_true hk1]
                        refine iteF ⟨_, rfl, t, _, 1, .int y, rfl, rfl, ht3, rfl, 1, rfl, (by show 2 ≤ sizeLine; decide), fun o ho => ⟨o, _, rfl, .inl (SqL.of upd_same), rfl, rfl, _, rfl, ?_⟩⟩
                        have s4 : Same H3 (upd H3 o (.lst [.int 1, .int (-1)])) := same_new (Same.refl _) (.inl ho)
                        have ein : (if true = true then !inV (V.int y) [V.int 1, V.int (-1)] else inV (V.int y) [V.int 1, V.int (-1)]) = !decide (y = 1 ∨ y = -1) := by
                          rw [if_pos rfl]
                          congr 1
                          show (((1 : Int) == y) || (((-1 : Int) == y) || false)) = decide (y = 1 ∨ y = -1)
                          by_cases h1 : y = 1
                          · subst h1; rfl
                          · by_cases h5 : y = -1
                            · subst h5; rfl
                            · rw [decide_eq_false (by omega), beq_eq_false_iff_ne.mpr (Ne.symm h1), beq_eq_false_iff_ne.mpr (Ne.symm h5)]
                              rfl
                        have est := outer true (decide_eq_true ⟨hk0, hk1⟩)
                        rw [Bool.true_and] at est
                        refine Eq.mpr (congrArg (fun b : Bool => if b = true then _ else _) ein) ?_
                        by_cases hy : y = 1 ∨ y = -1
                        · rw [decide_eq_true hy]
                          refine iteF ?_
                          rw [decide_eq_true hy] at est
                          obtain ⟨j, rfl⟩ : ∃ j : Nat, k = (j : Int) := ⟨k.toNat, (Int.toNat_of_nonneg hk0).symm⟩
                          have hjl : j < ps.length := by omega
                          obtain ⟨te, hte⟩ : ∃ te, ts[j]? = some te := ⟨_, List.getElem?_eq_getElem (show j < ts.length by rw [hE.2.1]; exact hjl)⟩
                          obtain ⟨e, he, het⟩ := hE3.2.get hte
                          have e2' := Wm.at2_get he
                          generalize upd H3 o (.lst [.int 1, .int (-1)]) = H4 at *
                          have hends : endsD ps (.tuple [.int (j : Int), .int y]) = if y = 1 then e else (e.2, e.1) := by
                            show endsAt ps (j : Int).toNat y = _
                            rw [Int.toNat_natCast]
                            unfold endsAt
                            rw [e2']
                          have sx := s3.trans s4
                          -- behind the unpacking
                          have tail_ : ∀ H5, Same H4 H5 → (tSeq (tIfS (tAnd (tTest (tOp (rNeD K) (tVar 2) (tLst tNil))) (tTest (tOp rNe (tOp (rIxL K) (tVar 2) (tUn (rU fun i => .int (-i)) (tC (.int 1)))) (tVar 4)))) (tRet (tLst tNil)) tNext)
                              (tAsg (tOp rCat (tOrT K (tVar 2) (tLst (tCons (tVar 4) tNil))) (tLst (tCons (tVar 5) tNil))) (gName 2)))
                              { nx := fun σ H' => ∃ fa f v3 v4 v5, σ = [some (.ref a), some (.ref l), some (.ref fa), v3, v4, v5, none] ∧ Same H H' ∧ H fa = none ∧ H' fa = some (.lst (ivs f)) ∧ f.length ≤ i + 1 + 1 ∧ nodesGo ps [] ds = nodesGo ps f (ds.drop (i + 1)), rt := Q,
                                ct := fun σ H' => ∃ fa f v3 v4 v5, σ = [some (.ref a), some (.ref l), some (.ref fa), v3, v4, v5, none] ∧ Same H H' ∧ H fa = none ∧ H' fa = some (.lst (ivs f)) ∧ f.length ≤ i + 1 + 1 ∧ nodesGo ps [] ds = nodesGo ps f (ds.drop (i + 1)),
                                bk := (tRet (tVar 2)) { nx := fun _ H' => Q .non H', rt := Q } }
                              [some (.ref a), some (.ref l), some (.ref fa), some (.ref t), some (.int ((endsD ps (.tuple [.int (j : Int), .int y])).1 : Int)), some (.int ((endsD ps (.tuple [.int (j : Int), .int y])).2 : Int)), none] H5 := by
                            intro H5 s5
                            generalize hee : endsD ps (.tuple [.int (j : Int), .int y]) = ee at *
                            have h5 := s5 _ _ (s4 _ _ h3)
                            refine ⟨_, rfl, Nat.zero_le _, fun o2 ho2 => ?_⟩
                            have s6 : Same H5 (upd H5 o2 (.lst [])) := same_new (Same.refl _) (.inl ho2)
                            refine ⟨dInts f, dInts [], dp_ints (s6 _ _ h5), .lst (SqL.of upd_same) .nil, shaped_ints _, shaped_ints [], _, rfl, ?_⟩
                            rw [eqv_ints_nil]
                            have h6 := s6 _ _ h5
                            have s06 := ((s2.trans sx).trans s5).trans s6
                            generalize upd H5 o2 (.lst []) = H6 at *
                            have more : ¬ (f ≠ [] ∧ f.getLastD 0 ≠ ee.1) → tAsg (tOp rCat (tOrT K (tVar 2) (tLst (tCons (tVar 4) tNil))) (tLst (tCons (tVar 5) tNil))) (gName 2)
                                { nx := fun σ H' => ∃ fa f v3 v4 v5, σ = [some (.ref a), some (.ref l), some (.ref fa), v3, v4, v5, none] ∧ Same H H' ∧ H fa = none ∧ H' fa = some (.lst (ivs f)) ∧ f.length ≤ i + 1 + 1 ∧ nodesGo ps [] ds = nodesGo ps f (ds.drop (i + 1)), rt := Q,
                                  ct := fun σ H' => ∃ fa f v3 v4 v5, σ = [some (.ref a), some (.ref l), some (.ref fa), v3, v4, v5, none] ∧ Same H H' ∧ H fa = none ∧ H' fa = some (.lst (ivs f)) ∧ f.length ≤ i + 1 + 1 ∧ nodesGo ps [] ds = nodesGo ps f (ds.drop (i + 1)),
                                  bk := (tRet (tVar 2)) { nx := fun _ H' => Q .non H', rt := Q } }
                                [some (.ref a), some (.ref l), some (.ref fa), some (.ref t), some (.int (ee.1 : Int)), some (.int (ee.2 : Int)), none] H6 := by
                              intro hok
                              have goes : nodesGo ps [] ds = nodesGo ps ((if f = [] then [ee.1] else f) ++ [ee.2]) (ds.drop (i + 1)) := by
                                rw [hgo]
                                conv => lhs; unfold nodesGo
                                rw [est, if_pos rfl, hee, if_neg hok]
                              refine ⟨_, rfl, !(ivs f).isEmpty, .inl ⟨_, SqL.of h6, rfl⟩, ?_⟩
                              by_cases hf : f = []
                              · subst hf
                                refine iteF ⟨_, rfl, (by show 1 ≤ sizeLine; decide), fun o3 ho3 => ⟨_, rfl, (by show 1 ≤ sizeLine; decide), fun o4 ho4 => ?_⟩⟩
                                have n34 : o3 ≠ o4 := fun z => by rw [← z, upd_same] at ho4; cases ho4
                                refine ⟨o3, o4, _, _, rfl, rfl, by rw [upd_ne n34, upd_same], upd_same, (by show 2 ≤ sizeLine; decide), fun o5 ho5 => ?_⟩
                                have s7 : Same H6 (upd (upd (upd H6 o3 (.lst [.int (ee.1 : Int)])) o4 (.lst [.int (ee.2 : Int)])) o5 (.lst ([.int (ee.1 : Int)] ++ [.int (ee.2 : Int)]))) := same_new (same_new (same_new (Same.refl _) (.inl ho3)) (.inl ho4)) (.inl ho5)
                                have f5 : H o5 = none := by
                                  have b1 : Same H6 (upd (upd H6 o3 (.lst [.int (ee.1 : Int)])) o4 (.lst [.int (ee.2 : Int)])) := same_new (same_new (Same.refl _) (.inl ho3)) (.inl ho4)
                                  exact (s06.trans b1).free ho5
                                exact ⟨o5, [ee.1, ee.2], _, _, _, rfl, s06.trans s7, f5, by rw [upd_same]; rfl, by show 2 ≤ i + 1 + 1; omega, by rw [goes, if_pos rfl]; rfl⟩
                              · have hne : (ivs f).isEmpty = false := by
                                  cases f with
                                  | nil => exact absurd rfl hf
                                  | cons _ _ => rfl
                                rw [hne]
                                refine iteT ⟨_, rfl, (by show 1 ≤ sizeLine; decide), fun o4 ho4 => ?_⟩
                                have n4 : fa ≠ o4 := ne_of_none h6 ho4
                                have hfl6 : (ivs f).length ≤ 1001 := by unfold ivs; rw [List.length_map]; omega
                                refine ⟨fa, o4, _, _, rfl, rfl, by rw [upd_ne n4]; exact h6, upd_same, ?_, fun o5 ho5 => ?_⟩
                                · show (ivs f).length + 1 ≤ sizeLine
                                  exact Nat.le_trans (Nat.add_le_add_right hfl6 1) (by decide)
                                · have b1 : Same H6 (upd H6 o4 (.lst [.int (ee.2 : Int)])) := same_new (Same.refl _) (.inl ho4)
                                  exact ⟨o5, f ++ [ee.2], _, _, _, rfl, s06.trans (same_new b1 (.inl ho5)), (s06.trans b1).free ho5, by rw [upd_same]; unfold ivs; rw [List.map_append]; rfl, by rw [List.length_append]; show f.length + 1 ≤ i + 1 + 1; omega, by rw [goes, if_neg hf]⟩
                            by_cases hf : f = []
                            · rw [decide_eq_true hf]
                              exact iteF (iteF (more fun z => z.1 hf))
                            · rw [decide_eq_false hf]
                              refine iteT ⟨_, rfl, 1, rfl, fa, _, -1, _, rfl, rfl, SqL.of h6, ivs_last hf, _, rfl, rfl, _, rfl, ?_⟩
                              rw [dint]
                              by_cases hlast : f.getLastD 0 = ee.1
                              · rw [decide_eq_true hlast]
                                exact iteF (more fun z => z.2 hlast)
                              · rw [decide_eq_false hlast]
                                refine iteT ⟨Nat.zero_le _, fun o3 ho3 => give H6 o3 s06 ho3 ?_⟩
                                show (nodesGo ps [] ds).getD [] = []
                                rw [hgo]
                                unfold nodesGo
                                rw [est, if_pos rfl, hee, if_pos ⟨hf, hlast⟩]
                                rfl
                          have hE4 := s4 _ _ hE3.1
                          have ht4 := sqT_same s4 ht3
                          refine ⟨_, rfl, _, rfl, t, _, 0, .int (j : Int), rfl, rfl, ht4, rfl, a, _, _, .ref te, rfl, rfl, SqL.of hE4, atI_nat (by rw [List.getElem?_map, hte]; rfl), _, rfl, t, _, 1, .int y, rfl, rfl, ht4, rfl, te, _, _, y, rfl, SqT.of (s4 _ _ het), rfl, hy, fun e1 => ?_, fun e1 o3 ho3 => ?_⟩
                          · rw [e1, if_pos rfl] at hends
                            have fin := tail_ H4 (Same.refl _)
                            rw [e1, hends] at fin
                            exact ⟨te, _, rfl, SqT.of (s4 _ _ het), rfl, _, _, rfl, _, _, rfl, rfl, fin⟩
                          · rw [e1, if_neg (by decide)] at hends
                            have fin := tail_ (upd H4 o3 (.tup [.int (e.2 : Int), .int (e.1 : Int)])) (same_new (Same.refl _) (.inl ho3))
                            rw [e1, hends] at fin
                            exact ⟨o3, _, rfl, SqT.of upd_same, rfl, _, _, rfl, _, _, rfl, rfl, fin⟩
                        · rw [decide_eq_false hy]
                          refine iteT ⟨Nat.zero_le _, fun o2 ho2 => bad (by rw [est, decide_eq_false hy]) _ o2 (s3.trans s4) ho2⟩
                      · rw [decide_eq_false hk1]
                        exact iteT (iteT (outside fun z => hk1 z.2))
                    · rw [decide_eq_false hk0]
                      exact iteF ⟨_, rfl, iteT (iteT (outside fun z => hk0 z.1))⟩
            · have e2 : (!decide (V.int ((ys.length : Nat) : Int) = V.int 2)) = true := by
                rw [decide_eq_false fun z => h2l (by have := V.int.inj z; omega)]
                rfl
              rw [e2]
              refine iteT (iteT ⟨Nat.zero_le _, fun u hu => bad ?_ H2 u (Same.refl _) hu⟩)
              match es, hl2 with
              | [], _ => rfl
              | [_], _ => unfold stepD; split <;> first | rfl | (rename_i z; cases z)
              | [_, _], hl2 => exact absurd hl2 h2l
              | _ :: _ :: _ :: _, _ => unfold stepD; split <;> first | rfl | (rename_i z; cases z)
        · rintro σ H2 ⟨fa, f, v3, v4, v5, rfl, s2, hfa, h2, hfl, hgo⟩
          rw [hlen, List.drop_length] at hgo
          refine ⟨_, rfl, q H2 fa s2 hfa ?_⟩
          have e : nodesD ps (.list ds) = f := by
            show (nodesGo ps [] ds).getD [] = f
            rw [hgo]
            rfl
          rw [e]
          exact h2
end
end Wb

namespace Wb
open PySem L2
/-! ### steps that the law draws -/
def StepsAt (H : Hp) (us : List Addr) (es : List (Nat × Int)) : Prop := us.length = es.length ∧ ∀ (i : Nat) (t : Addr) (e : Nat × Int), us[i]? = some t → es[i]? = some e → H t = some (.tup [.int e.1, .int e.2])
def Valid (m : Nat) (es : List (Nat × Int)) : Prop := ∀ e ∈ es, e.1 < m ∧ (e.2 = 1 ∨ e.2 = -1)
/-- a list of at most b steps lies at D -/
def StepsL (H : Hp) (D : Addr) (m b : Nat) : Prop := ∃ us es, H D = some (.lst (us.map V.ref)) ∧ StepsAt H us es ∧ Valid m es ∧ es.length ≤ b
theorem StepsAt.same {H H' : Hp} {us : List Addr} {es : List (Nat × Int)} (h : StepsAt H us es) (s : Same H H') : StepsAt H' us es := ⟨h.1, fun i t e a b => s _ _ (h.2 i t e a b)⟩
theorem StepsL.same {H H' : Hp} {D : Addr} {m b : Nat} (h : StepsL H D m b) (s : Same H H') : StepsL H' D m b := by
  obtain ⟨us, es, h1, h2, h3, h4⟩ := h
  exact ⟨us, es, s _ _ h1, h2.same s, h3, h4⟩
theorem StepsL.but {H H' : Hp} {D p : Addr} {m b : Nat} (h : StepsL H D m b) (s : But [p] H H') (nd : D ≠ p) (np : ∀ xs, H p ≠ some (.tup xs)) : StepsL H' D m b := by
  obtain ⟨us, es, h1, h2, h3, h4⟩ := h
  refine ⟨us, es, s _ _ (by simpa using nd) h1, ⟨h2.1, fun i t e a c => s _ _ (fun z => ?_) (h2.2 i t e a c)⟩, h3, h4⟩
  have e' : t = p := by simpa using z
  have := h2.2 i t e a c
  rw [e'] at this
  exact np _ this
theorem StepsL.nil {H : Hp} {D : Addr} {m : Nat} : StepsL (upd H D (.lst [])) D m 0 := ⟨[], [], upd_same, ⟨rfl, fun i t e h => by simp at h⟩, fun e h => by simp at h, Nat.le_refl _⟩
theorem StepsAt.snoc {H H' : Hp} {D t : Addr} {us : List Addr} {es : List (Nat × Int)} {e : Nat × Int} {o : List V} (h2 : StepsAt H us es) (s : Same H H') (hD : ∃ xs, H' D = some (.lst xs)) (ht : H' t = some (.tup [.int e.1, .int e.2])) : StepsAt (upd H' D (.lst o)) (us ++ [t]) (es ++ [e]) := by
  obtain ⟨xs, hD⟩ := hD
  refine ⟨by simp [h2.1], fun i u f a b => ?_⟩
  have fin : H' u = some (.tup [.int f.1, .int f.2]) := by
    by_cases hi : i < us.length
    · rw [List.getElem?_append_left hi] at a
      rw [List.getElem?_append_left (by rw [← h2.1]; exact hi)] at b
      exact s _ _ (h2.2 i u f a b)
    · have ei : i = us.length := by
        have := (List.getElem?_eq_some_iff.mp a).1
        simp at this
        omega
      subst ei
      rw [List.getElem?_append_right (Nat.le_refl _)] at a
      rw [h2.1, List.getElem?_append_right (Nat.le_refl _)] at b
      simp at a b
      subst a b
      exact ht
  rw [upd_ne (ne_of fin hD (by intro z; cases z))]
  exact fin
theorem StepsL.snoc {H H' : Hp} {D t : Addr} {m b : Nat} {e : Nat × Int} (h : StepsL H D m b) (s : Same H H') (ht : H' t = some (.tup [.int e.1, .int e.2])) (hv : e.1 < m ∧ (e.2 = 1 ∨ e.2 = -1)) (hb : b ≤ 1000) :
    ∃ xs, H' D = some (.lst xs) ∧ xs.length < sizeLine ∧ StepsL (upd H' D (.lst (xs ++ [.ref t]))) D m (b + 1) := by
  obtain ⟨us, es, h1, h2, h3, h4⟩ := h
  have h1' := s _ _ h1
  refine ⟨_, h1', ?_, us ++ [t], es ++ [e], by rw [upd_same]; simp, h2.snoc s ⟨_, h1'⟩ ht, fun f hf => ?_, by rw [List.length_append]; exact Nat.add_le_add_right h4 1⟩
  · rw [List.length_map, h2.1]
    exact small1000 (by omega)
  · rcases List.mem_append.mp hf with hf | hf
    · exact h3 f hf
    · have e' : f = e := by simpa using hf
      rw [e']
      exact hv
theorem StepsAt.append {H : Hp} {us vs : List Addr} {es fs : List (Nat × Int)} (h : StepsAt H us es) (g : StepsAt H vs fs) : StepsAt H (us ++ vs) (es ++ fs) := by
  refine ⟨by rw [List.length_append, List.length_append, h.1, g.1], fun i t e a b => ?_⟩
  by_cases hi : i < us.length
  · rw [List.getElem?_append_left hi] at a
    rw [List.getElem?_append_left (by rw [← h.1]; exact hi)] at b
    exact h.2 i t e a b
  · rw [List.getElem?_append_right (by omega)] at a
    rw [List.getElem?_append_right (by rw [← h.1]; omega), ← h.1] at b
    exact g.2 _ t e a b
/-- as data -/
def dStep (e : Nat × Int) : PyData := .tuple [.int (e.1 : Int), .int e.2]
theorem steps_dp {K : PySem.W.Frag} {H : Hp} : ∀ {us : List Addr} {es : List (Nat × Int)}, StepsAt H us es → DpAll K H (us.map V.ref) (es.map dStep)
  | [], [], _ => .nil
  | [], _ :: _, h => by cases h.1
  | _ :: _, [], h => by cases h.1
  | u :: us, e :: es, h => .cons (.tup (SqT.of (h.2 0 u e rfl rfl)) (.cons (.int _) (.cons (.int _) .nil))) (steps_dp ⟨Nat.succ.inj h.1, fun i t d a b => h.2 (i + 1) t d a b⟩)
theorem steps_lay : ∀ es : List (Nat × Int), PyData.canLayAll0 (es.map dStep) = true ∧ PyData.depthAll (es.map dStep) ≤ 1
  | [] => ⟨by simp [PyData.canLayAll0], by simp [PyData.depthAll]⟩
  | e :: es => by
    have ih := steps_lay es
    rw [List.map_cons]
    refine ⟨?_, ?_⟩
    · rw [PyData.canLayAll0, ih.1]; simp [dStep, PyData.canLay0, PyData.canLayAll0]
    · rw [PyData.depthAll]
      have : (dStep e).depth = 1 := by simp [dStep, PyData.depth, PyData.depthAll]
      omega
theorem shaped_steps (es : List (Nat × Int)) : SeqAt.shaped (.list (es.map dStep)) = true := by
  have h := steps_lay es
  unfold SeqAt.shaped
  have h1 : (PyData.list (es.map dStep)).canLay0 = true := by rw [PyData.canLay0]; exact h.1
  have h2 : (PyData.list (es.map dStep)).depth ≤ 64 := by rw [PyData.depth]; omega
  rw [h1, decide_eq_true h2]
  rfl
theorem eqv_steps_nil (ds : List PyData) : PyData.eqv (.list ds) (.list []) = decide (ds = []) := by
  cases ds with
  | nil => rw [PyData.eqv]; simp [PyData.eqvAll]
  | cons g gs =>
    rw [PyData.eqv]
    simp [PyData.eqvAll]
theorem gN {i : Nat} {v : V} {σ : L2.St} {H : Hp} {Q : L2.St → Hp → Prop} (h : Q (σ.set i (some v)) H) : gName i v σ H Q := h
theorem tsA {te : TE} {g : TG} {u : TS} {D : Ends} {σ : L2.St} {H : Hp} (h : te σ H fun x H1 => g x σ H1 (u D)) : tSeq (tAsg te g) u D σ H := h
def spLed : Sp := fun vs H Q _ => ∃ (p a : Addr) (ts : List Addr) (ps : List (Nat × Nat)) (n : Nat), vs = [.ref p, .ref a, .int n] ∧ PoolAt H p ∧ a ≠ p ∧ EdgesAt H a ts ps ∧ ps.length ≤ 60 ∧ 0 < n ∧ n ≤ 30 ∧
  ∀ H' u, But [p] H H' → PoolAt H' p → H u = none → StepsL H' u ps.length 8 → Q (.ref u) H'
theorem PoolAt.but {H H' : Hp} {p : Addr} {l : List Addr} (h : PoolAt H p) (s : But l H H') (n : p ∉ l) : PoolAt H' p := by
  obtain ⟨a, b, hp, b0, b1⟩ := h
  exact ⟨a, b, s _ _ n hp, b0, b1⟩
theorem PoolAt.same {H H' : Hp} {p : Addr} (h : PoolAt H p) (s : Same H H') : PoolAt H' p := by
  obtain ⟨a, b, hp, b0, b1⟩ := h
  exact ⟨a, b, s _ _ hp, b0, b1⟩
theorem PoolAt.upd {H : Hp} {p q : Addr} {o : HO} (h : PoolAt H p) (n : p ≠ q) : PoolAt (upd H q o) p := by
  obtain ⟨a, b, hp, b0, b1⟩ := h
  exact ⟨a, b, by rw [upd_ne n]; exact hp, b0, b1⟩
section
variable {P : Program} {w : World} {K : PySem.W.Frag} {mg : Str → Option Value} {base : Heap}
abbrev ledN : List Str := ["_law_pool_here", "_law_links_here", "_law_nodes_here", "_law_at", "_law_found", "_law_turn", "_law_some", "_law_number"]
theorem scLed : FnScope ledN ["_law_pool_here", "_law_links_here", "_law_nodes_here"] (defScope sLed) := ⟨rfl, rfl, rfl, by decide +kernel, rfl, by decide +kernel, by decide +kernel⟩
theorem ok_led {f : Addr} {fd : FuncData} (F : Fun K "_law_led" "_law_led" sLed f fd) (B : Bn mg) (D : Df P w K mg base 1 "_law_take" ["_law_pool_here", "_law_sides"] spTake) : FnOk P w K mg base CX0 2 f fd ["_law_pool_here", "_law_links_here", "_law_nodes_here"] spLed := by
  obtain ⟨g, gd, G, mgG, kG, bG⟩ := D.ex
  refine F.ok scLed (fun vs H Q E h => ?_) (fun cdv A outer s H vs Q E hr h => ?_)
  · obtain ⟨p, a, ts, ps, n, rfl, _⟩ := h
    rfl
  · obtain ⟨p, a, ts, ps, n, rfl, hp, nap, hE, p60, n0, n30, q⟩ := h
    refine ⟨_, pss_cons (ps_set (i := 3) scLed.nd rfl (Or.inr rfl) (pe_call G hr rfl mgG kG bG .nil pass0 (pa_cons (pv 0) (pa_cons (pv 2) pa_nil))))
      (pss_cons (ps_set (i := 4) scLed.nd rfl (Or.inl rfl) (pe_lst pa_nil))
      (pss_cons (ps_for PassesOwn.never rfl (pi_range1 rfl B.range (pa_cons (pe_op op_add pe_int (pe_call G hr rfl mgG kG bG .nil pass0 (pa_cons (pv 0) (pa_cons pe_int pa_nil)))) pa_nil)) (pg_name (i := 5) scLed.nd rfl (Or.inl rfl))
        (pss_cons (ps_setLc (i := 6) (own := [("_law_number", 7)]) (g := gName 7) rfl scLed.nd rfl rfl (sw_true rfl rfl rfl (by decide +kernel)) (pi_range1 rfl B.range (pa_cons (pe_callB call_len_seq (by rfl) B.len PySem.boot_len (pa_cons (pv 1) pa_nil)) pa_nil)) (blkOk_by (N := ledN) (sc := defScope sLed) (by decide +kernel))
            (fun _ _ _ _ _ => pg_name (i := 7) scLed.nd rfl (Or.inl rfl)) (fun _ _ _ _ _ => pts_one (pt_cmpR op_eq (pe_ix (r := rIxT K) ix_tup (pe_ix (r := rIxL K) ix_list (pv 1) (pv 7) (fun _ _ => rfl)) pe_int (fun _ _ => rfl)) (pv 3) (nomark _))) (fun _ _ _ _ _ => pe_tup (pa_cons (pv 7) (pa_cons pe_int pa_nil))))
        (pss_cons (ps_set (i := 6) scLed.nd rfl (Or.inl rfl) (pe_op op_cat (pv 6) (pe_lc (own := [("_law_number", 7)]) (g := gName 7) rfl scLed.nd (pi_range1 rfl B.range (pa_cons (pe_callB call_len_seq (by rfl) B.len PySem.boot_len (pa_cons (pv 1) pa_nil)) pa_nil)) (blkOk_by (N := ledN) (sc := defScope sLed) (by decide +kernel))
            (fun _ _ _ _ _ => pg_name (i := 7) scLed.nd rfl (Or.inl rfl)) (fun _ _ _ _ _ => pts_one (pt_cmpR op_eq (pe_ix (r := rIxT K) ix_tup (pe_ix (r := rIxL K) ix_list (pv 1) (pv 7) (fun _ _ => rfl)) pe_int (fun _ _ => rfl)) (pv 3) (nomark _))) (fun _ _ _ _ _ => pe_tup (pa_cons (pv 7) (pa_cons (pe_un un_neg pe_int) pa_nil))))))
        (pss_one (ps_if (pt_cmpR (op_neD hr.units) (pv 6) (pe_lst pa_nil) (nomark _))
          (pss_cons (ps_expr (pe_bm PySem.F.plainAttrs_list PySem.F.slot_list_append PySem.F.type_list_append mt_append (pv 4) (pa_cons (pe_ix ix_list (pv 6) (pe_call G hr rfl mgG kG bG .nil pass0 (pa_cons (pv 0) (pa_cons (pe_callB call_len_seq (by rfl) B.len PySem.boot_len (pa_cons (pv 6) pa_nil)) pa_nil))) (fun _ _ => rfl)) pa_nil)))
          (pss_one (ps_set (i := 3) scLed.nd rfl (Or.inr rfl) (pe_ix ix_tup (pe_ix ix_list (pv 1) (pe_ix ix_tup (pe_ix ix_list (pv 4) (pe_un un_neg pe_int) (fun _ _ => rfl)) pe_int (fun _ _ => rfl)) (fun _ _ => rfl))
            (pe_callTy call_int1 (by rfl) B.int (by decide +kernel) (pa_cons (pe_cmpR op_eq (pe_ix ix_tup (pe_ix ix_list (pv 4) (pe_un un_neg pe_int) (fun _ _ => rfl)) pe_int (fun _ _ => rfl)) pe_int (nomark _)) pa_nil)) (fun _ _ => rfl))))) pss_nil)))))
      (pss_one (ps_ret (pv 4))))), ?_⟩
    have notup : ∀ {H : Hp}, PoolAt H p → ∀ xs, H p ≠ some (.tup xs) := fun h xs => h.notup p (by simp) xs
    refine ⟨_, rfl, _, rfl, p, n, rfl, hp, by omega, by omega, fun H1 at0 b1 hp1 a0 a1 => ?_⟩
    refine ⟨Nat.zero_le _, fun fo hfo => ?_⟩
    have nfp : fo ≠ p := by
      obtain ⟨_, _, e, _⟩ := hp1
      exact (ne_of_none e hfo).symm
    have hfo0 : H fo = none := b1.free (by simpa using nfp) hfo
    have b2 : But [p] H (upd H1 fo (.lst [])) := b1.new (.inl hfo)
    refine ⟨_, rfl, p, 8, rfl, hp1.upd nfp.symm, by decide, by decide, fun H3 r b3 hp3 r0 r1 => ⟨_, _, rfl, rfl, 1 + r, rfl, by omega, by omega, ?_⟩⟩
    have b03 := b2.trans b3
    have edges : ∀ {H' : Hp}, But [p] H H' → EdgesAt H' a ts ps := fun b => ⟨b _ _ (by simpa using nap) hE.1, hE.2.but b hp.notup⟩
    refine for_range (lo := 0) (n := (1 + r).toNat) (fun i σ H' => ∃ z v5 v6, σ = [some (.ref p), some (.ref a), some (.int n), some (.int z), some (.ref fo), v5, v6, none] ∧ But [p] H H' ∧ PoolAt H' p ∧ StepsL H' fo ps.length i)
      ⟨at0, none, none, rfl, b03, hp3, (StepsL.nil (H := H1) (D := fo)).but b3 nfp (notup (hp1.upd nfp.symm))⟩ ?_ ?_
    · rintro i σ H4 hi ⟨z, v5, v6, rfl, b4, hp4, S4⟩
      have hi8 : i < 8 := by omega
      have hE4 := edges b4
      have eln : (ts.map V.ref).length = ps.length := by rw [List.length_map]; exact hE.2.1
      -- one comprehension, either way
      have lcw : ∀ (y c : Int) (te : TE), (y = 1 ∧ c = 0 ∨ y = -1 ∧ c = 1) → (∀ (σ : L2.St) (H : Hp) (Q : VK), Q (.int y) H → te σ H Q) → ∀ (v6 : Option V) (H5 : Hp), Same H4 H5 → ∀ (Qd : VK), (∀ H6 D, Same H5 H6 → H5 D = none → StepsL H6 D ps.length 60 → Qd (.ref D) H6) →
          tLc (iRng1 (tCons (tCB (fun xs H Q => ∃ p ys, xs = [.ref p] ∧ (SqL K H p ys ∨ SqT K H p ys) ∧ Q (.int ys.length) H) (tCons (tVar 1) tNil)) tNil)) (gName 7) (tTest (tOp rEq (tOp (rIxT K) (tOp (rIxL K) (tVar 1) (tVar 7)) (tC (.int c))) (tVar 3))) (tTup (tCons (tVar 7) (tCons te tNil))) [7]
            [some (.ref p), some (.ref a), some (.int n), some (.int z), some (.ref fo), some (.int (0 + (i : Int))), v6, none] H5 Qd := by
        intro y c te hy hte v6 H5 s5 Qd qd
        have hE5 : EdgesAt H5 a ts ps := ⟨s5 _ _ hE4.1, hE4.2.same s5⟩
        refine ⟨_, rfl, a, _, rfl, .inl (SqL.of hE5.1), _, rfl, by omega, by rw [eln]; omega, fun D hD => lc_range (lo := 0) (n := _) (fun j H' => Same H5 H' ∧ StepsL H' D ps.length j) ⟨same_new (Same.refl _) (.inl hD), StepsL.nil⟩ ?_ ?_⟩
        · rintro j H6 hj ⟨s6, S6⟩
          have hjp : j < ps.length := by rw [eln] at hj; omega
          have ej : (0 : Int) + (j : Int) = (j : Int) := Int.zero_add _
          rw [ej]
          obtain ⟨t, ht⟩ : ∃ t, ts[j]? = some t := ⟨_, List.getElem?_eq_getElem (show j < ts.length by rw [hE.2.1]; exact hjp)⟩
          have hE6 : EdgesAt H6 a ts ps := ⟨s6 _ _ hE5.1, hE5.2.same s6⟩
          obtain ⟨e, he, het⟩ := hE6.2.get ht
          refine ⟨rfl, ?_⟩
          refine ⟨_, rfl, _, rfl, a, _, _, .ref t, rfl, rfl, SqL.of hE6.1, atI_nat (by rw [List.getElem?_map, ht]; rfl), t, _, c, .int (if y = 1 then (e.1 : Int) else (e.2 : Int)), rfl, rfl, SqT.of het, by rcases hy with ⟨rfl, rfl⟩ | ⟨rfl, rfl⟩ <;> rfl, _, rfl, rfl, _, rfl, ?_⟩
          refine ite2 (fun _ => ?_) (fun _ => ?_)
          · refine ⟨_, rfl, hte _ _ _ ⟨(by show 2 ≤ sizeLine; decide), fun u hu => ?_⟩⟩
            obtain ⟨xs, h1, h2, h3⟩ := S6.snoc (e := (j, y)) (same_new (o := .tup [.int (j : Int), .int y]) (Same.refl _) (.inl hu)) upd_same ⟨hjp, hy.imp And.left And.left⟩ (by omega)
            refine ⟨xs, h1, h2, ?_, h3⟩
            obtain ⟨us, es, g1, _⟩ := S6
            intro b o ho
            have hb := s6 b o ho
            have nbD : b ≠ D := ne_of_none ho hD
            rw [upd_ne nbD, upd_ne (ne_of_none hb hu)]
            exact hb
          · obtain ⟨us, es, g1, g2, g3, g4⟩ := S6
            exact ⟨s6, us, es, g1, g2, g3, Nat.le_succ_of_le g4⟩
        · rintro H6 ⟨s6, us, es, g1, g2, g3, g4⟩
          have e6 : (((ts.map V.ref).length : Nat) : Int).toNat = ps.length := by rw [eln]; omega
          exact qd H6 D s6 hD ⟨us, es, g1, g2, g3, by rw [e6] at g4; omega⟩
      refine gN (tsA (lcw 1 0 (tC (.int 1)) (.inl ⟨rfl, rfl⟩) (fun _ _ _ h => h) v6 H4 (Same.refl _) _ fun H5 D1 s5 hD1 S5 => ?_))
      refine gN (tsA ⟨_, rfl, lcw (-1) 1 (tUn (rU fun i => .int (-i)) (tC (.int 1))) (.inr ⟨rfl, rfl⟩) (fun _ _ _ h => ⟨1, rfl, h⟩) (some (.ref D1)) H5 s5 _ fun H6 D2 s6 hD2 S6 => ?_⟩)
      obtain ⟨us1, es1, c1, c2, c3, c4⟩ := S5.same s6
      obtain ⟨us2, es2, d1, d2, d3, d4⟩ := S6
      refine ⟨D1, D2, _, _, rfl, rfl, c1, d1, ?_, fun D3 hD3 => ?_⟩
      · rw [List.length_map, List.length_map, c2.1, d2.1]
        exact Nat.le_trans (show es1.length + es2.length ≤ 1000 by omega) (by decide)
      have eapp : us1.map V.ref ++ us2.map V.ref = (us1 ++ us2).map V.ref := by rw [List.map_append]
      rw [eapp]
      have s7 : Same H6 (upd H6 D3 (.lst ((us1 ++ us2).map V.ref))) := same_new (Same.refl _) (.inl hD3)
      have sm7 := (c2.append d2).same s7
      have h7D : upd H6 D3 (.lst ((us1 ++ us2).map V.ref)) D3 = some (.lst ((us1 ++ us2).map V.ref)) := upd_same
      have s47 := (s5.trans s6).trans s7
      generalize upd H6 D3 (.lst ((us1 ++ us2).map V.ref)) = H7 at *
      refine ⟨_, rfl, Nat.zero_le _, fun em hem => ?_⟩
      have s8 : Same H7 (upd H7 em (.lst [])) := same_new (Same.refl _) (.inl hem)
      refine ⟨.list ((es1 ++ es2).map dStep), .list [], .lst (SqL.of (s8 _ _ h7D)) (dpAll_same s8 (steps_dp sm7)), .lst (SqL.of upd_same) .nil, shaped_steps _, shaped_ints [], _, rfl, ?_⟩
      rw [eqv_steps_nil]
      have s48 := s47.trans s8
      have h8D := s8 _ _ h7D
      have sm8 := sm7.same s8
      generalize upd H7 em (.lst []) = H8 at *
      have S8 := S4.same s48
      have b8 : But [p] H H8 := b4.trans (But.of_same s48)
      have hp8 := hp4.same s48
      by_cases hnil : (es1 ++ es2).map dStep = []
      · rw [decide_eq_true hnil]
        obtain ⟨us, es, g1, g2, g3, g4⟩ := S8
        exact iteF ⟨z, _, _, rfl, b8, hp8, us, es, g1, g2, g3, Nat.le_succ_of_le g4⟩
      · rw [decide_eq_false hnil]
        refine iteT ?_
        have hpos : 0 < (es1 ++ es2).length := by
          refine List.length_pos_iff.mpr fun zz => hnil ?_
          rw [zz]
          rfl
        have hulen : (us1 ++ us2).length = (es1 ++ es2).length := sm8.1
        obtain ⟨usf, esf, g1, g2, g3, g4⟩ := id S8
        refine ⟨_, rfl, .inl ⟨rfl, _, SqL.of g1⟩, _, rfl, _, rfl, _, rfl, D3, _, rfl, .inl (SqL.of h8D), p, _, rfl, hp8, ?_, ?_, fun H9 r9 b9 hp9 r90 r91 => ?_⟩
        · rw [List.length_map, hulen]
          omega
        · rw [List.length_map, hulen, List.length_append]
          omega
        rw [List.length_map, hulen] at r91
        obtain ⟨j, rfl⟩ : ∃ j : Nat, r9 = (j : Int) := ⟨r9.toNat, (Int.toNat_of_nonneg r90).symm⟩
        have hj : j < (es1 ++ es2).length := by omega
        obtain ⟨t, ht⟩ : ∃ t, (us1 ++ us2)[j]? = some t := ⟨_, List.getElem?_eq_getElem (show j < (us1 ++ us2).length by omega)⟩
        obtain ⟨e, he⟩ : ∃ e, (es1 ++ es2)[j]? = some e := ⟨_, List.getElem?_eq_getElem hj⟩
        have he8 := sm8.2 j t e ht he
        have hv : e.1 < ps.length ∧ (e.2 = 1 ∨ e.2 = -1) := by
          rcases List.mem_append.mp (mem_of_get he) with hm | hm
          · exact c3 e hm
          · exact d3 e hm
        have ntp : t ≠ p := fun zz => notup hp8 _ (by rw [← zz]; exact he8)
        have nDp : D3 ≠ p := by
          obtain ⟨_, _, e9, _⟩ := hp8
          rintro rfl
          rw [h8D] at e9
          have l1 := HO.lst.inj (Option.some.inj e9)
          cases hu : us1 ++ us2 with
          | nil => rw [hu] at l1; cases l1
          | cons u1 ur => rw [hu, List.map_cons] at l1; injection l1 with l2 _; cases l2
        have he9 := b9 _ _ (by simpa using ntp) he8
        have h9D := b9 _ _ (by simpa using nDp) h8D
        have S9 := S8.but b9 nfp (notup hp8)
        refine ⟨D3, _, _, .ref t, rfl, rfl, SqL.of h9D, atI_nat (by rw [List.getElem?_map, ht]; rfl), ?_⟩
        obtain ⟨xs, x1, x2, x3⟩ := S9.snoc (e := e) (Same.refl _) he9 hv (by omega)
        refine ⟨fo, _, _, rfl, rfl, x1, x2, ?_⟩
        -- where it stands now
        have b10 : But [p] H (upd H9 fo (.lst (xs ++ [.ref t]))) := (b8.trans b9).new (.inr hfo0)
        have hp10 := hp9.upd (o := .lst (xs ++ [.ref t])) nfp.symm
        have f10 : upd H9 fo (.lst (xs ++ [.ref t])) fo = some (.lst (xs ++ [.ref t])) := upd_same
        have ntf : t ≠ fo := ne_of he9 x1 (by intro zz; cases zz)
        have t10 : upd H9 fo (.lst (xs ++ [.ref t])) t = some (.tup [.int e.1, .int e.2]) := by rw [upd_ne ntf]; exact he9
        generalize upd H9 fo (.lst (xs ++ [.ref t])) = H10 at *
        have hE10 := edges b10
        obtain ⟨te, hte⟩ : ∃ te, ts[e.1]? = some te := ⟨_, List.getElem?_eq_getElem (show e.1 < ts.length by rw [hE.2.1]; exact hv.1)⟩
        obtain ⟨en, hen, hent⟩ := hE10.2.get hte
        refine ⟨_, rfl, _, rfl, 1, rfl, fo, _, -1, .ref t, rfl, rfl, SqL.of f10, atI_last _ _, t, _, 0, .int (e.1 : Int), rfl, rfl, SqT.of t10, rfl, a, _, _, .ref te, rfl, rfl, SqL.of hE10.1, atI_nat (by rw [List.getElem?_map, hte]; rfl), ?_⟩
        refine ⟨_, rfl, 1, rfl, fo, _, -1, .ref t, rfl, rfl, SqL.of f10, atI_last _ _, t, _, 1, .int e.2, rfl, rfl, SqT.of t10, rfl, rfl, .inr ⟨_, rfl, ?_⟩⟩
        by_cases hy : e.2 = 1
        · rw [decide_eq_true (congrArg V.int hy)]
          exact ⟨te, _, _, .int (en.2 : Int), rfl, rfl, SqT.of hent, rfl, (en.2 : Int), _, _, rfl, b10, hp10, x3⟩
        · rw [decide_eq_false fun zz => hy (V.int.inj zz)]
          exact ⟨te, _, _, .int (en.1 : Int), rfl, rfl, SqT.of hent, rfl, (en.1 : Int), _, _, rfl, b10, hp10, x3⟩
    · rintro σ H4 ⟨z, v5, v6, rfl, b4, hp4, us, es, g1, g2, g3, g4⟩
      exact ⟨_, rfl, q H4 fo b4 hp4 hfo0 ⟨us, es, g1, g2, g3, by omega⟩⟩
end
end Wb

namespace Wb
open PySem PySem.Spec PyProof.Rows L2
/-! ### small data, and its text -/
structure Tid (B k : Nat) (d : PyData) : Prop where
  ls : d.leavesShort 13 = true
  bk : d.bulk ≤ B
  sh : d.showable = true
  nd : d.hasDict = false
  dp : d.depth ≤ k
  lay : d.canLay0 = true
structure TidL (B k : Nat) (ds : List PyData) : Prop where
  ls : PyData.leavesShortAll 13 ds = true
  bk : PyData.bulkAll ds ≤ B
  sh : PyData.showableAll ds = true
  nd : PyData.hasDictAll ds = false
  dp : PyData.depthAll ds ≤ k
  lay : PyData.canLayAll0 ds = true
theorem Tid.mono {B B' k k' : Nat} {d : PyData} (h : Tid B k d) (a : B ≤ B') (b : k ≤ k') : Tid B' k' d := ⟨h.ls, Nat.le_trans h.bk a, h.sh, h.nd, Nat.le_trans h.dp b, h.lay⟩
theorem TidL.mono {B B' k k' : Nat} {ds : List PyData} (h : TidL B k ds) (a : B ≤ B') (b : k ≤ k') : TidL B' k' ds := ⟨h.ls, Nat.le_trans h.bk a, h.sh, h.nd, Nat.le_trans h.dp b, h.lay⟩
theorem TidL.nil : TidL 0 0 [] := ⟨by simp [PyData.leavesShortAll], by simp [PyData.bulkAll], by simp [PyData.showableAll], by simp [PyData.hasDictAll], by simp [PyData.depthAll], by simp [PyData.canLayAll0]⟩
theorem TidL.cons {A B k : Nat} {d : PyData} {ds : List PyData} (h : Tid A k d) (t : TidL B k ds) : TidL (A + 1 + B) k (d :: ds) := by
  refine ⟨?_, ?_, ?_, ?_, ?_, ?_⟩
  · rw [PyData.leavesShortAll, h.ls, t.ls]; rfl
  · rw [PyData.bulkAll]; have := h.bk; have := t.bk; omega
  · rw [PyData.showableAll, h.sh, t.sh]; rfl
  · rw [PyData.hasDictAll, h.nd, t.nd]; rfl
  · rw [PyData.depthAll]; have := h.dp; have := t.dp; omega
  · rw [PyData.canLayAll0, h.lay, t.lay]; rfl
theorem TidL.of {B k : Nat} : ∀ {ds : List PyData}, (∀ d ∈ ds, Tid B k d) → TidL (ds.length * (B + 1)) k ds
  | [], _ => (TidL.nil).mono (Nat.zero_le _) (Nat.zero_le _)
  | d :: ds, h => by
    refine (TidL.cons (h d (by simp)) (TidL.of (ds := ds) fun e he => h e (by simp [he]))).mono ?_ (Nat.le_refl _)
    rw [List.length_cons, Nat.add_mul]
    omega
theorem Tid.lst {B k : Nat} {ds : List PyData} (h : TidL B k ds) : Tid B (k + 1) (.list ds) := by
  refine ⟨?_, ?_, ?_, ?_, ?_, ?_⟩
  · rw [PyData.leavesShort]; exact h.ls
  · rw [PyData.bulk]; exact h.bk
  · rw [PyData.showable]; exact h.sh
  · rw [PyData.hasDict]; exact h.nd
  · rw [PyData.depth]; have := h.dp; omega
  · rw [PyData.canLay0]; exact h.lay
theorem Tid.tup {B k : Nat} {ds : List PyData} (h : TidL B k ds) : Tid B (k + 1) (.tuple ds) := by
  refine ⟨?_, ?_, ?_, ?_, ?_, ?_⟩
  · rw [PyData.leavesShort]; exact h.ls
  · rw [PyData.bulk]; exact h.bk
  · rw [PyData.showable]; exact h.sh
  · rw [PyData.hasDict]; exact h.nd
  · rw [PyData.depth]; have := h.dp; omega
  · rw [PyData.canLay0]; exact h.lay
theorem Tid.int {i : Int} (a : -100 ≤ i) (b : i ≤ 100) : Tid 0 0 (.int i) := by
  have e : ∀ j : Fin 201, (PyData.int ((j.val : Int) - 100)).leavesShort 13 = true ∧ (PyData.int ((j.val : Int) - 100)).showable = true := by decide +kernel
  have e' := e ⟨(i + 100).toNat, by omega⟩
  have ei : ((((i + 100).toNat : Nat) : Int) - 100) = i := by omega
  simp only [ei] at e'
  exact ⟨e'.1, by simp [PyData.bulk], e'.2, by simp [PyData.hasDict], by simp [PyData.depth], by simp [PyData.canLay0]⟩
theorem Tid.non : Tid 0 0 .none := ⟨by simp [PyData.leavesShort], by simp [PyData.bulk], by simp [PyData.showable], by simp [PyData.hasDict], by simp [PyData.depth], by simp [PyData.canLay0]⟩
theorem Tid.bl (b : Bool) : Tid 0 0 (.bool b) := ⟨by simp [PyData.leavesShort], by simp [PyData.bulk], by simp [PyData.showable], by simp [PyData.hasDict], by simp [PyData.depth], by simp [PyData.canLay0]⟩
theorem Tid.str {B : Nat} {x : Str} (h : (x.cps.toList.all fun c => decide (c < 16 ^ 8)) = true) (s : x.cps.size ≤ B) (o : PyData.strOk x = true) : Tid B 0 (.str x) := ⟨by rw [PyData.leavesShort]; exact h, by rw [PyData.bulk]; exact s, by simp [PyData.showable], by simp [PyData.hasDict], by simp [PyData.depth], by rw [PyData.canLay0]; exact o⟩
theorem tid_num (n : Nat) (h : n ≤ 60) : Tid 2 0 (.str (toString (n : Int))) := by
  have e : ∀ j : Fin 61, ((toString ((j.val : Nat) : Int) : Str).cps.toList.all fun c => decide (c < 16 ^ 8)) = true ∧ (toString ((j.val : Nat) : Int) : Str).cps.size ≤ 2 ∧ PyData.strOk (toString ((j.val : Nat) : Int) : Str) = true := by decide +kernel
  have e' := e ⟨n, by omega⟩
  exact .str e'.1 e'.2.1 e'.2.2
theorem Tid.shown {B k : Nat} {d : PyData} {K : PySem.W.Frag} {H : Hp} {x : V} (h : Tid B k d) (b : B ≤ 1000) (c : k ≤ 64) (v : Dp K H x d) : Gd.Shown K H x d :=
  ⟨v, h.sh, h.nd, Nat.le_trans h.dp c, PyData.shown_fits_bulk (B := 13) (by decide) (by decide) h.ls (Nat.le_trans h.bk (Nat.le_trans b (by decide)))⟩
/-! ### what is given -/
inductive Good (K : PySem.W.Frag) (H : Hp) : V → PyData → Prop
  | dat {x : V} {d : PyData} (h : Dp K H x d) (t : Tid 1000 3 d) (f : few d) : Good K H x d
  | d0 {a : Addr} (h : H a = some (.dK [])) : Good K H (.ref a) (.dict [])
  | d1 {a : Addr} (h : H a = some (.dK [(.inl 0, .int 1)])) : Good K H (.ref a) (.dict [(.int 0, .int 1)])
theorem Good.same {K : PySem.W.Frag} {H H' : Hp} {x : V} {d : PyData} (s : Same H H') (h : Good K H x d) : Good K H' x d := by
  cases h with
  | dat h t f => exact .dat (dp_same s h) t f
  | d0 h => exact .d0 (s _ _ h)
  | d1 h => exact .d1 (s _ _ h)
theorem Good.few {K : PySem.W.Frag} {H : Hp} {x : V} {d : PyData} (h : Good K H x d) : few d := by
  cases h with
  | dat h t f => exact f
  | d0 h => intro ds e; cases e
  | d1 h => intro ds e; cases e
theorem Good.vd {K : PySem.W.Frag} {H : Hp} {x : V} {d : PyData} (h : Good K H x d) : Vd K H x d := by
  cases h with
  | dat h t f => exact .dat h
  | d0 h => exact .dic h
  | d1 h => exact .dic h
theorem Good.okv {K : PySem.W.Frag} {H : Hp} {x : V} {d : PyData} (h : Good K H x d) : Okv K H x d := by
  refine ⟨h.vd, h.few, fun l => ?_⟩
  cases h with
  | dat h t f =>
    unfold SeqAt.shaped
    rw [t.lay, decide_eq_true (show d.depth ≤ 64 from Nat.le_trans t.dp (by decide))]
    rfl
  | d0 h => cases l
  | d1 h => cases l
section
variable {X : Cx}
theorem key_reads {h : Heap} : ∀ (k : Key) (key : Value), keyIs k key = true → Reads h key (dKey k) [] := by
  intro k key hk
  rcases keyIs_shape hk with ⟨i, t, rfl, rfl⟩ | ⟨x, t, rfl, rfl⟩
  · exact Reads.int i t
  · exact Reads.str x t
theorem hsm1 {a : Addr} (na : (a == sysModules) = false) : sysModules ∉ a :: ([] : List Addr) := fun z => by
  have z' : sysModules = a := by simpa using z
  rw [← z'] at na
  simp at na
theorem dep0 : (PyData.dict []).depth = 1 := by decide +kernel
theorem dep1 : (PyData.dict [(.int 0, .int 1)]).depth = 1 := by decide +kernel
/-- repr(thing) where all is quiet -/
theorem call_reprG (quiet : Gd.Quiet X.A) (hu : X.A.units + 70 < cLine) : CallR X (.builtin "repr") (fun xs H Q => ∃ x d, xs = [x] ∧ Good X.K H x d ∧ Q (.str d.shown) H) := by
  intro pins s σ H xs us Q I r h
  obtain ⟨x, d, rfl, g, q⟩ := h
  cases g with
  | dat h t f => exact Gd.call_reprD quiet hu pins s σ H _ us Q I r ⟨x, d, rfl, t.shown (Nat.le_refl _) (by decide) h, q⟩
  | d0 h =>
    cases r with
    | cons r1 r2 =>
      rename_i a u us'
      cases r2
      cases r1
      obtain ⟨_, na, vs, kv, dd⟩ := I.hok a _ h
      cases kv
      have rd := PyProof.V.reads_dictOf (enc := dKey) (D := []) (bs := []) key_reads dd .nil
      exact repr_of_reads' rd (by decide +kernel) (fun _ => hsm1 na) quiet (by rw [dep0]; omega) (fun _ _ e => e) (fun h' v tk k => ⟨.str _, H, I.kept (t' := tk) k, ⟨_, rfl⟩, q⟩) (by decide +kernel)
  | d1 h =>
    cases r with
    | cons r1 r2 =>
      rename_i a u us'
      cases r2
      cases r1
      obtain ⟨_, na, vs, kv, dd⟩ := I.hok a _ h
      cases kv with
      | cons k1 k2 =>
        rename_i q1 vs'
        cases k2
        obtain ⟨e1, t, e2⟩ := k1
        obtain ⟨k1, v1⟩ := q1
        cases e1
        cases e2
        have rd := PyProof.V.reads_dictOf (enc := dKey) (D := [(.int 0, .int 1)]) (bs := []) key_reads dd (.cons (as := []) (.int 1 _) .nil)
        exact repr_of_reads' rd (by decide +kernel) (fun _ => hsm1 na) quiet (by rw [dep1]; omega) (fun _ _ e => e) (fun h' v tk k => ⟨.str _, H, I.kept (t' := tk) k, ⟨_, rfl⟩, q⟩) (by decide +kernel)
end
end Wb

namespace Wb
open PySem L2
/-! ### all but the pool -/
theorem hid_same (H : Hp) (p : Addr) : Same (del H p) H := fun b o e => by
  by_cases h : b = p
  · rw [h, del_same] at e; cases e
  · rw [del_ne h] at e; exact e
theorem hid_but {H H' : Hp} {p : Addr} (s : But [p] H H') : Same (del H p) (del H' p) := fun b o e => by
  by_cases h : b = p
  · rw [h, del_same] at e; cases e
  · rw [del_ne h] at e ⊢
    exact s b o (by simpa using h) e
theorem hid_mono {H H' : Hp} {p : Addr} (s : Same H H') : Same (del H p) (del H' p) := hid_but (But.of_same s)
/-! ### rows of small things -/
theorem dpAll_drop {K : PySem.W.Frag} {H : Hp} : ∀ (n : Nat) {xs : List V} {ds : List PyData}, DpAll K H xs ds → DpAll K H (xs.drop n) (ds.drop n)
  | 0, _, _, h => h
  | n + 1, _, _, .nil => .nil
  | n + 1, _, _, .cons _ t => dpAll_drop n t
theorem dpAll_take {K : PySem.W.Frag} {H : Hp} : ∀ (n : Nat) {xs : List V} {ds : List PyData}, DpAll K H xs ds → DpAll K H (xs.take n) (ds.take n)
  | 0, _, _, _ => .nil
  | n + 1, _, _, .nil => .nil
  | n + 1, _, _, .cons a t => .cons a (dpAll_take n t)
theorem dpAll_app {K : PySem.W.Frag} {H : Hp} : ∀ {xs ys : List V} {ds es : List PyData}, DpAll K H xs ds → DpAll K H ys es → DpAll K H (xs ++ ys) (ds ++ es)
  | _, _, _, _, .nil, h => h
  | _, _, _, _, .cons a t, h => .cons a (dpAll_app t h)
theorem dpAll_rev {K : PySem.W.Frag} {H : Hp} : ∀ {xs : List V} {ds : List PyData}, DpAll K H xs ds → DpAll K H xs.reverse ds.reverse
  | _, _, .nil => .nil
  | _, _, .cons a t => by
    rw [List.reverse_cons, List.reverse_cons]
    exact dpAll_app (dpAll_rev t) (.cons a .nil)
def Sm (K : PySem.W.Frag) (H : Hp) (xs : List V) (n : Nat) : Prop := ∃ ds, DpAll K H xs ds ∧ (∀ d ∈ ds, Tid 20 1 d) ∧ xs.length ≤ n
theorem Sm.same {K : PySem.W.Frag} {H H' : Hp} {xs : List V} {n : Nat} (h : Sm K H xs n) (s : Same H H') : Sm K H' xs n := by
  obtain ⟨ds, a, b, c⟩ := h
  exact ⟨ds, dpAll_same s a, b, c⟩
theorem Sm.cut {K : PySem.W.Frag} {H : Hp} {xs : List V} {n : Nat} (h : Sm K H xs n) (lo hi : Option Int) : Sm K H (cutV xs lo hi) n := by
  obtain ⟨ds, a, b, c⟩ := h
  exact ⟨_, dpAll_take _ (dpAll_drop _ a), fun d hd => b d (List.mem_of_mem_drop (List.mem_of_mem_take hd)), Nat.le_trans (cutV_length _ _ _) c⟩
theorem Sm.app {K : PySem.W.Frag} {H : Hp} {xs ys : List V} {n m : Nat} (h : Sm K H xs n) (g : Sm K H ys m) : Sm K H (xs ++ ys) (n + m) := by
  obtain ⟨ds, a, b, c⟩ := h
  obtain ⟨es, a', b', c'⟩ := g
  exact ⟨_, dpAll_app a a', fun d hd => (List.mem_append.mp hd).elim (b d) (b' d), by rw [List.length_append]; omega⟩
theorem Sm.rev {K : PySem.W.Frag} {H : Hp} {xs : List V} {n : Nat} (h : Sm K H xs n) : Sm K H xs.reverse n := by
  obtain ⟨ds, a, b, c⟩ := h
  exact ⟨_, dpAll_rev a, fun d hd => b d (by simpa using hd), by rw [List.length_reverse]; exact c⟩
theorem Sm.one {K : PySem.W.Frag} {H : Hp} {x : V} {d : PyData} (h : Dp K H x d) (t : Tid 20 1 d) : Sm K H [x] 1 := ⟨[d], .cons h .nil, fun e he => by
  have e' : e = d := by simpa using he
  rw [e']
  exact t, Nat.le_refl _⟩
theorem Sm.tid {K : PySem.W.Frag} {H : Hp} {xs : List V} {n : Nat} (h : Sm K H xs n) (hn : n ≤ 40) : ∃ ds, DpAll K H xs ds ∧ TidL 1000 1 ds ∧ ds.length ≤ 40 := by
  obtain ⟨ds, a, b, c⟩ := h
  have l := DpAll.len a
  refine ⟨ds, a, (TidL.of b).mono ?_ (Nat.le_refl _), by omega⟩
  have : ds.length * 21 ≤ 40 * 21 := Nat.mul_le_mul_right _ (by omega)
  exact Nat.le_trans this (by decide)
theorem Sm.lst {K : PySem.W.Frag} {H : Hp} {xs : List V} {n : Nat} {a : Addr} (h : Sm K H xs n) (hn : n ≤ 40) (e : H a = some (.lst xs)) : ∃ d, Good K H (.ref a) d := by
  obtain ⟨ds, d1, d2, d3⟩ := h.tid hn
  exact ⟨_, .dat (.lst (SqL.of e) d1) ((Tid.lst d2).mono (Nat.le_refl _) (by decide)) fun es e => by cases e; omega⟩
theorem Sm.tup {K : PySem.W.Frag} {H : Hp} {xs : List V} {n : Nat} {a : Addr} (h : Sm K H xs n) (hn : n ≤ 40) (e : H a = some (.tup xs)) : ∃ d, Good K H (.ref a) d := by
  obtain ⟨ds, d1, d2, d3⟩ := h.tid hn
  exact ⟨_, .dat (.tup (SqT.of e) d1) ((Tid.tup d2).mono (Nat.le_refl _) (by decide)) fun es e => by cases e⟩
theorem tid_step {m : Nat} {e : Nat × Int} (hm : m ≤ 60) (h : e.1 < m ∧ (e.2 = 1 ∨ e.2 = -1)) : Tid 20 1 (dStep e) :=
  (Tid.tup (.cons (.int (i := (e.1 : Int)) (by omega) (by omega)) (.cons (.int (i := e.2) (by omega) (by omega)) .nil))).mono (by decide) (Nat.le_refl _)
/-! ### expressions that make such things -/
def Mk (K : PySem.W.Frag) (p : Addr) (σ : L2.St) (Hs : Hp) (B k : Nat) (te : TE) : Prop := ∀ (H : Hp) (Q : VK), Same Hs H → (∀ H' x d, Same H H' → Dp K (del H' p) x d → Tid B k d → Q x H') → te σ H Q
def MkA (K : PySem.W.Frag) (p : Addr) (σ : L2.St) (Hs : Hp) (B k n : Nat) (ta : TA) : Prop := ∀ (H : Hp) (Q : List V → Hp → Prop), Same Hs H → (∀ H' xs ds, Same H H' → DpAll K (del H' p) xs ds → (∀ d ∈ ds, Tid B k d) → xs.length = n → Q xs H') → ta σ H Q
section
variable {K : PySem.W.Frag} {p : Addr} {σ : L2.St} {Hs : Hp} {B k n : Nat} {te : TE} {ta : TA}
theorem mkA_nil : MkA K p σ Hs B k 0 tNil := fun H Q _ q => q H [] [] (Same.refl _) .nil (fun d hd => by simp at hd) rfl
theorem mkA_cons (h : Mk K p σ Hs B k te) (t : MkA K p σ Hs B k n ta) : MkA K p σ Hs B k (n + 1) (tCons te ta) := fun H Q s q =>
  h H _ s fun H1 x d s1 dx dt => t H1 _ (s.trans s1) fun H2 xs ds s2 dxs dts len => q H2 (x :: xs) (d :: ds) (s1.trans s2) (.cons (dp_same (hid_mono s2) dx) dxs) (fun e he => by
    rcases List.mem_cons.mp he with rfl | he
    · exact dt
    · exact dts e he) (congrArg Nat.succ len)
theorem Mk.mono {B' k' : Nat} (h : Mk K p σ Hs B k te) (a : B ≤ B') (b : k ≤ k') : Mk K p σ Hs B' k' te := fun H Q s q => h H Q s fun H' x d s1 dx t => q H' x d s1 dx (t.mono a b)
theorem mk_tup (hp : ∃ o, Hs p = some o) (t : MkA K p σ Hs B k n ta) (hn : n ≤ 5) : Mk K p σ Hs (5 * (B + 1)) (k + 1) (tTup ta) := fun H Q s q =>
  t H _ s fun H1 xs ds s1 dxs dts len => ⟨by rw [len]; exact Nat.le_trans hn (by decide), fun u hu => by
    obtain ⟨o, hp⟩ := hp
    have nu : u ≠ p := (ne_of_none (s1 _ _ (s _ _ hp)) hu).symm
    have s2 : Same H1 (upd H1 u (.tup xs)) := same_new (Same.refl _) (.inl hu)
    have l := DpAll.len dxs
    refine q _ _ (.tuple ds) (s1.trans s2) (.tup (SqT.of ?_) (dpAll_same (hid_mono s2) dxs)) ((Tid.tup (TidL.of dts)).mono (Nat.mul_le_mul_right _ (by omega)) (Nat.le_refl _))
    rw [del_ne nu, upd_same]⟩
theorem mk_lst (hp : ∃ o, Hs p = some o) (t : MkA K p σ Hs B k n ta) (hn : n ≤ 5) : Mk K p σ Hs (5 * (B + 1)) (k + 1) (tLst ta) := fun H Q s q =>
  t H _ s fun H1 xs ds s1 dxs dts len => ⟨by rw [len]; exact Nat.le_trans hn (by decide), fun u hu => by
    obtain ⟨o, hp⟩ := hp
    have nu : u ≠ p := (ne_of_none (s1 _ _ (s _ _ hp)) hu).symm
    have s2 : Same H1 (upd H1 u (.lst xs)) := same_new (Same.refl _) (.inl hu)
    have l := DpAll.len dxs
    refine q _ _ (.list ds) (s1.trans s2) (.lst (SqL.of ?_) (dpAll_same (hid_mono s2) dxs)) ((Tid.lst (TidL.of dts)).mono (Nat.mul_le_mul_right _ (by omega)) (Nat.le_refl _))
    rw [del_ne nu, upd_same]⟩
theorem mk_var {i : Nat} {v : Int} (h : σ[i]? = some (some (.int v))) (a : -100 ≤ v) (b : v ≤ 100) : Mk K p σ Hs 2 0 (tVar i) := fun H Q s q => ⟨.int v, h, q H _ _ (Same.refl _) (.int v) ((Tid.int a b).mono (Nat.zero_le _) (Nat.le_refl _))⟩
theorem mk_int {v : Int} (a : -100 ≤ v) (b : v ≤ 100) : Mk K p σ Hs 2 0 (tC (.int v)) := fun H Q s q => q H _ _ (Same.refl _) (.int v) ((Tid.int a b).mono (Nat.zero_le _) (Nat.le_refl _))
theorem mk_bl {v : Bool} : Mk K p σ Hs 2 0 (tC (.bl v)) := fun H Q s q => q H _ _ (Same.refl _) (.bl v) ((Tid.bl v).mono (Nat.zero_le _) (Nat.le_refl _))
theorem mk_non : Mk K p σ Hs 2 0 (tC .non) := fun H Q s q => q H _ _ (Same.refl _) .non (Tid.non.mono (Nat.zero_le _) (Nat.le_refl _))
theorem mk_ofint {te : TE} {v : Int} (a : -100 ≤ v) (b : v ≤ 100) (h : ∀ H Q, Same Hs H → Q (.int v) H → te σ H Q) : Mk K p σ Hs 2 0 te := fun H Q s q => h H Q s (q H _ _ (Same.refl _) (.int v) ((Tid.int a b).mono (Nat.zero_le _) (Nat.le_refl _)))
theorem mk_ofnum {te : TE} {v : Nat} (b : v ≤ 60) (h : ∀ H Q, Same Hs H → Q (.str (toString (v : Int))) H → te σ H Q) : Mk K p σ Hs 2 0 te := fun H Q s q => h H Q s (q H _ _ (Same.refl _) (.str _) (tid_num v b))
end
end Wb

namespace Wb
open PySem L2
def spBent (K : PySem.W.Frag) : Sp := fun vs H Q _ => ∃ (p a r : Addr) (ts : List Addr) (ps : List (Nat × Nat)), vs = [.ref p, .ref a, .ref r] ∧ PoolAt H p ∧ a ≠ p ∧ EdgesAt H a ts ps ∧ ps.length ≤ 60 ∧ StepsL H r ps.length 8 ∧
  ∀ H' x d, But [p] H H' → PoolAt H' p → Good K (del H' p) x d → Q x H'
section
variable {P : Program} {w : World} {K : PySem.W.Frag} {mg : Str → Option Value} {base : Heap}
abbrev bentN : List Str := ["_law_pool_here", "_law_links_here", "_law_row", "_law_at", "_law_number", "_law_way", "_law_odd", "_law_one", "_law_some"]
theorem scBent : FnScope bentN ["_law_pool_here", "_law_links_here", "_law_row"] (defScope sBent) := ⟨rfl, rfl, rfl, by decide +kernel, rfl, by decide +kernel, by decide +kernel⟩
theorem atI_lt {xs : List V} {r : Int} (h0 : 0 ≤ r) (h1 : r < xs.length) : ∃ x, xs[r.toNat]? = some x ∧ atI xs r = some x := by
  obtain ⟨j, rfl⟩ : ∃ j : Nat, r = (j : Int) := ⟨r.toNat, (Int.toNat_of_nonneg h0).symm⟩
  have hj : j < xs.length := by omega
  exact ⟨xs[j], by simp [hj], atI_nat (by simp [hj])⟩
theorem mkT {p : Addr} {σ : L2.St} {Hs : Hp} {n : Nat} {ta : TA} (hp : ∃ o, Hs p = some o) (t : MkA K p σ Hs 2 0 n ta) (hn : n ≤ 5) : Mk K p σ Hs 20 1 (tTup ta) := (mk_tup hp t hn).mono (by decide) (Nat.le_refl _)
theorem mkL {p : Addr} {σ : L2.St} {Hs : Hp} {n : Nat} {ta : TA} (hp : ∃ o, Hs p = some o) (t : MkA K p σ Hs 2 0 n ta) (hn : n ≤ 5) : Mk K p σ Hs 20 1 (tLst ta) := (mk_lst hp t hn).mono (by decide) (Nat.le_refl _)
theorem mkI {p : Addr} {σ : L2.St} {Hs : Hp} {te : TE} (t : Mk K p σ Hs 2 0 te) : Mk K p σ Hs 20 1 te := t.mono (by decide) (by decide)
theorem idx8 {P : Int → Prop} (h0 : P 0) (h1 : P 1) (h2 : P 2) (h3 : P 3) (h4 : P 4) (h5 : P 5) (h6 : P 6) (h7 : P 7) {r : Int} (a : 0 ≤ r) (b : r < 8) : P r := by
  have e : r = 0 ∨ r = 1 ∨ r = 2 ∨ r = 3 ∨ r = 4 ∨ r = 5 ∨ r = 6 ∨ r = 7 := by omega
  rcases e with rfl | rfl | rfl | rfl | rfl | rfl | rfl | rfl <;> assumption
theorem idx6 {P : Int → Prop} (h0 : P 0) (h1 : P 1) (h2 : P 2) (h3 : P 3) (h4 : P 4) (h5 : P 5) {r : Int} (a : 0 ≤ r) (b : r < 6) : P r := by
  have e : r = 0 ∨ r = 1 ∨ r = 2 ∨ r = 3 ∨ r = 4 ∨ r = 5 := by omega
  rcases e with rfl | rfl | rfl | rfl | rfl | rfl <;> assumption
theorem tsA' {te : TE} {g : TG} {u : TS} {D : Ends} {σ : L2.St} {H : Hp} (h : te σ H fun x H1 => g x σ H1 (u D)) : tSeq (tAsg te g) u D σ H := h
theorem logs (n : Nat) (h : n ≤ 60) : (n : Int).natAbs.log2 < 1920 := by
  have e : ∀ j : Fin 61, (((j.val : Nat) : Int).natAbs.log2 < 1920) := by decide +kernel
  exact e ⟨n, by omega⟩
theorem mkLst {p : Addr} {σ : L2.St} {Hs H : Hp} {B k n : Nat} {ta : TA} {Q : VK} (t : MkA K p σ Hs B k n ta) (s : Same Hs H) (hn : n ≤ 20) (h : ∀ H' xs ds, Same H H' → DpAll K (del H' p) xs ds → (∀ d ∈ ds, Tid B k d) → xs.length = n → ∀ O, H' O = none → Q (.ref O) (upd H' O (.lst xs))) : tLst ta σ H Q :=
  t H _ s fun H' xs ds s1 a b c => ⟨by rw [c]; exact Nat.le_trans hn (by decide), fun O hO => h H' xs ds s1 a b c O hO⟩
theorem few_tid {d : PyData} (h : ∀ ds, d = .list ds → ds.length ≤ 1000) : few d := h
theorem ok_bent {f : Addr} {fd : FuncData} (F : Fun K "_law_bent" "_law_bent" sBent f fd) (B : Bn mg) (D : Df P w K mg base 1 "_law_take" ["_law_pool_here", "_law_sides"] spTake) : FnOk P w K mg base CX0 2 f fd ["_law_pool_here", "_law_links_here", "_law_row"] (spBent K) := by
  obtain ⟨g, gd, G, mgG, kG, bG⟩ := D.ex
  refine F.ok scBent (fun vs H Q E h => ?_) (fun cdv A outer s H vs Q E hr h => ?_)
  · obtain ⟨p, a, r, ts, ps, rfl, _⟩ := h
    rfl
  · obtain ⟨p, a, r, ts, ps, rfl, hp, nap, hE, p60, hS, q⟩ := h
    refine ⟨_, pss_cons (ps_if (pt_cmpR (op_eqD hr.units) (pv 2) (pe_lst pa_nil) (nomark _))
        (pss_one (ps_ret (pe_ix ix_list (pe_lst (pa_cons (pe_lst pa_nil) (pa_cons pe_non (pa_cons (pe_tup pa_nil) (pa_cons pe_str (pa_cons pe_dnewK (pa_cons pe_int (pa_cons (pe_lst (pa_cons (pe_lst pa_nil) pa_nil)) (pa_cons (pe_lst (pa_cons (pe_tup pa_nil) pa_nil)) pa_nil)))))))))
          (pe_call G hr rfl mgG kG bG .nil pass0 (pa_cons (pv 0) (pa_cons pe_int pa_nil))) (fun _ _ => rfl)))) pss_nil)
      (pss_cons (ps_set (i := 3) scBent.nd rfl (Or.inl rfl) (pe_call G hr rfl mgG kG bG .nil pass0 (pa_cons (pv 0) (pa_cons (pe_callB call_len_seq (by rfl) B.len PySem.boot_len (pa_cons (pv 2) pa_nil)) pa_nil))))
      (pss_cons (ps_asg (pe_ix ix_list (pv 2) (pv 3) (fun _ _ => rfl)) (pg_tup rfl (pgs_cons (pg_name (i := 4) scBent.nd rfl (Or.inl rfl)) (pgs_cons (pg_name (i := 5) scBent.nd rfl (Or.inl rfl)) pgs_nil))))
      (pss_cons (ps_set (i := 6) scBent.nd rfl (Or.inl rfl) (pe_lst (pa_cons (pe_tup (pa_cons (pv 4) (pa_cons (pe_op op_sub pe_int (pv 5)) pa_nil))) (pa_cons (pe_tup (pa_cons (pv 4) (pa_cons pe_int pa_nil))) (pa_cons (pe_tup (pa_cons (pv 4) (pa_cons pe_int pa_nil)))
          (pa_cons (pe_tup (pa_cons (pv 4) (pa_cons pe_bl pa_nil))) (pa_cons (pe_tup (pa_cons pe_bl (pa_cons (pv 5) pa_nil))) (pa_cons (pe_tup (pa_cons (pv 4) pa_nil)) (pa_cons (pe_lst (pa_cons (pv 4) (pa_cons (pv 5) pa_nil))) (pa_cons pe_non pa_nil))))))))))
      (pss_cons (ps_set (i := 6) scBent.nd rfl (Or.inl rfl) (pe_op op_cat (pv 6) (pe_lst (pa_cons (pe_tup (pa_cons (pe_callB call_len_seq (by rfl) B.len PySem.boot_len (pa_cons (pv 1) pa_nil)) (pa_cons (pv 5) pa_nil))) (pa_cons (pe_tup (pa_cons (pe_un un_neg pe_int) (pa_cons (pv 5) pa_nil)))
          (pa_cons (pe_tup (pa_cons (pv 4) (pa_cons (pv 5) (pa_cons pe_int pa_nil)))) (pa_cons (pe_tup (pa_cons (pe_callTy call_str_int (by rfl) B.str (by decide +kernel) (pa_cons (pv 4) pa_nil)) (pa_cons (pv 5) pa_nil)))
          (pa_cons (pe_tup (pa_cons (pe_op op_mod (pe_op op_add (pv 4) pe_int) (pe_callB call_len_seq (by rfl) B.len PySem.boot_len (pa_cons (pv 1) pa_nil))) (pa_cons (pv 5) pa_nil))) pa_nil))))))))
      (pss_cons (ps_set (i := 7) scBent.nd rfl (Or.inl rfl) (pe_ix ix_list (pv 6) (pe_call G hr rfl mgG kG bG .nil pass0 (pa_cons (pv 0) (pa_cons pe_int pa_nil))) (fun _ _ => rfl)))
      (pss_cons (ps_set (i := 8) scBent.nd rfl (Or.inl rfl) (pe_lst (pa_cons (pe_op op_cat (pe_op op_cat (pe_slice sl_list (pv 2) po_none (po_some (pv 3))) (pe_lst (pa_cons (pv 7) pa_nil))) (pe_slice sl_list (pv 2) (po_some (pe_op op_add (pv 3) pe_int)) po_none))
          (pa_cons (pv 2) (pa_cons (pv 2) (pa_cons (pe_revL (pv 2)) (pa_cons (pe_callTy call_tuple_of (by rfl) B.tuple (by decide +kernel) (pa_cons (pv 2) pa_nil))
          (pa_cons (pe_op op_cat (pe_slice sl_list (pv 2) po_none (po_some (pv 3))) (pe_slice sl_list (pv 2) (po_some (pe_op op_add (pv 3) pe_int)) po_none)) pa_nil))))))))
      (pss_one (ps_ret (pe_ix ix_list (pv 8) (pe_call G hr rfl mgG kG bG .nil pass0 (pa_cons (pv 0) (pa_cons pe_int pa_nil))) (fun _ _ => rfl)))))))))), ?_⟩
    obtain ⟨us, es, hr0, hS0, hval, h8⟩ := id hS
    obtain ⟨pa0, pb0, hpl, pb1, pb2⟩ := id hp
    refine ⟨_, rfl, Nat.zero_le _, fun em hem => ?_⟩
    have s0 : Same H (upd H em (.lst [])) := same_new (Same.refl _) (.inl hem)
    refine ⟨.list (es.map dStep), .list [], .lst (SqL.of (s0 _ _ hr0)) (dpAll_same s0 (steps_dp hS0)), .lst (SqL.of upd_same) .nil, shaped_steps _, shaped_ints [], _, rfl, ?_⟩
    rw [eqv_steps_nil]
    have hpl0 := s0 _ _ hpl
    generalize upd H em (.lst []) = H0 at *
    by_cases hnil : es.map dStep = []
    · rw [decide_eq_true hnil]
      refine iteT ?_
      refine ⟨Nat.zero_le _, fun e1 he1 => ?_⟩
      have t0 : Same H0 (upd H0 e1 (.lst [])) := same_new (Same.refl _) (.inl he1)
      have f0 : (upd H0 e1 (.lst [])) e1 = some (.lst []) := upd_same
      have ne1 : e1 ≠ p := (ne_of_none hpl0 he1).symm
      have hpl1 := t0 _ _ hpl0
      generalize upd H0 e1 (.lst []) = H1 at *
      refine ⟨Nat.zero_le _, fun t1 ht1 => ?_⟩
      have t1' : Same H1 (upd H1 t1 (.tup [])) := same_new (Same.refl _) (.inl ht1)
      have f1 : (upd H1 t1 (.tup [])) t1 = some (.tup []) := upd_same
      have nt1 : t1 ≠ p := (ne_of_none hpl1 ht1).symm
      have hpl2 := t1' _ _ hpl1
      generalize upd H1 t1 (.tup []) = H2 at *
      refine fun d1 hd1 => ?_
      have t2' : Same H2 (upd H2 d1 (.dK [])) := same_new (Same.refl _) (.inl hd1)
      have f2 : (upd H2 d1 (.dK [])) d1 = some (.dK []) := upd_same
      have nd1 : d1 ≠ p := (ne_of_none hpl2 hd1).symm
      have hpl3 := t2' _ _ hpl2
      generalize upd H2 d1 (.dK []) = H3 at *
      refine ⟨Nat.zero_le _, fun e2 he2 => ?_⟩
      have t3 : Same H3 (upd H3 e2 (.lst [])) := same_new (Same.refl _) (.inl he2)
      have f3 : (upd H3 e2 (.lst [])) e2 = some (.lst []) := upd_same
      have ne2 : e2 ≠ p := (ne_of_none hpl3 he2).symm
      have hpl4 := t3 _ _ hpl3
      generalize upd H3 e2 (.lst []) = H4 at *
      refine ⟨(by show 1 ≤ sizeLine; decide), fun l2 hl2 => ?_⟩
      have t4 : Same H4 (upd H4 l2 (.lst [.ref e2])) := same_new (Same.refl _) (.inl hl2)
      have f4 : (upd H4 l2 (.lst [.ref e2])) l2 = some (.lst [.ref e2]) := upd_same
      have nl2 : l2 ≠ p := (ne_of_none hpl4 hl2).symm
      have hpl5 := t4 _ _ hpl4
      generalize upd H4 l2 (.lst [.ref e2]) = H5 at *
      refine ⟨Nat.zero_le _, fun t2 ht2 => ?_⟩
      have t5 : Same H5 (upd H5 t2 (.tup [])) := same_new (Same.refl _) (.inl ht2)
      have f5 : (upd H5 t2 (.tup [])) t2 = some (.tup []) := upd_same
      have nt2 : t2 ≠ p := (ne_of_none hpl5 ht2).symm
      have hpl6 := t5 _ _ hpl5
      generalize upd H5 t2 (.tup []) = H6 at *
      refine ⟨(by show 1 ≤ sizeLine; decide), fun l3 hl3 => ?_⟩
      have t6 : Same H6 (upd H6 l3 (.lst [.ref t2])) := same_new (Same.refl _) (.inl hl3)
      have f6 : (upd H6 l3 (.lst [.ref t2])) l3 = some (.lst [.ref t2]) := upd_same
      have nl3 : l3 ≠ p := (ne_of_none hpl6 hl3).symm
      have hpl7 := t6 _ _ hpl6
      generalize upd H6 l3 (.lst [.ref t2]) = H7 at *
      refine ⟨(by show 8 ≤ sizeLine; decide), fun L hL => ?_⟩
      have t7 : Same H7 (upd H7 L (.lst [.ref e1, .non, .ref t1, .str "walk", .ref d1, .int 0, .ref l2, .ref l3])) := same_new (Same.refl _) (.inl hL)
      have f7 : (upd H7 L (.lst [.ref e1, .non, .ref t1, .str "walk", .ref d1, .int 0, .ref l2, .ref l3])) L = some (.lst [.ref e1, .non, .ref t1, .str "walk", .ref d1, .int 0, .ref l2, .ref l3]) := upd_same
      have nL : L ≠ p := (ne_of_none hpl7 hL).symm
      have hpl8 := t7 _ _ hpl7
      generalize upd H7 L (.lst [.ref e1, .non, .ref t1, .str "walk", .ref d1, .int 0, .ref l2, .ref l3]) = H8 at *
      have hp8 : PoolAt H8 p := ⟨_, _, hpl8, pb1, pb2⟩
      refine ⟨_, rfl, p, 8, rfl, hp8, by decide, by decide, fun H9 z b9 hp9 z0 z1 => ?_⟩
      have hb := hid_but b9
      have up6 : Same H6 H8 := t6.trans t7
      have up5 : Same H5 H8 := t5.trans up6
      have up4 : Same H4 H8 := t4.trans up5
      have up3 : Same H3 H8 := t3.trans up4
      have up2 : Same H2 H8 := t2'.trans up3
      have up1 : Same H1 H8 := t1'.trans up2
      have at9 : ∀ {u : Addr} {o : HO}, u ≠ p → H8 u = some o → (del H9 p) u = some o := fun n e => hb _ _ (by rw [del_ne n]; exact e)
      have bt : But [p] H H9 := (But.of_same ((s0.trans t0).trans up1)).trans b9
      have hL9 : H9 L = some (.lst [.ref e1, .non, .ref t1, .str "walk", .ref d1, .int 0, .ref l2, .ref l3]) := b9 _ _ (by simpa using nL) f7
      have gd : ∃ x d, atI [.ref e1, .non, .ref t1, .str "walk", .ref d1, .int 0, .ref l2, .ref l3] z = some x ∧ Good K (del H9 p) x d := by
        refine idx8 (P := fun z => ∃ x d, atI [.ref e1, .non, .ref t1, .str "walk", .ref d1, .int 0, .ref l2, .ref l3] z = some x ∧ Good K (del H9 p) x d) ?_ ?_ ?_ ?_ ?_ ?_ ?_ ?_ z0 z1
        · exact ⟨_, _, rfl, .dat (.lst (SqL.of (at9 ne1 (up1 _ _ f0))) .nil) ((Tid.lst TidL.nil).mono (Nat.zero_le _) (by decide)) fun ds e => by cases e; exact Nat.zero_le _⟩
        · exact ⟨_, _, rfl, .dat .non (Tid.non.mono (Nat.zero_le _) (by decide)) fun ds e => by cases e⟩
        · exact ⟨_, _, rfl, .dat (.tup (SqT.of (at9 nt1 (up2 _ _ f1))) .nil) ((Tid.tup TidL.nil).mono (Nat.zero_le _) (by decide)) fun ds e => by cases e⟩
        · exact ⟨_, _, rfl, .dat (.str _) ((Tid.str (B := 4) (by decide +kernel) (by decide +kernel) (by decide +kernel)).mono (by decide) (by decide)) fun ds e => by cases e⟩
        · exact ⟨_, _, rfl, .d0 (at9 nd1 (up3 _ _ f2))⟩
        · exact ⟨_, _, rfl, .dat (.int 0) ((Tid.int (by decide) (by decide)).mono (Nat.zero_le _) (by decide)) fun ds e => by cases e⟩
        · exact ⟨_, _, rfl, .dat (.lst (SqL.of (at9 nl2 (up5 _ _ f4))) (.cons (.lst (SqL.of (at9 ne2 (up4 _ _ f3))) .nil) .nil)) ((Tid.lst (TidL.cons (Tid.lst TidL.nil) (TidL.nil.mono (B' := 0) (Nat.zero_le _) (by decide)))).mono (by decide) (by decide)) fun ds e => by cases e; decide⟩
        · exact ⟨_, _, rfl, .dat (.lst (SqL.of (at9 nl3 (t7 _ _ f6))) (.cons (.tup (SqT.of (at9 nt2 (up6 _ _ f5))) .nil) .nil)) ((Tid.lst (TidL.cons (Tid.tup TidL.nil) (TidL.nil.mono (B' := 0) (Nat.zero_le _) (by decide)))).mono (by decide) (by decide)) fun ds e => by cases e; decide⟩
      obtain ⟨x, d, hx, gx⟩ := gd
      exact ⟨L, _, z, x, rfl, rfl, SqL.of hL9, hx, q H9 x d bt hp9 gx⟩
    · rw [decide_eq_false hnil]
      refine iteF ?_
      have hpos : 0 < es.length := List.length_pos_iff.mpr fun zz => hnil (by rw [zz]; rfl)
      have hul : us.length = es.length := hS0.1
      have hur : (us.map V.ref).length = es.length := by rw [List.length_map, hul]
      have hSp : StepsAt (del H p) us es := ⟨hS0.1, fun i t e a b => by
        have := hS0.2 i t e a b
        rw [del_ne (ne_of this hpl (by intro zz; cases zz))]
        exact this⟩
      have sm : Sm K (del H p) (us.map V.ref) 8 := ⟨_, steps_dp hSp, fun d hd => by
        obtain ⟨e, he, rfl⟩ := List.mem_map.mp hd
        exact tid_step p60 (hval e he), by omega⟩
      have nr : r ≠ p := by
        rintro rfl
        rw [hr0] at hpl
        have l1 := HO.lst.inj (Option.some.inj hpl)
        cases hu : us with
        | nil => rw [hu] at l1; cases l1
        | cons u1 ur => rw [hu, List.map_cons] at l1; injection l1 with l2 _; cases l2
      have hr1 := s0 _ _ hr0
      have hp0 : PoolAt H0 p := ⟨_, _, hpl0, pb1, pb2⟩
      refine ⟨_, rfl, _, rfl, r, _, rfl, .inl (SqL.of hr1), p, _, rfl, hp0, by omega, by omega, fun H1 v b1 hp1 v0 v1 => ?_⟩
      rw [hur] at v1
      obtain ⟨pa1, pc1, hpl1, pd1, pe1⟩ := id hp1
      have b01 : But [p] H H1 := (But.of_same s0).trans b1
      have hr2 : H1 r = some (.lst (us.map V.ref)) := b1 _ _ (by simpa using nr) hr1
      have sm1 := sm.same (hid_but b01)
      have hE1 : EdgesAt H1 a ts ps := ⟨b01 _ _ (by simpa using nap) hE.1, hE.2.but b01 hp.notup⟩
      obtain ⟨j, rfl⟩ : ∃ j : Nat, v = (j : Int) := ⟨v.toNat, (Int.toNat_of_nonneg v0).symm⟩
      have hj : j < es.length := by omega
      obtain ⟨t, ht⟩ : ∃ t, us[j]? = some t := ⟨_, List.getElem?_eq_getElem (show j < us.length by omega)⟩
      obtain ⟨e, he⟩ : ∃ e, es[j]? = some e := ⟨_, List.getElem?_eq_getElem hj⟩
      have het : H1 t = some (.tup [.int e.1, .int e.2]) := hid_same _ _ _ _ ((hid_but b01) _ _ (hSp.2 j t e ht he))
      obtain ⟨i1, y⟩ := e
      have hv := hval _ (mem_of_get he)
      have hi1 : i1 < ps.length := hv.1
      have hy : y = 1 ∨ y = -1 := hv.2
      refine ⟨_, rfl, _, rfl, r, _, _, .ref t, rfl, rfl, SqL.of hr2, atI_nat (by rw [List.getElem?_map, ht]; rfl), t, _, rfl, SqT.of het, rfl, _, _, rfl, _, _, rfl, rfl, ?_⟩
      have hpo : ∃ o, H1 p = some o := ⟨_, hpl1⟩
      have a1 : -100 ≤ (i1 : Int) := by omega
      have a2 : (i1 : Int) ≤ 100 := by omega
      have c1 : -100 ≤ y := by omega
      have c2 : y ≤ 100 := by omega
      refine tsA (mkLst (K := K) (p := p) (mkA_cons (mkT hpo (mkA_cons (mk_var rfl a1 a2) (mkA_cons (mk_ofint (v := 0 - y) (by omega) (by omega) fun H Q s h => ⟨_, rfl, _, _, rfl, rfl, h⟩) mkA_nil)) (by decide))
        (mkA_cons (mkT hpo (mkA_cons (mk_var rfl a1 a2) (mkA_cons (mk_int (by decide) (by decide)) mkA_nil)) (by decide))
        (mkA_cons (mkT hpo (mkA_cons (mk_var rfl a1 a2) (mkA_cons (mk_int (by decide) (by decide)) mkA_nil)) (by decide))
        (mkA_cons (mkT hpo (mkA_cons (mk_var rfl a1 a2) (mkA_cons mk_bl mkA_nil)) (by decide))
        (mkA_cons (mkT hpo (mkA_cons mk_bl (mkA_cons (mk_var rfl c1 c2) mkA_nil)) (by decide))
        (mkA_cons (mkT hpo (mkA_cons (mk_var rfl a1 a2) mkA_nil) (by decide))
        (mkA_cons (mkL hpo (mkA_cons (mk_var rfl a1 a2) (mkA_cons (mk_var rfl c1 c2) mkA_nil)) (by decide))
        (mkA_cons (mkI mk_non) mkA_nil))))))))
        (Same.refl H1) (by decide) fun H2 xs ds s2 dxs dts lenx O hO => ?_)
      have hpl2 := s2 _ _ hpl1
      have w2 : Same H2 (upd H2 O (.lst xs)) := same_new (Same.refl _) (.inl hO)
      have f2 : (upd H2 O (.lst xs)) O = some (.lst xs) := upd_same
      have nO : O ≠ p := (ne_of_none hpl2 hO).symm
      have hpl3 := w2 _ _ hpl2
      generalize upd H2 O (.lst xs) = H3 at *
      have s13 : Same H1 H3 := s2.trans w2
      have dxs3 := dpAll_same (hid_mono w2) dxs
      have hE3 : H3 a = some (.lst (ts.map V.ref)) := s13 _ _ hE1.1
      have etl : (ts.map V.ref).length = ps.length := by rw [List.length_map]; exact hE.2.1
      refine gN (tsA ⟨_, rfl, mkLst (K := K) (p := p) (mkA_cons (mkT hpo (mkA_cons (mk_ofint (v := ((ts.map V.ref).length : Nat)) (by omega) (by omega) fun H Q s h => ⟨_, rfl, a, _, rfl, .inl (SqL.of (s _ _ hE1.1)), h⟩) (mkA_cons (mk_var rfl c1 c2) mkA_nil)) (by decide))
        (mkA_cons (mkT hpo (mkA_cons (mk_ofint (v := -1) (by decide) (by decide) fun H Q s h => ⟨1, rfl, h⟩) (mkA_cons (mk_var rfl c1 c2) mkA_nil)) (by decide))
        (mkA_cons (mkT hpo (mkA_cons (mk_var rfl a1 a2) (mkA_cons (mk_var rfl c1 c2) (mkA_cons (mk_int (by decide) (by decide)) mkA_nil))) (by decide))
        (mkA_cons (mkT hpo (mkA_cons (mk_ofnum (v := i1) (by omega) fun H Q s h => ⟨_, rfl, (i1 : Int), rfl, logs i1 (by omega), h⟩) (mkA_cons (mk_var rfl c1 c2) mkA_nil)) (by decide))
        (mkA_cons (mkT hpo (mkA_cons (mk_ofint (v := ((i1 : Int) + 1) % ((ts.map V.ref).length : Nat)) (by have := Int.emod_nonneg ((i1 : Int) + 1) (show ((ts.map V.ref).length : Int) ≠ 0 by omega); omega) (by have := Int.emod_lt_of_pos ((i1 : Int) + 1) (show (0 : Int) < ((ts.map V.ref).length : Nat) by omega); omega)
          fun H Q s h => ⟨_, rfl, _, _, rfl, rfl, _, rfl, a, _, rfl, .inl (SqL.of (s _ _ hE1.1)), _, _, rfl, rfl, (by omega), h⟩) (mkA_cons (mk_var rfl c1 c2) mkA_nil)) (by decide)) mkA_nil)))))
        s13 (by decide) fun H4 ys gs s4 dys gts leny O2 hO2 => ?_⟩)
      have hpl4 := s4 _ _ hpl3
      have w4 : Same H4 (upd H4 O2 (.lst ys)) := same_new (Same.refl _) (.inl hO2)
      have f4 : (upd H4 O2 (.lst ys)) O2 = some (.lst ys) := upd_same
      have nO2 : O2 ≠ p := (ne_of_none hpl4 hO2).symm
      have hpl5 := w4 _ _ hpl4
      generalize upd H4 O2 (.lst ys) = H5 at *
      refine ⟨O, O2, _, _, rfl, rfl, w4 _ _ (s4 _ _ f2), f4, by rw [lenx, leny]; decide, fun O3 hO3 => ?_⟩
      have w5 : Same H5 (upd H5 O3 (.lst (xs ++ ys))) := same_new (Same.refl _) (.inl hO3)
      have f5 : (upd H5 O3 (.lst (xs ++ ys))) O3 = some (.lst (xs ++ ys)) := upd_same
      have nO3 : O3 ≠ p := (ne_of_none hpl5 hO3).symm
      have hpl6 := w5 _ _ hpl5
      generalize upd H5 O3 (.lst (xs ++ ys)) = H6 at *
      have s36 : Same H3 H6 := (s4.trans w4).trans w5
      have dall : DpAll K (del H6 p) (xs ++ ys) (ds ++ gs) := dpAll_app (dpAll_same (hid_mono s36) dxs3) (dpAll_same (hid_mono (w4.trans w5)) dys)
      have hp6 : PoolAt H6 p := ⟨_, _, hpl6, pd1, pe1⟩
      refine gN (tsA ⟨_, rfl, _, rfl, p, 13, rfl, hp6, by decide, by decide, fun H7 z b7 hp7 z0 z1 => ?_⟩)
      obtain ⟨x, hx, hxa⟩ := atI_lt (xs := xs ++ ys) z0 (by rw [List.length_append, lenx, leny]; exact z1)
      obtain ⟨dx, hdx, hxd⟩ := DpAll.get dall hx
      have tx : Tid 20 1 dx := by
        rcases List.mem_append.mp (mem_of_get hdx) with hm | hm
        · exact dts _ hm
        · exact gts _ hm
      refine ⟨O3, _, z, x, rfl, rfl, SqL.of (b7 _ _ (by simpa using nO3) f5), hxa, ?_⟩
      obtain ⟨pa7, pc7, hpl7, pd7, pe7⟩ := id hp7
      have b17 : But [p] H1 H7 := (But.of_same (s13.trans s36)).trans b7
      have hx7 := dp_same (hid_but b7) hxd
      have sm7 := sm1.same (hid_but b17)
      have hr7 : H7 r = some (.lst (us.map V.ref)) := b17 _ _ (by simpa using nr) hr2
      -- six rows
      have hc8 : ∀ lo hi, (cutV (us.map V.ref) lo hi).length ≤ 8 := fun lo hi => Nat.le_trans (cutV_length _ _ _) (by omega)
      have big : ∀ {k : Nat}, k ≤ 40 → k ≤ sizeLine := fun h => Nat.le_trans h (by decide)
      refine gN (tsA ?_)
      refine ⟨_, rfl, _, rfl, _, rfl, r, _, rfl, SqL.of hr7, fun k1 hk1 => ?_⟩
      have w7 : Same H7 (upd H7 k1 (.lst (cutV (us.map V.ref) none (some (j : Int))))) := same_new (Same.refl _) (.inl hk1)
      have f7 : (upd H7 k1 (.lst (cutV (us.map V.ref) none (some (j : Int))))) k1 = some (.lst (cutV (us.map V.ref) none (some (j : Int)))) := upd_same
      have nk1 : k1 ≠ p := (ne_of_none hpl7 hk1).symm
      have hpl8 := w7 _ _ hpl7
      generalize upd H7 k1 (.lst (cutV (us.map V.ref) none (some (j : Int)))) = H8 at *
      refine ⟨_, rfl, (by show 1 ≤ sizeLine; decide), fun k2 hk2 => ?_⟩
      have w8 : Same H8 (upd H8 k2 (.lst [x])) := same_new (Same.refl _) (.inl hk2)
      have f8 : (upd H8 k2 (.lst [x])) k2 = some (.lst [x]) := upd_same
      have nk2 : k2 ≠ p := (ne_of_none hpl8 hk2).symm
      have hpl9 := w8 _ _ hpl8
      generalize upd H8 k2 (.lst [x]) = H9 at *
      refine ⟨k1, k2, _, _, rfl, rfl, w8 _ _ f7, f8, big (by have := hc8 none (some (j : Int)); show _ + 1 ≤ 40; omega), fun k3 hk3 => ?_⟩
      have w9 : Same H9 (upd H9 k3 (.lst (cutV (us.map V.ref) none (some (j : Int)) ++ [x]))) := same_new (Same.refl _) (.inl hk3)
      have f9 : (upd H9 k3 (.lst (cutV (us.map V.ref) none (some (j : Int)) ++ [x]))) k3 = some (.lst (cutV (us.map V.ref) none (some (j : Int)) ++ [x])) := upd_same
      have nk3 : k3 ≠ p := (ne_of_none hpl9 hk3).symm
      have hpl10 := w9 _ _ hpl9
      generalize upd H9 k3 (.lst (cutV (us.map V.ref) none (some (j : Int)) ++ [x])) = H10 at *
      have r10 := ((w7.trans w8).trans w9) _ _ hr7
      refine ⟨_, rfl, _, rfl, _, _, rfl, rfl, _, rfl, r, _, rfl, SqL.of r10, fun k4 hk4 => ?_⟩
      have w10 : Same H10 (upd H10 k4 (.lst (cutV (us.map V.ref) (some ((j : Int) + 1)) none))) := same_new (Same.refl _) (.inl hk4)
      have f10 : (upd H10 k4 (.lst (cutV (us.map V.ref) (some ((j : Int) + 1)) none))) k4 = some (.lst (cutV (us.map V.ref) (some ((j : Int) + 1)) none)) := upd_same
      have nk4 : k4 ≠ p := (ne_of_none hpl10 hk4).symm
      have hpl11 := w10 _ _ hpl10
      generalize upd H10 k4 (.lst (cutV (us.map V.ref) (some ((j : Int) + 1)) none)) = H11 at *
      refine ⟨k3, k4, _, _, rfl, rfl, w10 _ _ f9, f10, big (by have := hc8 none (some (j : Int)); have := hc8 (some ((j : Int) + 1)) none; rw [List.length_append]; show _ + 1 + _ ≤ 40; omega), fun k5 hk5 => ?_⟩
      have w11 : Same H11 (upd H11 k5 (.lst ((cutV (us.map V.ref) none (some (j : Int)) ++ [x]) ++ cutV (us.map V.ref) (some ((j : Int) + 1)) none))) := same_new (Same.refl _) (.inl hk5)
      have f11 : (upd H11 k5 (.lst ((cutV (us.map V.ref) none (some (j : Int)) ++ [x]) ++ cutV (us.map V.ref) (some ((j : Int) + 1)) none))) k5 = some (.lst ((cutV (us.map V.ref) none (some (j : Int)) ++ [x]) ++ cutV (us.map V.ref) (some ((j : Int) + 1)) none)) := upd_same
      have nk5 : k5 ≠ p := (ne_of_none hpl11 hk5).symm
      have hpl12 := w11 _ _ hpl11
      generalize upd H11 k5 (.lst ((cutV (us.map V.ref) none (some (j : Int)) ++ [x]) ++ cutV (us.map V.ref) (some ((j : Int) + 1)) none)) = H12 at *
      have r12 := (w10.trans w11) _ _ r10
      refine ⟨_, rfl, _, rfl, _, rfl, r, _, rfl, SqL.of r12, fun k6 hk6 => ?_⟩
      have w12 : Same H12 (upd H12 k6 (.lst (us.map V.ref).reverse)) := same_new (Same.refl _) (.inl hk6)
      have f12 : (upd H12 k6 (.lst (us.map V.ref).reverse)) k6 = some (.lst (us.map V.ref).reverse) := upd_same
      have nk6 : k6 ≠ p := (ne_of_none hpl12 hk6).symm
      have hpl13 := w12 _ _ hpl12
      generalize upd H12 k6 (.lst (us.map V.ref).reverse) = H13 at *
      have r13 := w12 _ _ r12
      refine ⟨_, rfl, r, _, rfl, .inl ⟨SqL.of r13, fun k7 hk7 => ?_⟩⟩
      have w13 : Same H13 (upd H13 k7 (.tup (us.map V.ref))) := same_new (Same.refl _) (.inl hk7)
      have f13 : (upd H13 k7 (.tup (us.map V.ref))) k7 = some (.tup (us.map V.ref)) := upd_same
      have nk7 : k7 ≠ p := (ne_of_none hpl13 hk7).symm
      have hpl14 := w13 _ _ hpl13
      generalize upd H13 k7 (.tup (us.map V.ref)) = H14 at *
      have r14 := w13 _ _ r13
      refine ⟨_, rfl, _, rfl, _, rfl, r, _, rfl, SqL.of r14, fun k8 hk8 => ?_⟩
      have w14 : Same H14 (upd H14 k8 (.lst (cutV (us.map V.ref) none (some (j : Int))))) := same_new (Same.refl _) (.inl hk8)
      have f14 : (upd H14 k8 (.lst (cutV (us.map V.ref) none (some (j : Int))))) k8 = some (.lst (cutV (us.map V.ref) none (some (j : Int)))) := upd_same
      have nk8 : k8 ≠ p := (ne_of_none hpl14 hk8).symm
      have hpl15 := w14 _ _ hpl14
      generalize upd H14 k8 (.lst (cutV (us.map V.ref) none (some (j : Int)))) = H15 at *
      have r15 := w14 _ _ r14
      refine ⟨_, rfl, _, rfl, _, _, rfl, rfl, _, rfl, r, _, rfl, SqL.of r15, fun k9 hk9 => ?_⟩
      have w15 : Same H15 (upd H15 k9 (.lst (cutV (us.map V.ref) (some ((j : Int) + 1)) none))) := same_new (Same.refl _) (.inl hk9)
      have f15 : (upd H15 k9 (.lst (cutV (us.map V.ref) (some ((j : Int) + 1)) none))) k9 = some (.lst (cutV (us.map V.ref) (some ((j : Int) + 1)) none)) := upd_same
      have nk9 : k9 ≠ p := (ne_of_none hpl15 hk9).symm
      have hpl16 := w15 _ _ hpl15
      generalize upd H15 k9 (.lst (cutV (us.map V.ref) (some ((j : Int) + 1)) none)) = H16 at *
      refine ⟨k8, k9, _, _, rfl, rfl, w15 _ _ f14, f15, big (by have := hc8 none (some (j : Int)); have := hc8 (some ((j : Int) + 1)) none; show _ + _ ≤ 40; omega), fun k10 hk10 => ?_⟩
      have w16 : Same H16 (upd H16 k10 (.lst (cutV (us.map V.ref) none (some (j : Int)) ++ cutV (us.map V.ref) (some ((j : Int) + 1)) none))) := same_new (Same.refl _) (.inl hk10)
      have f16 : (upd H16 k10 (.lst (cutV (us.map V.ref) none (some (j : Int)) ++ cutV (us.map V.ref) (some ((j : Int) + 1)) none))) k10 = some (.lst (cutV (us.map V.ref) none (some (j : Int)) ++ cutV (us.map V.ref) (some ((j : Int) + 1)) none)) := upd_same
      have nk10 : k10 ≠ p := (ne_of_none hpl16 hk10).symm
      have hpl17 := w16 _ _ hpl16
      generalize upd H16 k10 (.lst (cutV (us.map V.ref) none (some (j : Int)) ++ cutV (us.map V.ref) (some ((j : Int) + 1)) none)) = H17 at *
      refine ⟨(by show 6 ≤ sizeLine; decide), fun L hL => ?_⟩
      have w17 : Same H17 (upd H17 L (.lst [.ref k5, .ref r, .ref r, .ref k6, .ref k7, .ref k10])) := same_new (Same.refl _) (.inl hL)
      have f17 : (upd H17 L (.lst [.ref k5, .ref r, .ref r, .ref k6, .ref k7, .ref k10])) L = some (.lst [.ref k5, .ref r, .ref r, .ref k6, .ref k7, .ref k10]) := upd_same
      have nL : L ≠ p := (ne_of_none hpl17 hL).symm
      have hpl18 := w17 _ _ hpl17
      generalize upd H17 L (.lst [.ref k5, .ref r, .ref r, .ref k6, .ref k7, .ref k10]) = H18 at *
      have hp18 : PoolAt H18 p := ⟨_, _, hpl18, pd7, pe7⟩
      refine gN ⟨_, rfl, _, rfl, p, 6, rfl, hp18, by decide, by decide, fun H19 z' b19 hp19 z0' z1' => ?_⟩
      have u17 : Same H17 H18 := w17
      have u14 : Same H14 H18 := ((w14.trans w15).trans w16).trans w17
      have u13 : Same H13 H18 := w13.trans u14
      have u12 : Same H12 H18 := w12.trans u13
      have u7 : Same H7 H18 := ((((w7.trans w8).trans w9).trans w10).trans w11).trans u12
      have b7e : But [p] H7 H19 := (But.of_same u7).trans b19
      have at19 : ∀ {u : Addr} {o : HO}, u ≠ p → H18 u = some o → (del H19 p) u = some o := fun n e => (hid_but b19) _ _ (by rw [del_ne n]; exact e)
      have smF := sm7.same (hid_but b7e)
      have hxF := dp_same (hid_but b7e) hx7
      have hLF : H19 L = some (.lst [.ref k5, .ref r, .ref r, .ref k6, .ref k7, .ref k10]) := b19 _ _ (by simpa using nL) f17
      have bt : But [p] H H19 := (b01.trans b17).trans b7e
      have row : ∃ d, Good K (del H19 p) (.ref r) d := smF.lst (by decide) (at19 nr (u14 _ _ r14))
      have gd : ∃ x d, atI [.ref k5, .ref r, .ref r, .ref k6, .ref k7, .ref k10] z' = some x ∧ Good K (del H19 p) x d := by
        refine idx6 (P := fun z => ∃ x d, atI [.ref k5, .ref r, .ref r, .ref k6, .ref k7, .ref k10] z = some x ∧ Good K (del H19 p) x d) ?_ ?_ ?_ ?_ ?_ ?_ z0' z1'
        · obtain ⟨d, g⟩ := (((smF.cut none (some (j : Int))).app (Sm.one hxF tx)).app (smF.cut (some ((j : Int) + 1)) none)).lst (by decide) (at19 nk5 (u12 _ _ f11))
          exact ⟨_, d, rfl, g⟩
        · obtain ⟨d, g⟩ := row
          exact ⟨_, d, rfl, g⟩
        · obtain ⟨d, g⟩ := row
          exact ⟨_, d, rfl, g⟩
        · obtain ⟨d, g⟩ := (smF.rev).lst (by decide) (at19 nk6 (u13 _ _ f12))
          exact ⟨_, d, rfl, g⟩
        · obtain ⟨d, g⟩ := smF.tup (by decide) (at19 nk7 (u14 _ _ f13))
          exact ⟨_, d, rfl, g⟩
        · obtain ⟨d, g⟩ := ((smF.cut none (some (j : Int))).app (smF.cut (some ((j : Int) + 1)) none)).lst (by decide) (at19 nk10 (u17 _ _ f16))
          exact ⟨_, d, rfl, g⟩
      obtain ⟨x', d', hx', gx'⟩ := gd
      exact ⟨L, _, z', x', rfl, rfl, SqL.of hLF, hx', q H19 x' d' bt hp19 gx'⟩
end
end Wb

namespace Wb
open PySem PySem.Spec PyProof.Rows L2
def dTwo (a b : Nat) : PyData := .tuple [.int (a : Int), .int (b : Int)]
theorem two_lay (a b : Nat) : (dTwo a b).canLay0 = true := by simp [dTwo, PyData.canLay0, PyData.canLayAll0]
theorem shaped_two (a b : Nat) : SeqAt.shaped (dTwo a b) = true := by
  unfold SeqAt.shaped
  have h2 : (dTwo a b).depth = 1 := by simp [dTwo, PyData.depth, PyData.depthAll]
  rw [two_lay, decide_eq_true (show (dTwo a b).depth ≤ 64 by omega)]
  rfl
theorem dp_two {K : PySem.W.Frag} {H : Hp} {t : Addr} {a b : Nat} (h : H t = some (.tup [.int (a : Int), .int (b : Int)])) : Dp K H (.ref t) (dTwo a b) := .tup (SqT.of h) (.cons (.int _) (.cons (.int _) .nil))
theorem good_bl {K : PySem.W.Frag} {H : Hp} (b : Bool) : Good K H (.bl b) (.bool b) := .dat (.bl b) ((Tid.bl b).mono (Nat.zero_le _) (by decide)) fun ds e => by cases e
theorem ivs_first {f : List Nat} (h : f ≠ []) : atI (ivs f) 0 = some (.int (f.headD 0 : Nat)) := by
  cases f with
  | nil => exact absurd rfl h
  | cons z r => exact atI_nat (j := 0) rfl
theorem walk_not (ps : List (Nat × Nat)) (d : PyData) : walkD ps d = !decide (nodesD ps d = []) := by
  rw [nodes_walk]
  by_cases h : nodesD ps d = []
  · rw [decide_eq_true h, decide_eq_false fun z => z h]; rfl
  · rw [decide_eq_false h, decide_eq_true h]; rfl
theorem call_reprK {X : Cx} {K : PySem.W.Frag} (e : X.K = K) (quiet : Gd.Quiet X.A) (hu : X.A.units + 70 < cLine) : CallR X (.builtin "repr") (fun xs H Q => ∃ x d, xs = [x] ∧ Good K H x d ∧ Q (.str d.shown) H) := by
  subst e
  exact call_reprG quiet hu
def spRight (K : PySem.W.Frag) (C : Addr) : Sp := fun vs H Q _ => ∃ (H0 : Hp) (wp a : Addr) (n : Nat) (ts : List Addr) (ps : List (Nat × Nat)) (m : Int) (x : V) (d : PyData), vs = [.ref wp, .ref a, x] ∧ WebAt C H0 H wp n ps m ∧ EdgesAt H a ts ps ∧ ps.length ≤ 60 ∧ Good K H x d ∧
  ∀ H', Same H H' → Q (.bl true) H'
section
variable {P : Program} {w : World} {K : PySem.W.Frag} {mg : Str → Option Value} {base : Heap} {C : Addr}
abbrev rightN : List Str := ["_law_web", "_law_links_here", "_law_thing", "_law_ends", "_law_seen", "_law_kept", "e"]
theorem scRight : FnScope rightN ["_law_web", "_law_links_here", "_law_thing"] (defScope sRight) := ⟨rfl, rfl, rfl, by decide +kernel, rfl, by decide +kernel, by decide +kernel⟩
theorem room_repr {k : Nat} {A : Around} (r : Room k A) : A.units + 70 < cLine := by have := r.un; omega
theorem ok_right {f fE CW fI : Addr} {fd fdE : FuncData} (F : Fun K "_law_right" "_law_right" sRight f fd) (B : Bn mg) (T : Ex K mg "InvalidWalk" CW fI) (TX : XfC K CW) (TM : PySem.W.exmOne K (.ref CW) (.ref CW) = some true)
    (D1 : Df P w K mg base 2 "_law_nodes" ["_law_links_here", "_law_thing"] (spNodes K)) (D2 : Df P w K mg base 5 "is_walk" ["web", "thing"] (spIsWalk K C)) (D3 : Df P w K mg base 7 "is_closed" ["web", "thing"] (spIsClosed K C))
    (GE : FnOk P w K mg base (L2.CX P w) 6 fE fdE ["web", "walk"] (spEndsOf K C CW)) (mgE : mg "ends_of" = some (.ref fE)) (kE : PySem.W.keepIn K (.ref fE) = true) (bE : Binds K fdE ["web", "walk"] []) :
    Gd.GOk P w K mg base CX0 8 f fd ["_law_web", "_law_links_here", "_law_thing"] (spRight K C) := by
  obtain ⟨g1, gd1, G1, mg1, k1, b1⟩ := D1.ex
  obtain ⟨g2, gd2, G2, mg2, k2, b2⟩ := D2.ex
  obtain ⟨g3, gd3, G3, mg3, k3, b3⟩ := D3.ex
  refine Gd.gok F scRight (fun vs H Q E h => ?_) (fun cdv A quiet outer s H vs Q E hr h => ?_)
  · obtain ⟨H0, wp, a, n, ts, ps, m, x, d, rfl, _⟩ := h
    rfl
  · obtain ⟨H0, wp, a, n, ts, ps, m, x, d, rfl, W, hE, p60, hx, q⟩ := h
    have hr2 : Room 2 _ := hr.mono (by decide)
    have hr5 : Room 5 _ := hr.mono (by decide)
    have hr6 : Room 6 _ := hr.mono (by decide)
    have qu := Gd.quiet_deeper quiet (envOfC "_law_right" (defScope sRight) s.heap.objs.size f cdv)
    have hu := room_repr hr
    have qs : ∀ a : Addr, Gd.Quiet ((A.deeper (envOfC "_law_right" (defScope sRight) s.heap.objs.size f cdv)).mark (some (.ref a))) := fun a => qu
    have us : ∀ a : Addr, ((A.deeper (envOfC "_law_right" (defScope sRight) s.heap.objs.size f cdv)).mark (some (.ref a))).units + 70 < cLine := fun a => hu
    refine ⟨_, pss_cons (ps_par (i := 3) (j := 4) (by rfl) scRight.nd rfl rfl (by decide) rfl rfl (pa_cons (pe_call G1 hr2 rfl mg1 k1 b1 .nil pass0 (pa_cons (pv 1) (pa_cons (pv 2) pa_nil))) (pa_cons (pe_callB (call_reprG qu hu) (by rfl) B.repr (by decide +kernel) (pa_cons (pv 2) pa_nil)) pa_nil)) (by rfl))
      (pss_cons (ps_if (pt_cmpR op_ne (pe_callB (call_reprG qu hu) (by rfl) B.repr (by decide +kernel) (pa_cons (pe_call G2 hr5 rfl mg2 k2 b2 .nil pass0 (pa_cons (pv 0) (pa_cons (pv 2) pa_nil))) pa_nil))
          (pe_callB (call_reprG qu hu) (by rfl) B.repr (by decide +kernel) (pa_cons (pe_cmpR (op_neD hr.units) (pv 3) (pe_lst pa_nil) (nomark _)) pa_nil)) (nomark _)) (pss_one (ps_ret pe_bl)) pss_nil)
      (pss_cons (ps_if (pt_cmpR op_ne (pe_callB (call_reprG qu hu) (by rfl) B.repr (by decide +kernel) (pa_cons (pe_call G3 hr rfl mg3 k3 b3 .nil pass0 (pa_cons (pv 0) (pa_cons (pv 2) pa_nil))) pa_nil))
          (pe_callB (call_reprG qu hu) (by rfl) B.repr (by decide +kernel) (pa_cons (pe_and (pe_cmpR (op_neD hr.units) (pv 3) (pe_lst pa_nil) (nomark _)) (pe_one (pe_cmpR op_eq (pe_ix ix_list (pv 3) pe_int (fun _ _ => rfl)) (pe_ix ix_list (pv 3) (pe_un un_neg pe_int) (fun _ _ => rfl)) (nomark _)))) pa_nil)) (nomark _)) (pss_one (ps_ret pe_bl)) pss_nil)
      (pss_cons (ps_set (i := 5) scRight.nd rfl (Or.inl rfl) pe_non)
      (pss_cons (ps_try_as (i := 6) rfl rfl scRight.nd rfl rfl ⟨rfl, by decide, .inl T.mg⟩ takes0
          (fun W pn xe tk _ => pss_one (ps_set (i := 5) scRight.nd rfl (Or.inl rfl) (pe_callS GE hr6 rfl mgE kE bE (fun σ => passAt tk σ) (pa_cons (pv 0) (pa_cons (pv 2) pa_nil)))))
          (fun a oe cls d pn hz hf => pss_one (ps_set (i := 5) scRight.nd rfl (Or.inl rfl) (pe_callB (id := "repr") (call_reprK (K := K) rfl (qs a) (us a)) (by rfl) B.repr (by decide +kernel) (pa_cons (pe_xf TX T.no hz hf (pv 6)) pa_nil)))))
      (pss_cons (ps_if (pt_cmpR (op_eqD hr.units) (pv 3) (pe_lst pa_nil) (nomark _)) (pss_one (ps_ret (pe_and (pe_cmpR op_eq (pv 5) (pv 4) (nomark _)) (pe_one (pe_cmpR op_eq (pe_callB (call_reprG qu hu) (by rfl) B.repr (by decide +kernel) (pa_cons (pv 2) pa_nil)) (pv 4) (nomark _)))))) pss_nil)
      (pss_one (ps_ret (pe_and (pe_cmpR (op_eqD hr.units) (pv 5) (pe_tup (pa_cons (pe_ix ix_list (pv 3) pe_int (fun _ _ => rfl)) (pa_cons (pe_ix ix_list (pv 3) (pe_un un_neg pe_int) (fun _ _ => rfl)) pa_nil))) (nomark _)) (pe_one (pe_cmpR op_eq (pe_callB (call_reprG qu hu) (by rfl) B.repr (by decide +kernel) (pa_cons (pv 2) pa_nil)) (pv 4) (nomark _))))))))))), ?_⟩
    have hpar : ∀ H', Same H H' → Good K H' x d := fun H' s => hx.same s
    refine ⟨_, rfl, _, rfl, a, ts, ps, x, d, rfl, hE, p60, hx.okv, fun H1 u s1 hu1 hn1 => ⟨_, rfl, x, d, rfl, hx.same s1, _, _, rfl, ?_⟩⟩
    have hw := walk_not ps d
    by_cases hnil : nodesD ps d = []
    · have wf : walkD ps d = false := by rw [hw, decide_eq_true hnil]; rfl
      have cf : closedD ps d = false := by unfold closedD; rw [wf]; rfl
      -- is_walk
      refine ⟨_, rfl, _, rfl, H0, wp, n, ps, m, x, d, rfl, W.same s1, p60, (hx.same s1).vd, hx.few, fun H2 s2 => ⟨_, _, rfl, good_bl _, ?_⟩⟩
      have g2 := s2 _ _ hn1
      refine ⟨_, rfl, Nat.zero_le _, fun em hem => ?_⟩
      have s3 : Same H2 (upd H2 em (.lst [])) := same_new (Same.refl _) (.inl hem)
      refine ⟨dInts (nodesD ps d), dInts [], dp_ints (s3 _ _ g2), .lst (SqL.of upd_same) .nil, shaped_ints _, shaped_ints [], _, _, rfl, good_bl _, rfl, _, rfl, ?_⟩
      rw [eqv_ints_nil, ← hw, decide_eq_true rfl]
      refine iteF ?_
      have g3 := s3 _ _ g2
      have s13 := (s1.trans s2).trans s3
      generalize upd H2 em (.lst []) = H3 at *
      -- is_closed
      refine ⟨_, rfl, _, rfl, H0, wp, n, ps, m, x, d, rfl, W.same s13, p60, (hx.same s13).vd, hx.few, fun H4 s4 => ⟨_, _, rfl, good_bl _, ?_⟩⟩
      have g4 := s4 _ _ g3
      refine ⟨_, rfl, Nat.zero_le _, fun em2 hem2 => ?_⟩
      have s5 : Same H4 (upd H4 em2 (.lst [])) := same_new (Same.refl _) (.inl hem2)
      refine ⟨dInts (nodesD ps d), dInts [], dp_ints (s5 _ _ g4), .lst (SqL.of upd_same) .nil, shaped_ints _, shaped_ints [], _, rfl, ?_⟩
      rw [eqv_ints_nil, decide_eq_true hnil]
      refine iteF ⟨_, _, rfl, good_bl _, rfl, _, rfl, ?_⟩
      rw [cf, decide_eq_true rfl]
      refine iteF ?_
      have g5 := s5 _ _ g4
      have s15 := (s13.trans s4).trans s5
      generalize upd H4 em2 (.lst []) = H5 at *
      -- the exception
      refine ⟨_, rfl, _, rfl, H0, wp, n, ps, m, x, d, rfl, W.same s15, p60, (hx.same s15).vd, hx.few, fun _ H6 dd s6 hdd => ?_, fun z => ?_⟩
      · refine ⟨true, TM, fun _ ae hae => ?_, fun z => nomatch z⟩
        have s16 := s15.trans s6
        refine ⟨_, rfl, rfl, rfl, dd, _, x, rfl, hdd, rfl, x, d, rfl, hx.same s16, ?_⟩
        have g6 := s6 _ _ g5
        refine ⟨_, rfl, Nat.zero_le _, fun em3 hem3 => ?_⟩
        have s7 : Same H6 (upd H6 em3 (.lst [])) := same_new (Same.refl _) (.inl hem3)
        refine ⟨dInts (nodesD ps d), dInts [], dp_ints (s7 _ _ g6), .lst (SqL.of upd_same) .nil, shaped_ints _, shaped_ints [], _, rfl, ?_⟩
        rw [eqv_ints_nil, decide_eq_true hnil]
        refine iteT ⟨_, rfl, _, rfl, rfl, _, rfl, ?_⟩
        rw [decide_eq_true rfl]
        refine iteT ⟨_, rfl, x, d, rfl, hx.same (s16.trans s7), _, rfl, rfl, ?_⟩
        rw [decide_eq_true rfl]
        exact q _ (s16.trans s7)
      · rw [wf] at z
        cases z
    · have wt : walkD ps d = true := by rw [hw, decide_eq_false hnil]; rfl
      obtain ⟨eh, el⟩ := nodes_ends ps d wt
      have cf : closedD ps d = decide ((nodesD ps d).headD 0 = (nodesD ps d).getLastD 0) := by
        unfold closedD
        rw [wt, eh, el]
        rfl
      refine ⟨_, rfl, _, rfl, H0, wp, n, ps, m, x, d, rfl, W.same s1, p60, (hx.same s1).vd, hx.few, fun H2 s2 => ⟨_, _, rfl, good_bl _, ?_⟩⟩
      have g2 := s2 _ _ hn1
      refine ⟨_, rfl, Nat.zero_le _, fun em hem => ?_⟩
      have s3 : Same H2 (upd H2 em (.lst [])) := same_new (Same.refl _) (.inl hem)
      refine ⟨dInts (nodesD ps d), dInts [], dp_ints (s3 _ _ g2), .lst (SqL.of upd_same) .nil, shaped_ints _, shaped_ints [], _, _, rfl, good_bl _, rfl, _, rfl, ?_⟩
      rw [eqv_ints_nil, ← hw, decide_eq_true rfl]
      refine iteF ?_
      have g3 := s3 _ _ g2
      have s13 := (s1.trans s2).trans s3
      generalize upd H2 em (.lst []) = H3 at *
      refine ⟨_, rfl, _, rfl, H0, wp, n, ps, m, x, d, rfl, W.same s13, p60, (hx.same s13).vd, hx.few, fun H4 s4 => ⟨_, _, rfl, good_bl _, ?_⟩⟩
      have g4 := s4 _ _ g3
      refine ⟨_, rfl, Nat.zero_le _, fun em2 hem2 => ?_⟩
      have s5 : Same H4 (upd H4 em2 (.lst [])) := same_new (Same.refl _) (.inl hem2)
      refine ⟨dInts (nodesD ps d), dInts [], dp_ints (s5 _ _ g4), .lst (SqL.of upd_same) .nil, shaped_ints _, shaped_ints [], _, rfl, ?_⟩
      rw [eqv_ints_nil, decide_eq_false hnil]
      have g5 := s5 _ _ g4
      have s15 := (s13.trans s4).trans s5
      generalize upd H4 em2 (.lst []) = H5 at *
      refine iteT ⟨_, rfl, u, _, 0, _, rfl, rfl, SqL.of g5, ivs_first hnil, _, rfl, 1, rfl, u, _, -1, _, rfl, rfl, SqL.of g5, ivs_last hnil, rfl, _, _, rfl, good_bl _, rfl, _, rfl, ?_⟩
      rw [dint, cf, decide_eq_true rfl]
      refine iteF ?_
      refine ⟨_, rfl, _, rfl, H0, wp, n, ps, m, x, d, rfl, W.same s15, p60, (hx.same s15).vd, hx.few, fun z => ?_, fun _ H6 t s6 ht0 ht => ?_⟩
      · rw [wt] at z
        cases z
      · have s16 := s15.trans s6
        have g6 := s6 _ _ g5
        refine ⟨_, rfl, Nat.zero_le _, fun em3 hem3 => ?_⟩
        have s7 : Same H6 (upd H6 em3 (.lst [])) := same_new (Same.refl _) (.inl hem3)
        refine ⟨dInts (nodesD ps d), dInts [], dp_ints (s7 _ _ g6), .lst (SqL.of upd_same) .nil, shaped_ints _, shaped_ints [], _, rfl, ?_⟩
        rw [eqv_ints_nil, decide_eq_false hnil]
        have g7 := s7 _ _ g6
        have ht7 := s7 _ _ ht
        have s17 := s16.trans s7
        generalize upd H6 em3 (.lst []) = H7 at *
        refine iteF ⟨_, rfl, _, rfl, u, _, 0, _, rfl, rfl, SqL.of g7, ivs_first hnil, _, rfl, 1, rfl, u, _, -1, _, rfl, rfl, SqL.of g7, ivs_last hnil, (by show 2 ≤ sizeLine; decide), fun t2 ht2 => ?_⟩
        have s8 : Same H7 (upd H7 t2 (.tup [.int ((nodesD ps d).headD 0 : Nat), .int ((nodesD ps d).getLastD 0 : Nat)])) := same_new (Same.refl _) (.inl ht2)
        rw [← eh, ← el] at ht7
        refine ⟨dTwo _ _, dTwo _ _, dp_two (s8 _ _ ht7), dp_two upd_same, shaped_two _ _, shaped_two _ _, _, rfl, ?_⟩
        rw [SeqAt.eqv_refl _ (two_lay _ _)]
        refine iteT ⟨_, rfl, x, d, rfl, hx.same (s17.trans s8), _, rfl, rfl, ?_⟩
        rw [decide_eq_true rfl]
        exact q _ (s17.trans s8)
end
end Wb

namespace Wb
open PySem L2
abbrev lawN : List Str := ["_law_script", "_law_k", "_law_pool_here", "_law_nodes_here", "_law_links_here", "_law_web", "_law_turn", "_law_thing"]
def spLaw (K : PySem.W.Frag) : Sp := fun vs H Q _ => ∃ (a : Addr) (ns : List Int), vs = [.ref a] ∧ SqL K H a (ns.map V.int) ∧ ns.length ≤ 63 ∧ ∀ H', Q (.bl true) H'
theorem mx {len : Int} : 1 ≤ (if (if (4 : Int) < len then (4 : Int) else len) > 1 then (if (4 : Int) < len then (4 : Int) else len) else 1) ∧ (if (if (4 : Int) < len then (4 : Int) else len) > 1 then (if (4 : Int) < len then (4 : Int) else len) else 1) ≤ 4 := by
  split <;> split at * <;> omega
theorem But.to_same {l : Addr} {H H' : Hp} (a : But [l] H H') (h : H l = none) : Same H H' := fun b o e => a b o (fun z => by
  have e' : b = l := by simpa using z
  rw [e', h] at e
  cases e) e
section
variable {P : Program} {w : World} {K : PySem.W.Frag} {mg : Str → Option Value} {base : Heap} {C : Addr}
theorem scLaw : FnScope lawN ["_law_script"] (defScope sLaw) := ⟨rfl, rfl, rfl, by decide +kernel, rfl, by decide +kernel, by decide +kernel⟩
theorem ok_law {f fI fR : Addr} {fd fdI fdR : FuncData} (F : Fun K "law" "law" sLaw f fd) (B : Bn mg) (T : Txt K mg C) (M : L2.Mk K C fI) (GI : FnOk P w K mg base CX0 5 fI fdI ["self", "size", "edges", "modulus"] (spInit C))
    (hb : KBn K fdI ["self", "size", "edges", "modulus"] 3 ["modulus"] (fun us ws => us ++ ws) (fun vs zs => vs ++ zs))
    (Dp' : Df P w K mg base 1 "_law_pool" ["_law_script", "_law_k"] (spPool K)) (Dt : Df P w K mg base 1 "_law_take" ["_law_pool_here", "_law_sides"] spTake) (Dm : Df P w K mg base 2 "_law_modulus" ["_law_pool_here"] spModulus)
    (Dl : Df P w K mg base 2 "_law_links" ["_law_pool_here", "_law_nodes_here", "_law_most"] spLinks) (De : Df P w K mg base 2 "_law_led" ["_law_pool_here", "_law_links_here", "_law_nodes_here"] spLed)
    (Db : Df P w K mg base 2 "_law_bent" ["_law_pool_here", "_law_links_here", "_law_row"] (spBent K))
    (GR : Gd.GOk P w K mg base CX0 8 fR fdR ["_law_web", "_law_links_here", "_law_thing"] (spRight K C)) (mgR : mg "_law_right" = some (.ref fR)) (kR : PySem.W.keepIn K (.ref fR) = true) (bR : Binds K fdR ["_law_web", "_law_links_here", "_law_thing"] []) :
    Gd.GOk P w K mg base CX0 9 f fd ["_law_script"] (spLaw K) := by
  obtain ⟨gp, gdp, Gp, mgp, kp, bp⟩ := Dp'.ex
  obtain ⟨gt, gdt, Gt, mgt, kt, bt⟩ := Dt.ex
  obtain ⟨gm, gdm, Gm, mgm, km, bm⟩ := Dm.ex
  obtain ⟨gl, gdl, Gl, mgl, kl, bl⟩ := Dl.ex
  obtain ⟨ge, gde, Ge, mge, ke, be⟩ := De.ex
  obtain ⟨gb, gdb, Gb, mgb, kb, bb⟩ := Db.ex
  refine Gd.gok F scLaw (fun vs H Q E h => ?_) (fun cdv A quiet outer s H vs Q E hr h => ?_)
  · obtain ⟨a, ns, rfl, _⟩ := h
    rfl
  · obtain ⟨a, ns, rfl, hS, hlen, q⟩ := h
    have hr1 : Room 1 _ := hr.mono (by decide)
    have hr2 : Room 2 _ := hr.mono (by decide)
    have hr6 : Room 6 _ := hr.mono (by decide)
    have qu := Gd.quiet_deeper quiet (PyProof.Rows.envOfC "law" (defScope sLaw) s.heap.objs.size f cdv)
    refine ⟨_, PSs.nox (pss_cons (ps_for PassesOwn.never rfl
        (pi_range1 rfl B.range (pa_cons (pe_callB (call_max2 rfl) (by rfl) B.max (by decide +kernel) (pa_cons pe_int (pa_cons (pe_callB (call_min2 rfl) (by rfl) B.min (by decide +kernel) (pa_cons (pe_callB call_len_seq (by rfl) B.len PySem.boot_len (pa_cons (pv 0) pa_nil)) (pa_cons pe_int pa_nil))) pa_nil))) pa_nil))
        (pg_name (i := 1) scLaw.nd rfl (Or.inl rfl))
        (pss_cons (ps_set (i := 2) scLaw.nd rfl (Or.inl rfl) (pe_call Gp hr1 rfl mgp kp bp .nil pass0 (pa_cons (pv 0) (pa_cons (pv 1) pa_nil))))
        (pss_cons (ps_set (i := 3) scLaw.nd rfl (Or.inl rfl) (pe_op op_add pe_int (pe_call Gt hr1 rfl mgt kt bt .nil pass0 (pa_cons (pv 2) (pa_cons pe_int pa_nil)))))
        (pss_cons (ps_set (i := 4) scLaw.nd rfl (Or.inl rfl) (pe_call Gl hr2 rfl mgl kl bl .nil pass0 (pa_cons (pv 2) (pa_cons (pv 3) (pa_cons pe_int pa_nil)))))
        (pss_cons (ps_set (i := 5) scLaw.nd rfl (Or.inl rfl) (pe_makeK (n := 2) M GI hr6 rfl T.mgC hb pass0 (pa_cons (pv 3) (pa_cons (pv 4) pa_nil)) (pk_cons (pe_call Gm hr2 rfl mgm km bm .nil pass0 (pa_cons (pv 2) pa_nil)) pk_nil)))
        (pss_cons (ps_for PassesOwn.never rfl (pi_range1 rfl B.range (pa_cons pe_int pa_nil)) (pg_name (i := 6) scLaw.nd rfl (Or.inl rfl))
          (pss_one (ps_if (pt_not (pt_val (Gd.pe_go GR qu hr rfl mgR kR bR .nil pass0 (pa_cons (pv 5) (pa_cons (pv 4) (pa_cons (pe_call Gb hr2 rfl mgb kb bb .nil pass0 (pa_cons (pv 2) (pa_cons (pv 4) (pa_cons (pe_call Ge hr2 rfl mge ke be .nil pass0 (pa_cons (pv 2) (pa_cons (pv 4) (pa_cons (pv 3) pa_nil)))) pa_nil)))) pa_nil))))))
            (pss_one (ps_ret pe_bl)) pss_nil)))
        (pss_one (ps_for PassesOwn.never rfl (pi_list (pe_lst (pa_cons pe_non (pa_cons (pe_lst pa_nil) (pa_cons (pe_tup pa_nil) (pa_cons pe_str (pa_cons (pe_disp (pps_cons pe_int pe_int pps_nil) (by rfl) (by rfl) (fun z => by cases z) (by decide)) (pa_cons pe_int (pa_cons (pe_lst (pa_cons pe_non pa_nil)) (pa_cons (pe_lst (pa_cons (pe_tup (pa_cons pe_int (pa_cons pe_int pa_nil))) (pa_cons pe_non pa_nil))) pa_nil))))))))))
          (pg_name (i := 7) scLaw.nd rfl (Or.inl rfl))
          (pss_one (ps_if (pt_not (pt_val (Gd.pe_go GR qu hr rfl mgR kR bR .nil pass0 (pa_cons (pv 5) (pa_cons (pv 4) (pa_cons (pv 7) pa_nil))))))
            (pss_one (ps_ret pe_bl)) pss_nil))))))))))
      (pss_one (ps_ret pe_bl))), ?_⟩
    refine ⟨_, rfl, a, _, rfl, .inl hS, _, _, rfl, _, _, rfl, ?_⟩
    have hv := mx (len := ((ns.map V.int).length : Int))
    revert hv
    generalize (if (if (4 : Int) < ((ns.map V.int).length : Int) then (4 : Int) else ((ns.map V.int).length : Int)) > 1 then (if (4 : Int) < ((ns.map V.int).length : Int) then (4 : Int) else ((ns.map V.int).length : Int)) else 1) = v
    intro hv
    refine ⟨v, rfl, by omega, by omega, for_range (lo := 0) (n := v.toNat) (fun i σ H' => ∃ v1 v2 v3 v4 v5 v6 v7, σ = [some (.ref a), v1, v2, v3, v4, v5, v6, v7] ∧ Same H H')
      ⟨none, none, none, none, none, none, none, rfl, Same.refl _⟩ ?_ ?_⟩
    · rintro i σ H1 hi ⟨v1, v2, v3, v4, v5, v6, v7, rfl, s1⟩
      have hi4 : i < 4 := by omega
      refine ⟨_, rfl, _, rfl, a, ns, 0 + (i : Int), rfl, s1.seq hS, hlen, by omega, by omega, fun H2 p s2 hp hpool => ?_⟩
      -- nodes
      refine ⟨_, rfl, p, 8, rfl, hpool, by decide, by decide, fun H4 r2 b4 hpool4 r20 r21 => ?_⟩
      refine ⟨_, _, rfl, rfl, ?_⟩
      obtain ⟨n, hn⟩ : ∃ n : Nat, 1 + r2 = (n : Int) := ⟨(1 + r2).toNat, (Int.toNat_of_nonneg (by omega)).symm⟩
      have hn' : (fun i j : Int => V.int (i + j)) 1 r2 = V.int (n : Int) := congrArg V.int hn
      rw [hn']
      have n1 : 1 ≤ n := by omega
      have n30 : n ≤ 30 := by omega
      -- links
      refine ⟨_, rfl, _, rfl, p, n, 12, rfl, hpool4, by omega, n30, by decide, fun H6 la ts ps b6 hpool6 hla hE hw hpl => ?_⟩
      have hlap : la ∉ [p] := hpool4.ne hla
      have nlp : la ≠ p := fun z => hlap (by simp [z])
      have ps60 : ps.length ≤ 60 := by omega
      have B6 : But [p] H2 H6 := b4.trans b6
      -- the web
      refine ⟨_, rfl, _, rfl, _, rfl, p, rfl, hpool6, fun H7 m b7 hpool7 hm => ⟨rfl, rfl, fun x dx hx hdx hne => ?_⟩⟩
      have B7 : But [p] H2 H7 := B6.trans b7
      have hE7 : EdgesAt H7 la ts ps := ⟨b7.at hlap hE.1, hE.2.but b7 hpool6.notup⟩
      have s8 : Same H7 (upd (upd H7 dx (.own x)) x (.ins C dx [])) := same_new (same_new (Same.refl _) (.inl hdx)) (.inr hx)
      have hm' : m = 0 ∨ 2 ≤ m ∧ m ≤ 60 := by
        simp only [List.mem_cons, List.not_mem_nil, or_false] at hm
        omega
      refine ⟨x, dx, la, ts, ps, n, m, rfl, upd_same, ⟨s8 _ _ hE7.1, hE7.2.same s8⟩, hw, n1, n30, ps60, hm', fun H8 b8 W8 => ⟨rfl, ?_⟩⟩
      have S8 : Same H7 H8 := fun b o e => b8 b o (fun z => by
        have e' : b = x := by simpa using z
        rw [e', hx] at e
        cases e) (s8 b o e)
      have W8' := W8.back s8
      have hE8 : EdgesAt H8 la ts ps := ⟨S8 _ _ hE7.1, hE7.2.same S8⟩
      have hpool8 : PoolAt H8 p := hpool7.same S8
      obtain ⟨pl8, hpl8⟩ := hpool8.nl
      have hq7 : H7 p ≠ none := fun z => by
        obtain ⟨_, e⟩ := hpool7.nl
        rw [z] at e
        cases e
      have web : ∀ {H' : Hp}, But [p] H8 H' → WebAt C H7 H' x n ps m := fun b => W8'.but b hq7 hpl8
      have edg : ∀ {H' : Hp}, But [p] H8 H' → EdgesAt H' la ts ps := fun b => ⟨b.at hlap hE8.1, hE8.2.but b hpool8.notup⟩
      -- twelve turns
      refine ⟨12, rfl, by decide, by decide, for_range (lo := 0) (n := 12) (fun i' σ H' => ∃ w6, σ = [some (.ref a), some (.int (0 + (i : Int))), some (.ref p), some (.int n), some (.ref la), some (.ref x), w6, v7] ∧ But [p] H8 H' ∧ PoolAt H' p)
        ⟨v6, rfl, But.refl _ _, hpool8⟩ ?_ ?_⟩
      · rintro i' σ H9 hi' ⟨w6, rfl, b9, hpool9⟩
        refine ⟨_, rfl, _, rfl, _, rfl, _, rfl, _, rfl, _, rfl, _, rfl, p, la, ts, ps, n, rfl, hpool9, nlp, edg b9, ps60, n1, n30, fun H10 u b10 hpool10 hu S10 => ?_⟩
        refine ⟨p, la, u, ts, ps, rfl, hpool10, nlp, edg (b9.trans b10), ps60, S10, fun H11 y d b11 hpool11 g11 => ?_⟩
        refine ⟨H7, x, la, n, ts, ps, m, y, d, rfl, web ((b9.trans b10).trans b11), edg ((b9.trans b10).trans b11), ps60, g11.same (hid_same _ _), fun H12 s12 => ⟨true, rfl, ?_⟩⟩
        exact iteF ⟨_, rfl, ((b9.trans b10).trans b11).trans (But.of_same s12), hpool11.same s12⟩
      · rintro σ H9 ⟨w6, rfl, b9, hpool9⟩
        have eG : ∃ G0, G0 = H9 := ⟨_, rfl⟩
        obtain ⟨G0, eG⟩ := eG
        rw [← eG] at b9 hpool9 ⊢
        refine ⟨Nat.zero_le _, fun e1 he1 => ?_⟩
        have w0 : Same G0 (upd G0 e1 (.lst [])) := same_new (Same.refl _) (.inl he1)
        have f0 : (upd G0 e1 (.lst [])) e1 = some (.lst []) := upd_same
        generalize upd G0 e1 (.lst []) = G1 at *
        refine ⟨Nat.zero_le _, fun t1 ht1 => ?_⟩
        have w1 : Same G1 (upd G1 t1 (.tup [])) := same_new (Same.refl _) (.inl ht1)
        have f1 : (upd G1 t1 (.tup [])) t1 = some (.tup []) := upd_same
        generalize upd G1 t1 (.tup []) = G2 at *
        refine fun d1 hd1 => ⟨upd_same, [(.inl 0, .int 1)], rfl, by decide, ?_⟩
        have em : mergeK [] [((.inl 0 : Key), V.int 1)] = [((.inl 0 : Key), V.int 1)] := rfl
        rw [upd_upd, em]
        have w2 : Same G2 (upd G2 d1 (.dK [(.inl 0, .int 1)])) := same_new (Same.refl _) (.inl hd1)
        have f2 : (upd G2 d1 (.dK [(.inl 0, .int 1)])) d1 = some (.dK [(.inl 0, .int 1)]) := upd_same
        generalize upd G2 d1 (.dK [(.inl 0, .int 1)]) = G3 at *
        refine ⟨(by show 1 ≤ sizeLine; decide), fun l2 hl2 => ?_⟩
        have w3 : Same G3 (upd G3 l2 (.lst [.non])) := same_new (Same.refl _) (.inl hl2)
        have f3 : (upd G3 l2 (.lst [.non])) l2 = some (.lst [.non]) := upd_same
        generalize upd G3 l2 (.lst [.non]) = G4 at *
        refine ⟨(by show 2 ≤ sizeLine; decide), fun t2 ht2 => ?_⟩
        have w4 : Same G4 (upd G4 t2 (.tup [.int 0, .int 1])) := same_new (Same.refl _) (.inl ht2)
        have f4 : (upd G4 t2 (.tup [.int 0, .int 1])) t2 = some (.tup [.int 0, .int 1]) := upd_same
        generalize upd G4 t2 (.tup [.int 0, .int 1]) = G5 at *
        refine ⟨(by show 2 ≤ sizeLine; decide), fun l3 hl3 => ?_⟩
        have w5 : Same G5 (upd G5 l3 (.lst [.ref t2, .non])) := same_new (Same.refl _) (.inl hl3)
        have f5 : (upd G5 l3 (.lst [.ref t2, .non])) l3 = some (.lst [.ref t2, .non]) := upd_same
        generalize upd G5 l3 (.lst [.ref t2, .non]) = G6 at *
        refine ⟨(by show 8 ≤ sizeLine; decide), fun L hL => ?_⟩
        have w6' : Same G6 (upd G6 L (.lst [.non, .ref e1, .ref t1, .str "0+", .ref d1, .int 5, .ref l2, .ref l3])) := same_new (Same.refl _) (.inl hL)
        have f6 : (upd G6 L (.lst [.non, .ref e1, .ref t1, .str "0+", .ref d1, .int 5, .ref l2, .ref l3])) L = some (.lst [.non, .ref e1, .ref t1, .str "0+", .ref d1, .int 5, .ref l2, .ref l3]) := upd_same
        generalize upd G6 L (.lst [.non, .ref e1, .ref t1, .str "0+", .ref d1, .int 5, .ref l2, .ref l3]) = G7 at *
        have u5 : Same G5 G7 := w5.trans w6'
        have u4 : Same G4 G7 := w4.trans u5
        have u3 : Same G3 G7 := w3.trans u4
        have u2 : Same G2 G7 := w2.trans u3
        have u1 : Same G1 G7 := w1.trans u2
        have bG : But [p] H8 G7 := b9.trans (But.of_same (w0.trans u1))
        have gd : ∀ (j : Nat) (y : V), ([.non, .ref e1, .ref t1, .str "0+", .ref d1, .int 5, .ref l2, .ref l3] : List V)[j]? = some y → ∃ d, Good K G7 y d := by
          intro j y hj
          match j, hj with
          | 0, hj => cases hj; exact ⟨_, .dat .non (Tid.non.mono (Nat.zero_le _) (by decide)) fun ds e => by cases e⟩
          | 1, hj => cases hj; exact ⟨_, .dat (.lst (SqL.of (u1 _ _ f0)) .nil) ((Tid.lst TidL.nil).mono (Nat.zero_le _) (by decide)) fun ds e => by cases e; exact Nat.zero_le _⟩
          | 2, hj => cases hj; exact ⟨_, .dat (.tup (SqT.of (u2 _ _ f1)) .nil) ((Tid.tup TidL.nil).mono (Nat.zero_le _) (by decide)) fun ds e => by cases e⟩
          | 3, hj => cases hj; exact ⟨_, .dat (.str _) ((Tid.str (B := 4) (by decide +kernel) (by decide +kernel) (by decide +kernel)).mono (by decide) (by decide)) fun ds e => by cases e⟩
          | 4, hj => cases hj; exact ⟨_, .d1 (u3 _ _ f2)⟩
          | 5, hj => cases hj; exact ⟨_, .dat (.int 5) ((Tid.int (by decide) (by decide)).mono (Nat.zero_le _) (by decide)) fun ds e => by cases e⟩
          | 6, hj => cases hj; exact ⟨_, .dat (.lst (SqL.of (u4 _ _ f3)) (.cons .non .nil)) ((Tid.lst (TidL.cons Tid.non TidL.nil)).mono (by decide) (by decide)) fun ds e => by cases e; decide⟩
          | 7, hj =>
            cases hj
            exact ⟨_, .dat (.lst (SqL.of (w6' _ _ f5)) (.cons (.tup (SqT.of (u5 _ _ f4)) (.cons (.int 0) (.cons (.int 1) .nil))) (.cons .non .nil)))
              ((Tid.lst (TidL.cons (B := 1) (Tid.tup (TidL.cons (Tid.int (by decide) (by decide)) (TidL.cons (Tid.int (by decide) (by decide)) TidL.nil))) ((TidL.cons (A := 0) (Tid.non.mono (Nat.zero_le _) (by decide)) (TidL.nil.mono (B' := 0) (Nat.zero_le _) (by decide))).mono (by decide) (Nat.le_refl _)))).mono (by decide) (by decide)) fun ds e => by cases e; decide⟩
          | j + 8, hj => exact absurd hj (by simp)
        refine ⟨L, rfl, ⟨_, SqL.of f6⟩, for_list (K := K) (xs := [.non, .ref e1, .ref t1, .str "0+", .ref d1, .int 5, .ref l2, .ref l3]) (fun i' σ H' => ∃ w6 w7, σ = [some (.ref a), some (.int (0 + (i : Int))), some (.ref p), some (.int n), some (.ref la), some (.ref x), w6, w7] ∧ Same G7 H')
          ⟨w6, v7, rfl, Same.refl _⟩ (fun i' σ H' _ ⟨_, _, _, s⟩ => SqL.of (s _ _ f6)) ?_ ?_⟩
        · rintro j y σ H10 hj ⟨w6, w7, rfl, s10⟩
          obtain ⟨d, g⟩ := gd j y hj
          refine ⟨_, rfl, _, rfl, _, rfl, H7, x, la, n, ts, ps, m, y, d, rfl, web (bG.trans (But.of_same s10)), edg (bG.trans (But.of_same s10)), ps60, g.same s10, fun H11 s11 => ⟨true, rfl, ?_⟩⟩
          exact iteF ⟨_, _, rfl, s10.trans s11⟩
        · rintro σ H10 ⟨w6, w7, rfl, s10⟩
          have b2 : But [p] H2 H10 := (B7.trans (But.of_same S8)).trans (bG.trans (But.of_same s10))
          have b : But [p] H1 H10 := (But.of_same s2).trans b2
          exact ⟨_, _, _, _, _, _, _, rfl, s1.trans (b.to_same hp)⟩
    · rintro σ H1 ⟨v1, v2, v3, v4, v5, v6, v7, rfl, s1⟩
      exact q H1
end
end Wb

namespace Wb
open PySem L2
theorem exm_own {K : PySem.W.Frag} {S : Addr} (above : PySem.W.subIn K (.ref S) (.type "BaseException") = some true) (isC : PySem.W.isClsIn K S = true) (kind : PySem.W.typeIn K (.ref S) = some (.type "type")) (self : PySem.W.subIn K (.ref S) (.ref S) = some true) :
    PySem.W.exmOne K (.ref S) (.ref S) = some true := by
  unfold PySem.W.isClsIn at isC
  simp [PySem.W.exmOne, PySem.W.kitCls, above, isC, kind, self]
theorem all_mk {l : PySem.W.OpenLaw} {w : World} {K : PySem.W.Frag} {h : Heap} {mg : Str → Option Value} {fa : Addr} (X : K.In h) (G : h.Ns mainGlobals mg) (hfa : mg "law" = some (.ref fa))
    {C f1 f2 f3 f4 f5 f6 f7 f8 f9 f10 f11 f12 f13 f14 f15 f16 f17 f18 f19 f20 f21 f22 f23 f24 f25 f0 TD KD ET CW fW CE0 : Addr} {od1 an1 od2 an2 od3 an3 od4 an4 od5 an5 od6 an6 od7 an7 od8 an8 od9 an9 od10 an10 od11 an11 od12 an12 od13 an13 od14 an14 od15 an15 od16 an16 od17 an17 od18 an18 od19 an19 od20 an20 od21 an21 od22 an22 od23 an23 od24 an24 od25 an25 od0 an0 odT odW anW xdd : Option Addr} {sl1 sl2 sl3 sl4 sl5 sl6 sl7 sl8 sl9 sl10 sl11 sl12 sl13 sl14 sl15 sl16 sl17 sl18 sl19 sl20 sl21 sl22 sl23 sl24 sl25 sl0 slT slW : Array (Option Value)} {oc1 kV1 dc1 pm1 cd1 ct1 oc2 kV2 dc2 pm2 cd2 ct2 oc3 kV3 dc3 pm3 cd3 ct3 oc4 kV4 dc4 pm4 cd4 ct4 oc5 kV5 dc5 pm5 cd5 ct5 oc6 kV6 dc6 pm6 cd6 ct6 oc7 kV7 dc7 pm7 cd7 ct7 oc8 kV8 dc8 pm8 cd8 ct8 oc9 kV9 dc9 pm9 cd9 ct9 oc10 kV10 dc10 pm10 cd10 ct10 oc11 kV11 dc11 pm11 cd11 ct11 oc12 kV12 dc12 pm12 cd12 ct12 oc13 kV13 dc13 pm13 cd13 ct13 oc14 kV14 dc14 pm14 cd14 ct14 oc15 kV15 dc15 pm15 cd15 ct15 oc16 kV16 dc16 pm16 cd16 ct16 oc17 kV17 dc17 pm17 cd17 ct17 oc18 kV18 dc18 pm18 cd18 ct18 oc19 kV19 dc19 pm19 cd19 ct19 oc20 kV20 dc20 pm20 cd20 ct20 oc21 kV21 dc21 pm21 cd21 ct21 oc22 kV22 dc22 pm22 cd22 ct22 oc23 kV23 dc23 pm23 cd23 ct23 oc24 kV24 dc24 pm24 cd24 ct24 oc25 kV25 dc25 pm25 cd25 ct25 oc0 dc0 pm0 cd0 ct0 ocT ocW kVW dcW pmW cdW ctW : Value} {tk0 t1 t2 t3 t4 : Tok} {nT : Nat} {xnm xq : Str} {xN : Addr} {xbs xsub : List Value} {xsn : List Str} {xab : Bool} {xcol : Option Bool} {xm0 xm1 xm2 xm3 xm5 : Option Value}
    (aC : PySem.W.nsIn K mainGlobals "Web" = some (some (.ref C)))
    (a1 : PySem.W.nsIn K mainGlobals "is_integer" = some (some (.ref f1)))
    (l1 : K.lookup f1 = some ⟨oc1, od1, .func (PySem.W.fnOf "is_integer" "is_integer" (defArgs sIsInt) (defBody sIsInt) (defScope sIsInt) .none kV1 dc1 pm1 an1 cd1 ct1), sl1⟩)
    (c1 : PySem.W.codeIn K cd1 "is_integer" = true)
    (k1 : PySem.W.keepIn K (.ref f1) = true)
    (a2 : PySem.W.nsIn K mainGlobals "is_between" = some (some (.ref f2)))
    (l2 : K.lookup f2 = some ⟨oc2, od2, .func (PySem.W.fnOf "is_between" "is_between" (defArgs sBetween) (defBody sBetween) (defScope sBetween) .none kV2 dc2 pm2 an2 cd2 ct2), sl2⟩)
    (c2 : PySem.W.codeIn K cd2 "is_between" = true)
    (k2 : PySem.W.keepIn K (.ref f2) = true)
    (a3 : PySem.W.nsIn K mainGlobals "is_modulus" = some (some (.ref f3)))
    (l3 : K.lookup f3 = some ⟨oc3, od3, .func (PySem.W.fnOf "is_modulus" "is_modulus" (defArgs sIsMod) (defBody sIsMod) (defScope sIsMod) .none kV3 dc3 pm3 an3 cd3 ct3), sl3⟩)
    (c3 : PySem.W.codeIn K cd3 "is_modulus" = true)
    (k3 : PySem.W.keepIn K (.ref f3) = true)
    (a4 : PySem.W.nsIn K mainGlobals "is_edge" = some (some (.ref f4)))
    (l4 : K.lookup f4 = some ⟨oc4, od4, .func (PySem.W.fnOf "is_edge" "is_edge" (defArgs sIsEdge) (defBody sIsEdge) (defScope sIsEdge) .none kV4 dc4 pm4 an4 cd4 ct4), sl4⟩)
    (c4 : PySem.W.codeIn K cd4 "is_edge" = true)
    (k4 : PySem.W.keepIn K (.ref f4) = true)
    (a5 : PySem.W.nsIn K mainGlobals "check_edges" = some (some (.ref f5)))
    (l5 : K.lookup f5 = some ⟨oc5, od5, .func (PySem.W.fnOf "check_edges" "check_edges" (defArgs sCheck) (defBody sCheck) (defScope sCheck) .none kV5 dc5 pm5 an5 cd5 ct5), sl5⟩)
    (c5 : PySem.W.codeIn K cd5 "check_edges" = true)
    (k5 : PySem.W.keepIn K (.ref f5) = true)
    (a6 : PySem.W.nsIn K mainGlobals "grown_forest" = some (some (.ref f6)))
    (l6 : K.lookup f6 = some ⟨oc6, od6, .func (PySem.W.fnOf "grown_forest" "grown_forest" (defArgs sGrown) (defBody sGrown) (defScope sGrown) .none kV6 dc6 pm6 an6 cd6 ct6), sl6⟩)
    (c6 : PySem.W.codeIn K cd6 "grown_forest" = true)
    (k6 : PySem.W.keepIn K (.ref f6) = true)
    (a7 : PySem.W.nsIn K mainGlobals "ties_of" = some (some (.ref f7)))
    (l7 : K.lookup f7 = some ⟨oc7, od7, .func (PySem.W.fnOf "ties_of" "ties_of" (defArgs sTies) (defBody sTies) (defScope sTies) .none kV7 dc7 pm7 an7 cd7 ct7), sl7⟩)
    (c7 : PySem.W.codeIn K cd7 "ties_of" = true)
    (k7 : PySem.W.keepIn K (.ref f7) = true)
    (a8 : PySem.W.nsIn K mainGlobals "is_step" = some (some (.ref f8)))
    (l8 : K.lookup f8 = some ⟨oc8, od8, .func (PySem.W.fnOf "is_step" "is_step" (defArgs sIsStep) (defBody sIsStep) (defScope sIsStep) .none kV8 dc8 pm8 an8 cd8 ct8), sl8⟩)
    (c8 : PySem.W.codeIn K cd8 "is_step" = true)
    (k8 : PySem.W.keepIn K (.ref f8) = true)
    (a9 : PySem.W.nsIn K mainGlobals "step_ends" = some (some (.ref f9)))
    (l9 : K.lookup f9 = some ⟨oc9, od9, .func (PySem.W.fnOf "step_ends" "step_ends" (defArgs sStepEnds) (defBody sStepEnds) (defScope sStepEnds) .none kV9 dc9 pm9 an9 cd9 ct9), sl9⟩)
    (c9 : PySem.W.codeIn K cd9 "step_ends" = true)
    (k9 : PySem.W.keepIn K (.ref f9) = true)
    (a10 : PySem.W.nsIn K mainGlobals "is_walk" = some (some (.ref f10)))
    (l10 : K.lookup f10 = some ⟨oc10, od10, .func (PySem.W.fnOf "is_walk" "is_walk" (defArgs sIsWalk) (defBody sIsWalk) (defScope sIsWalk) .none kV10 dc10 pm10 an10 cd10 ct10), sl10⟩)
    (c10 : PySem.W.codeIn K cd10 "is_walk" = true)
    (k10 : PySem.W.keepIn K (.ref f10) = true)
    (a11 : PySem.W.nsIn K mainGlobals "are_linked" = some (some (.ref f11)))
    (l11 : K.lookup f11 = some ⟨oc11, od11, .func (PySem.W.fnOf "are_linked" "are_linked" (defArgs sLinked) (defBody sLinked) (defScope sLinked) .none kV11 dc11 pm11 an11 cd11 ct11), sl11⟩)
    (c11 : PySem.W.codeIn K cd11 "are_linked" = true)
    (k11 : PySem.W.keepIn K (.ref f11) = true)
    (a12 : PySem.W.nsIn K mainGlobals "is_closed" = some (some (.ref f12)))
    (l12 : K.lookup f12 = some ⟨oc12, od12, .func (PySem.W.fnOf "is_closed" "is_closed" (defArgs sIsClosed) (defBody sIsClosed) (defScope sIsClosed) .none kV12 dc12 pm12 an12 cd12 ct12), sl12⟩)
    (c12 : PySem.W.codeIn K cd12 "is_closed" = true)
    (k12 : PySem.W.keepIn K (.ref f12) = true)
    (a13 : PySem.W.nsIn K mainGlobals "ends_of" = some (some (.ref f13)))
    (l13 : K.lookup f13 = some ⟨oc13, od13, .func (PySem.W.fnOf "ends_of" "ends_of" (defArgs sEndsOf) (defBody sEndsOf) (defScope sEndsOf) .none kV13 dc13 pm13 an13 cd13 ct13), sl13⟩)
    (c13 : PySem.W.codeIn K cd13 "ends_of" = true)
    (k13 : PySem.W.keepIn K (.ref f13) = true)
    (a14 : PySem.W.nsIn K mainGlobals "_law_pool" = some (some (.ref f14)))
    (l14 : K.lookup f14 = some ⟨oc14, od14, .func (PySem.W.fnOf "_law_pool" "_law_pool" (defArgs sPool) (defBody sPool) (defScope sPool) .none kV14 dc14 pm14 an14 cd14 ct14), sl14⟩)
    (c14 : PySem.W.codeIn K cd14 "_law_pool" = true)
    (k14 : PySem.W.keepIn K (.ref f14) = true)
    (a15 : PySem.W.nsIn K mainGlobals "_law_take" = some (some (.ref f15)))
    (l15 : K.lookup f15 = some ⟨oc15, od15, .func (PySem.W.fnOf "_law_take" "_law_take" (defArgs sTake) (defBody sTake) (defScope sTake) .none kV15 dc15 pm15 an15 cd15 ct15), sl15⟩)
    (c15 : PySem.W.codeIn K cd15 "_law_take" = true)
    (k15 : PySem.W.keepIn K (.ref f15) = true)
    (a16 : PySem.W.nsIn K mainGlobals "_law_modulus" = some (some (.ref f16)))
    (l16 : K.lookup f16 = some ⟨oc16, od16, .func (PySem.W.fnOf "_law_modulus" "_law_modulus" (defArgs sModulus) (defBody sModulus) (defScope sModulus) .none kV16 dc16 pm16 an16 cd16 ct16), sl16⟩)
    (c16 : PySem.W.codeIn K cd16 "_law_modulus" = true)
    (k16 : PySem.W.keepIn K (.ref f16) = true)
    (a17 : PySem.W.nsIn K mainGlobals "_law_links" = some (some (.ref f17)))
    (l17 : K.lookup f17 = some ⟨oc17, od17, .func (PySem.W.fnOf "_law_links" "_law_links" (defArgs sLinks) (defBody sLinks) (defScope sLinks) .none kV17 dc17 pm17 an17 cd17 ct17), sl17⟩)
    (c17 : PySem.W.codeIn K cd17 "_law_links" = true)
    (k17 : PySem.W.keepIn K (.ref f17) = true)
    (a18 : PySem.W.nsIn K mainGlobals "_law_is_number" = some (some (.ref f18)))
    (l18 : K.lookup f18 = some ⟨oc18, od18, .func (PySem.W.fnOf "_law_is_number" "_law_is_number" (defArgs sIsNum) (defBody sIsNum) (defScope sIsNum) .none kV18 dc18 pm18 an18 cd18 ct18), sl18⟩)
    (c18 : PySem.W.codeIn K cd18 "_law_is_number" = true)
    (k18 : PySem.W.keepIn K (.ref f18) = true)
    (a19 : PySem.W.nsIn K mainGlobals "_law_nodes" = some (some (.ref f19)))
    (l19 : K.lookup f19 = some ⟨oc19, od19, .func (PySem.W.fnOf "_law_nodes" "_law_nodes" (defArgs sNodes) (defBody sNodes) (defScope sNodes) .none kV19 dc19 pm19 an19 cd19 ct19), sl19⟩)
    (c19 : PySem.W.codeIn K cd19 "_law_nodes" = true)
    (k19 : PySem.W.keepIn K (.ref f19) = true)
    (a20 : PySem.W.nsIn K mainGlobals "_law_led" = some (some (.ref f20)))
    (l20 : K.lookup f20 = some ⟨oc20, od20, .func (PySem.W.fnOf "_law_led" "_law_led" (defArgs sLed) (defBody sLed) (defScope sLed) .none kV20 dc20 pm20 an20 cd20 ct20), sl20⟩)
    (c20 : PySem.W.codeIn K cd20 "_law_led" = true)
    (k20 : PySem.W.keepIn K (.ref f20) = true)
    (a21 : PySem.W.nsIn K mainGlobals "_law_bent" = some (some (.ref f21)))
    (l21 : K.lookup f21 = some ⟨oc21, od21, .func (PySem.W.fnOf "_law_bent" "_law_bent" (defArgs sBent) (defBody sBent) (defScope sBent) .none kV21 dc21 pm21 an21 cd21 ct21), sl21⟩)
    (c21 : PySem.W.codeIn K cd21 "_law_bent" = true)
    (k21 : PySem.W.keepIn K (.ref f21) = true)
    (a22 : PySem.W.nsIn K mainGlobals "_law_right" = some (some (.ref f22)))
    (l22 : K.lookup f22 = some ⟨oc22, od22, .func (PySem.W.fnOf "_law_right" "_law_right" (defArgs sRight) (defBody sRight) (defScope sRight) .none kV22 dc22 pm22 an22 cd22 ct22), sl22⟩)
    (c22 : PySem.W.codeIn K cd22 "_law_right" = true)
    (k22 : PySem.W.keepIn K (.ref f22) = true)
    (a23 : PySem.W.nsIn K mainGlobals "law" = some (some (.ref f23)))
    (l23 : K.lookup f23 = some ⟨oc23, od23, .func (PySem.W.fnOf "law" "law" (defArgs sLaw) (defBody sLaw) (defScope sLaw) .none kV23 dc23 pm23 an23 cd23 ct23), sl23⟩)
    (c23 : PySem.W.codeIn K cd23 "law" = true)
    (k23 : PySem.W.keepIn K (.ref f23) = true)
    (a24 : PySem.W.findIn K (.ref C) "edge" = some (some (.ref f24)))
    (i24 : PySem.W.isFn K (.ref f24) = true)
    (l24 : K.lookup f24 = some ⟨oc24, od24, .func (PySem.W.fnOf "edge" "Web.edge" (defArgs sEdgeM) (defBody sEdgeM) (defScope sEdgeM) .none kV24 dc24 pm24 an24 cd24 ct24), sl24⟩)
    (c24 : PySem.W.codeIn K cd24 "Web.edge" = true)
    (k24 : PySem.W.keepIn K (.ref f24) = true)
    (a25 : PySem.W.findIn K (.ref C) "__len__" = some (some (.ref f25)))
    (i25 : PySem.W.isFn K (.ref f25) = true)
    (l25 : K.lookup f25 = some ⟨oc25, od25, .func (PySem.W.fnOf "__len__" "Web.__len__" (defArgs sLen) (defBody sLen) (defScope sLen) .none kV25 dc25 pm25 an25 cd25 ct25), sl25⟩)
    (c25 : PySem.W.codeIn K cd25 "Web.__len__" = true)
    (k25 : PySem.W.keepIn K (.ref f25) = true)
    (a0 : PySem.W.findIn K (.ref C) "__init__" = some (some (.ref f0)))
    (i0 : PySem.W.isFn K (.ref f0) = true)
    (l0 : K.lookup f0 = some ⟨oc0, od0, .func (PySem.W.fnOf "__init__" "Web.__init__" (defArgs sInit) (defBody sInit) (defScope sInit) (.ref TD) (.ref KD) dc0 pm0 an0 cd0 ct0), sl0⟩)
    (c0 : PySem.W.codeIn K cd0 "Web.__init__" = true)
    (k0 : PySem.W.keepIn K (.ref f0) = true)
    (lT : K.lookup TD = some ⟨ocT, odT, .seq #[.ref ET] nT, slT⟩)
    (lK : PySem.W.nsIn K KD "modulus" = some (some (.int 0 tk0)))
    (pg : PySem.W.plainGet K C Str.empty = true)
    (hd : PySem.W.hasDictIn K C = true)
    (po : PySem.W.plainOver K C = true)
    (sa : PySem.W.findIn K (.ref C) "__setattr__" = some (some (.builtin "object.__setattr__")))
    (mk : PySem.W.makesIn K C = true)
    (kc : PySem.W.keepIn K (.ref C) = true)
    (n1 : PySem.W.findIn K (.ref C) "node_count" = some none)
    (n2 : PySem.W.findIn K (.ref C) "edge_pairs" = some none)
    (n3 : PySem.W.findIn K (.ref C) "gain_modulus" = some none)
    (n4 : PySem.W.findIn K (.ref C) "forest_numbers" = some none)
    (n5 : PySem.W.findIn K (.ref C) "first_nodes" = some none)
    (n6 : PySem.W.findIn K (.ref C) "forest_ties" = some none)
    (xaC : PySem.W.nsIn K mainGlobals "InvalidWalk" = some (some (.ref CW)))
    (xL : K.lookup CW = some (excClassObj xnm xq CW xN xbs [.ref CE0, .type "ValueError", .type "Exception", .type "BaseException", .type "object"] true xsn xsub xab xcol xdd xm0 xm1 xm2 xm3 xm5 "ValueError.__new__"))
    (xsa : PySem.W.findIn K (.ref CW) "__setattr__" = some (some (.builtin "object.__setattr__")))
    (xga : PySem.W.findIn K (.ref CW) "__getattribute__" = some (some (.builtin "BaseException.__getattribute__")))
    (xgg : PySem.W.findIn K (.ref CW) "__getattr__" = some none)
    (xnf : PySem.W.findIn K (.ref CW) "value" = some none)
    (xin : PySem.W.findIn K (.ref CW) "__init__" = some (some (.ref fW)))
    (xty : PySem.W.typeIn K (.ref fW) = some (.type "function"))
    (xl : K.lookup fW = some ⟨ocW, odW, .func (PySem.W.fnOf "__init__" "WebError.__init__" (defArgs sWebErr) (defBody sWebErr) (defScope sWebErr) .none kVW dcW pmW anW cdW ctW), slW⟩)
    (xc : PySem.W.codeIn K cdW "WebError.__init__" = true)
    (xkf : PySem.W.keepIn K (.ref fW) = true)
    (xk : PySem.W.keepIn K (.ref CW) = true)
    (xe : PySem.W.subIn K (.ref CW) (.type "BaseException") = some true)
    (xt : PySem.W.typeIn K (.ref CW) = some (.type "type"))
    (xh : PySem.W.hasDictIn K CW = true)
    (xi : PySem.W.isClsIn K CW = true)
    (xs : PySem.W.subIn K (.ref CW) (.ref CW) = some true)
    (z_len : PySem.W.nsIn K mainGlobals "len" = some none)
    (z_range : PySem.W.nsIn K mainGlobals "range" = some none)
    (z_list : PySem.W.nsIn K mainGlobals "list" = some none)
    (z_min : PySem.W.nsIn K mainGlobals "min" = some none)
    (z_max : PySem.W.nsIn K mainGlobals "max" = some none)
    (z_enumerate : PySem.W.nsIn K mainGlobals "enumerate" = some none)
    (z_isinstance : PySem.W.nsIn K mainGlobals "isinstance" = some none)
    (z_int : PySem.W.nsIn K mainGlobals "int" = some none)
    (z_bool : PySem.W.nsIn K mainGlobals "bool" = some none)
    (z_tuple : PySem.W.nsIn K mainGlobals "tuple" = some none)
    (z_all : PySem.W.nsIn K mainGlobals "all" = some none)
    (z_zip : PySem.W.nsIn K mainGlobals "zip" = some none)
    (z_repr : PySem.W.nsIn K mainGlobals "repr" = some none)
    (z_str : PySem.W.nsIn K mainGlobals "str" = some none)
    (q1 : PySem.W.nsIn K mainGlobals "MOST_NODES" = some (some (.int 30 t1)))
    (q2 : PySem.W.nsIn K mainGlobals "MOST_EDGES" = some (some (.int 60 t2)))
    (q3 : PySem.W.nsIn K mainGlobals "LEAST_MODULUS" = some (some (.int 2 t3)))
    (q4 : PySem.W.nsIn K mainGlobals "MOST_MODULUS" = some (some (.int 60 t4))) :
    ∃ fd : FuncData, (∀ (s : Shared) (v : Value), BindsTo s fd ⟨[v], []⟩ [("_law_script", v)]) ∧ ∀ base : Heap, K.In base → base.Ns mainGlobals mg → Gd.GOk l.prog w K mg base CX0 9 fa fd ["_law_script"] (spLaw K) := by
  have e := hfa.symm.trans (PySem.W.mg_of X G a23)
  cases e
  have F1 := fun_mk (st := sIsInt) l1 c1 k1
  have b1 := F1.binds (ps := ["thing"]) fun _ _ _ _ _ _ us hl => match us, hl with | [_], _ => rfl
  have F2 := fun_mk (st := sBetween) l2 c2 k2
  have b2 := F2.binds (ps := ["thing", "low", "high"]) fun _ _ _ _ _ _ us hl => match us, hl with | [_, _, _], _ => rfl
  have F3 := fun_mk (st := sIsMod) l3 c3 k3
  have b3 := F3.binds (ps := ["thing"]) fun _ _ _ _ _ _ us hl => match us, hl with | [_], _ => rfl
  have F4 := fun_mk (st := sIsEdge) l4 c4 k4
  have b4 := F4.binds (ps := ["size", "thing"]) fun _ _ _ _ _ _ us hl => match us, hl with | [_, _], _ => rfl
  have F5 := fun_mk (st := sCheck) l5 c5 k5
  have b5 := F5.binds (ps := ["size", "edges"]) fun _ _ _ _ _ _ us hl => match us, hl with | [_, _], _ => rfl
  have F6 := fun_mk (st := sGrown) l6 c6 k6
  have b6 := F6.binds (ps := ["size", "pairs"]) fun _ _ _ _ _ _ us hl => match us, hl with | [_, _], _ => rfl
  have F7 := fun_mk (st := sTies) l7 c7 k7
  have b7 := F7.binds (ps := ["size", "pairs", "numbers"]) fun _ _ _ _ _ _ us hl => match us, hl with | [_, _, _], _ => rfl
  have F8 := fun_mk (st := sIsStep) l8 c8 k8
  have b8 := F8.binds (ps := ["web", "thing"]) fun _ _ _ _ _ _ us hl => match us, hl with | [_, _], _ => rfl
  have F9 := fun_mk (st := sStepEnds) l9 c9 k9
  have b9 := F9.binds (ps := ["web", "step"]) fun _ _ _ _ _ _ us hl => match us, hl with | [_, _], _ => rfl
  have F10 := fun_mk (st := sIsWalk) l10 c10 k10
  have b10 := F10.binds (ps := ["web", "thing"]) fun _ _ _ _ _ _ us hl => match us, hl with | [_, _], _ => rfl
  have F11 := fun_mk (st := sLinked) l11 c11 k11
  have b11 := F11.binds (ps := ["ends"]) fun _ _ _ _ _ _ us hl => match us, hl with | [_], _ => rfl
  have F12 := fun_mk (st := sIsClosed) l12 c12 k12
  have b12 := F12.binds (ps := ["web", "thing"]) fun _ _ _ _ _ _ us hl => match us, hl with | [_, _], _ => rfl
  have F13 := fun_mk (st := sEndsOf) l13 c13 k13
  have b13 := F13.binds (ps := ["web", "walk"]) fun _ _ _ _ _ _ us hl => match us, hl with | [_, _], _ => rfl
  have F14 := fun_mk (st := sPool) l14 c14 k14
  have b14 := F14.binds (ps := ["_law_script", "_law_k"]) fun _ _ _ _ _ _ us hl => match us, hl with | [_, _], _ => rfl
  have F15 := fun_mk (st := sTake) l15 c15 k15
  have b15 := F15.binds (ps := ["_law_pool_here", "_law_sides"]) fun _ _ _ _ _ _ us hl => match us, hl with | [_, _], _ => rfl
  have F16 := fun_mk (st := sModulus) l16 c16 k16
  have b16 := F16.binds (ps := ["_law_pool_here"]) fun _ _ _ _ _ _ us hl => match us, hl with | [_], _ => rfl
  have F17 := fun_mk (st := sLinks) l17 c17 k17
  have b17 := F17.binds (ps := ["_law_pool_here", "_law_nodes_here", "_law_most"]) fun _ _ _ _ _ _ us hl => match us, hl with | [_, _, _], _ => rfl
  have F18 := fun_mk (st := sIsNum) l18 c18 k18
  have b18 := F18.binds (ps := ["_law_thing"]) fun _ _ _ _ _ _ us hl => match us, hl with | [_], _ => rfl
  have F19 := fun_mk (st := sNodes) l19 c19 k19
  have b19 := F19.binds (ps := ["_law_links_here", "_law_thing"]) fun _ _ _ _ _ _ us hl => match us, hl with | [_, _], _ => rfl
  have F20 := fun_mk (st := sLed) l20 c20 k20
  have b20 := F20.binds (ps := ["_law_pool_here", "_law_links_here", "_law_nodes_here"]) fun _ _ _ _ _ _ us hl => match us, hl with | [_, _, _], _ => rfl
  have F21 := fun_mk (st := sBent) l21 c21 k21
  have b21 := F21.binds (ps := ["_law_pool_here", "_law_links_here", "_law_row"]) fun _ _ _ _ _ _ us hl => match us, hl with | [_, _, _], _ => rfl
  have F22 := fun_mk (st := sRight) l22 c22 k22
  have b22 := F22.binds (ps := ["_law_web", "_law_links_here", "_law_thing"]) fun _ _ _ _ _ _ us hl => match us, hl with | [_, _, _], _ => rfl
  have F23 := fun_mk (st := sLaw) l23 c23 k23
  have b23 := F23.binds (ps := ["_law_script"]) fun _ _ _ _ _ _ us hl => match us, hl with | [_], _ => rfl
  have F24 := fun_mk (st := sEdgeM) l24 c24 k24
  have b24 := F24.binds (ps := ["self", "number"]) fun _ _ _ _ _ _ us hl => match us, hl with | [_, _], _ => rfl
  have F25 := fun_mk (st := sLen) l25 c25 k25
  have b25 := F25.binds (ps := ["self"]) fun _ _ _ _ _ _ us hl => match us, hl with | [_], _ => rfl
  have B : Bn mg := ⟨PySem.W.mg_none_of X G z_len, PySem.W.mg_none_of X G z_range, PySem.W.mg_none_of X G z_list, PySem.W.mg_none_of X G z_min, PySem.W.mg_none_of X G z_max, PySem.W.mg_none_of X G z_enumerate, PySem.W.mg_none_of X G z_isinstance, PySem.W.mg_none_of X G z_int, PySem.W.mg_none_of X G z_bool, PySem.W.mg_none_of X G z_tuple, PySem.W.mg_none_of X G z_all, PySem.W.mg_none_of X G z_zip, PySem.W.mg_none_of X G z_repr, PySem.W.mg_none_of X G z_str⟩
  have Cc : Cs mg := ⟨⟨_, PySem.W.mg_of X G q1⟩, ⟨_, PySem.W.mg_of X G q2⟩, ⟨_, PySem.W.mg_of X G q3⟩, ⟨_, PySem.W.mg_of X G q4⟩⟩
  have XE : Ex K mg "InvalidWalk" CW fW := ⟨⟨⟨_, _, _, _, _, _, _, _, _, _, _, _, _, _, _, xL, by show PySem.HandSPX.refsVE [.type "ValueError", .type "Exception", .type "BaseException", .type "object"] = true; decide +kernel⟩, xsa, xe, xt, xk⟩, xnf, xin, xty, PySem.W.mg_of X G xaC⟩
  have XX : XfC K CW := ⟨xga, xgg, xe, xh⟩
  have XM : PySem.W.exmOne K (.ref CW) (.ref CW) = some true := exm_own xe xi xt xs
  have FW := fun_mk (st := sWebErr) xl xc xkf
  have T : Txt K mg C := ⟨⟨pg, hd, po, sa⟩, n1, n2, n3, n4, n5, n6, PySem.W.mg_of X G aC⟩
  refine ⟨PySem.W.fnOf "law" "law" (defArgs sLaw) (defBody sLaw) (defScope sLaw) .none kV23 dc23 pm23 an23 cd23 ct23, fun s v => .of_eq rfl, fun base _ _ => ?_⟩
  have F0 : FunD K "__init__" "Web.__init__" (defArgs sInit) (defBody sInit) (defScope sInit) [.ref ET] [("modulus", .int 0)] f0 _ :=
    ⟨⟨_, _, _, _, _, _, _, _, _, _, rfl, l0, c0, .inr ⟨by simp, TD, _, [.ref ET], nT, rfl, lT, rfl, .cons rfl .nil⟩, .inr ⟨KD, rfl, fun q hq => by
      have e : q = (("modulus" : Str), V.int 0) := by simpa using hq
      subst e
      exact ⟨_, lK, ⟨_, rfl⟩⟩⟩⟩, k0⟩
  obtain ⟨_, _, hb⟩ := F0.kbinds (ps := ["self", "size", "edges", "modulus"]) 3 ["modulus"] [] (fun us _ _ ws => us ++ ws) (by simp) (by simp) (fun q hq => by simp at hq) (fun r _ _ r2 => r.append r2)
    (fun T D doc pm an cdv ct us its mv ws h1 h2 h3 h4 => match us, h1, its, h2, ws, h4 with | [_, _, _], _, [_], _, [_], _ => ⟨_, rfl, rfl⟩)
  have D1 : Df l.prog w K mg base 1 "is_integer" ["thing"] (spInt K) := ⟨_, _, ok_isint F1 B, PySem.W.mg_of X G a1, k1, b1⟩
  have D2 : Df l.prog w K mg base 2 "is_between" ["thing", "low", "high"] (spBetween K) := by
    obtain ⟨g, gd, G1, m1, k1', b1'⟩ := D1.ex
    exact ⟨_, _, ok_between F2 G1 m1 k1' b1', PySem.W.mg_of X G a2, k2, b2⟩
  have D3 : Df l.prog w K mg base 2 "is_modulus" ["thing"] (spIsMod K) := ⟨_, _, ok_ismod F3 Cc D1, PySem.W.mg_of X G a3, k3, b3⟩
  have D4 : Df l.prog w K mg base 3 "is_edge" ["size", "thing"] (spIsEdge K) := ⟨_, _, ok_isedge F4 B D2, PySem.W.mg_of X G a4, k4, b4⟩
  have D5 : Df l.prog w K mg base 4 "check_edges" ["size", "edges"] (spCheck K) := ⟨_, _, ok_check F5 B Cc D4, PySem.W.mg_of X G a5, k5, b5⟩
  have D6 : Df l.prog w K mg base 1 "grown_forest" ["size", "pairs"] spGrown := ⟨_, _, ok_grown F6 B, PySem.W.mg_of X G a6, k6, b6⟩
  have D7 : Df l.prog w K mg base 1 "ties_of" ["size", "pairs", "numbers"] spTies := ⟨_, _, ok_ties F7 B, PySem.W.mg_of X G a7, k7, b7⟩
  have GI := ok_init (P := l.prog) (w := w) (base := base) F0 T Cc D2 D5 D3 D6 D7
  have ML : Md l.prog w K mg base C 1 "__len__" ["self"] (spLen C) := ⟨_, _, ok_len F25 B T, ⟨a25, i25, k25⟩, b25⟩
  have ME : Md l.prog w K mg base C 3 "edge" ["self", "number"] (spEdgeM C) := ⟨_, _, ok_edge F24 B T D2, ⟨a24, i24, k24⟩, b24⟩
  have S1 : Df l.prog w K mg base 3 "is_step" ["web", "thing"] (spIsStep K C) := ⟨_, _, ok_isstep F8 B T D1 D2 ML, PySem.W.mg_of X G a8, k8, b8⟩
  have S2 : Df l.prog w K mg base 4 "step_ends" ["web", "step"] (spStepEnds K C) := ⟨_, _, ok_stepends F9 T ME, PySem.W.mg_of X G a9, k9, b9⟩
  have SL : Df l.prog w K mg base 1 "are_linked" ["ends"] (spLinked K) := ⟨_, _, ok_linked F11 B, PySem.W.mg_of X G a11, k11, b11⟩
  have S3 : Df l.prog w K mg base 5 "is_walk" ["web", "thing"] (spIsWalk K C) := ⟨_, _, ok_iswalk F10 B S1 S2 SL, PySem.W.mg_of X G a10, k10, b10⟩
  have bW := FW.binds (ps := ["self", "value"]) fun _ _ _ _ _ _ us hl => match us, hl with | [_, _], _ => rfl
  have WE := ok_we (P := l.prog) (w := w) (mg := mg) (base := base) FW
  have GE := ok_endsof (C := C) F13 B XE WE bW S3 S2
  have mE := PySem.W.mg_of X G a13
  have S4 : Df l.prog w K mg base 7 "is_closed" ["web", "thing"] (spIsClosed K C) := ⟨_, _, ok_isclosed F12 S3 GE mE k13 b13, PySem.W.mg_of X G a12, k12, b12⟩
  have E1 : Df l.prog w K mg base 1 "_law_pool" ["_law_script", "_law_k"] (spPool K) := ⟨_, _, ok_pool F14 B, PySem.W.mg_of X G a14, k14, b14⟩
  have E2 : Df l.prog w K mg base 1 "_law_take" ["_law_pool_here", "_law_sides"] spTake := ⟨_, _, ok_take F15, PySem.W.mg_of X G a15, k15, b15⟩
  have E3 : Df l.prog w K mg base 2 "_law_modulus" ["_law_pool_here"] spModulus := by
    obtain ⟨g, gd, G1, m1, k1', b1'⟩ := E2.ex
    exact ⟨_, _, ok_modulus F16 G1 m1 k1' b1', PySem.W.mg_of X G a16, k16, b16⟩
  have E4 : Df l.prog w K mg base 2 "_law_links" ["_law_pool_here", "_law_nodes_here", "_law_most"] spLinks := by
    obtain ⟨g, gd, G1, m1, k1', b1'⟩ := E2.ex
    exact ⟨_, _, ok_links F17 B G1 m1 k1' b1', PySem.W.mg_of X G a17, k17, b17⟩
  have E5 : Df l.prog w K mg base 1 "_law_is_number" ["_law_thing"] (spInt K) := ⟨_, _, ok_isnum F18 B, PySem.W.mg_of X G a18, k18, b18⟩
  have E6 : Df l.prog w K mg base 2 "_law_nodes" ["_law_links_here", "_law_thing"] (spNodes K) := ⟨_, _, ok_nodes F19 B E5, PySem.W.mg_of X G a19, k19, b19⟩
  have E7 : Df l.prog w K mg base 2 "_law_led" ["_law_pool_here", "_law_links_here", "_law_nodes_here"] spLed := ⟨_, _, ok_led F20 B E2, PySem.W.mg_of X G a20, k20, b20⟩
  have E8 : Df l.prog w K mg base 2 "_law_bent" ["_law_pool_here", "_law_links_here", "_law_row"] (spBent K) := ⟨_, _, ok_bent F21 B E2, PySem.W.mg_of X G a21, k21, b21⟩
  have GR := ok_right (C := C) F22 B XE XX XM E6 S3 S4 GE mE k13 b13
  exact ok_law F23 B T ⟨mk, a0, i0, kc⟩ GI hb E1 E2 E3 E4 E7 E8 GR (PySem.W.mg_of X G a22) k22 b22
theorem walk {l : PySem.W.OpenLaw} {q : Program} {loose : List Str} {XP : (Str → Option Value) → Heap → Prop} {YP : World → Heap → Prop} {d : DefRec} {K : Params → PySem.W.Frag} (hn : l.most = some 63) (hdf : d.params.defaults = [])
    (hY : ∀ (w : World) (h : Heap), YP w h → (K w.params).In h)
    (F : ∀ (w : World) (mg : Str → Option Value) (fa : Addr) (h : Heap), (K w.params).In h → h.Ns mainGlobals mg → mg d.name = some (.ref fa) →
      ∃ fd : FuncData, (∀ (s : Shared) (u : Value), BindsTo s fd ⟨[u], []⟩ [("_law_script", u)]) ∧ ∀ base : Heap, (K w.params).In base → base.Ns mainGlobals mg → Gd.GOk l.prog w (K w.params) mg base CX0 9 fa fd ["_law_script"] (spLaw (K w.params))) :
    PySem.W.WalkO q loose XP YP l.row.toRowW d [] (fun f vs => PySem.call f vs) :=
  Gd.walk_quiet (n := 63) (k := 9) (x := "_law_script") (CX := fun _ => CX0) (sp := fun w => spLaw (K w.params)) hn (by decide) hdf ⟨rfl, by decide, by decide⟩ hY F (fun _ _ a ns hl _ hS => ⟨a, ns, rfl, hS, hl, fun _ => rfl⟩) fun _ _ _ _ _ z => z
end Wb
open PySem PySem.W PyProof.Rows
set_option maxRecDepth 100000 in
set_option maxHeartbeats 0 in
theorem PySem.Challenge.cw_turnedties_k05_walks_looked_at_holds : PySem.Challenge.rw_turnedties_k05_walks_looked_at.Holds := by
  w_on; o_law; k_head; (case hw => w_witness2)
  k_fill
  refine Wb.walk (l := PySem.Challenge.rw_turnedties_k05_walks_looked_at) rfl rfl (fun w h Y => PySem.W.kIn_of Y) ?F
  case F =>
    intro w mg fa h KX G hmg
    refine' Wb.all_mk KX G hmg ?aC ?a1 ?l1 ?c1 ?k1 ?a2 ?l2 ?c2 ?k2 ?a3 ?l3 ?c3 ?k3 ?a4 ?l4 ?c4 ?k4 ?a5 ?l5 ?c5 ?k5 ?a6 ?l6 ?c6 ?k6 ?a7 ?l7 ?c7 ?k7 ?a8 ?l8 ?c8 ?k8 ?a9 ?l9 ?c9 ?k9 ?a10 ?l10 ?c10 ?k10 ?a11 ?l11 ?c11 ?k11 ?a12 ?l12 ?c12 ?k12 ?a13 ?l13 ?c13 ?k13 ?a14 ?l14 ?c14 ?k14 ?a15 ?l15 ?c15 ?k15 ?a16 ?l16 ?c16 ?k16 ?a17 ?l17 ?c17 ?k17 ?a18 ?l18 ?c18 ?k18 ?a19 ?l19 ?c19 ?k19 ?a20 ?l20 ?c20 ?k20 ?a21 ?l21 ?c21 ?k21 ?a22 ?l22 ?c22 ?k22 ?a23 ?l23 ?c23 ?k23 ?a24 ?i24 ?l24 ?c24 ?k24 ?a25 ?i25 ?l25 ?c25 ?k25 ?a0 ?i0 ?l0 ?c0 ?k0 ?lT ?lK ?pg ?hd ?po ?sa ?mk ?kc ?n1 ?n2 ?n3 ?n4 ?n5 ?n6 ?xaC ?xL ?xsa ?xga ?xgg ?xnf ?xin ?xty ?xl ?xc ?xkf ?xk ?xe ?xt ?xh ?xi ?xs ?z_len ?z_range ?z_list ?z_min ?z_max ?z_enumerate ?z_isinstance ?z_int ?z_bool ?z_tuple ?z_all ?z_zip ?z_repr ?z_str ?q1 ?q2 ?q3 ?q4
    (case aC => k_is)
    (case a1 => k_is)
    (case l1 => k_is)
    (case c1 => k_is)
    (case k1 => k_is)
    (case a2 => k_is)
    (case l2 => k_is)
    (case c2 => k_is)
    (case k2 => k_is)
    (case a3 => k_is)
    (case l3 => k_is)
    (case c3 => k_is)
    (case k3 => k_is)
    (case a4 => k_is)
    (case l4 => k_is)
    (case c4 => k_is)
    (case k4 => k_is)
    (case a5 => k_is)
    (case l5 => k_is)
    (case c5 => k_is)
    (case k5 => k_is)
    (case a6 => k_is)
    (case l6 => k_is)
    (case c6 => k_is)
    (case k6 => k_is)
    (case a7 => k_is)
    (case l7 => k_is)
    (case c7 => k_is)
    (case k7 => k_is)
    (case a8 => k_is)
    (case l8 => k_is)
    (case c8 => k_is)
    (case k8 => k_is)
    (case a9 => k_is)
    (case l9 => k_is)
    (case c9 => k_is)
    (case k9 => k_is)
    (case a10 => k_is)
    (case l10 => k_is)
    (case c10 => k_is)
    (case k10 => k_is)
    (case a11 => k_is)
    (case l11 => k_is)
    (case c11 => k_is)
    (case k11 => k_is)
    (case a12 => k_is)
    (case l12 => k_is)
    (case c12 => k_is)
    (case k12 => k_is)
    (case a13 => k_is)
    (case l13 => k_is)
    (case c13 => k_is)
    (case k13 => k_is)
    (case a14 => k_is)
    (case l14 => k_is)
    (case c14 => k_is)
    (case k14 => k_is)
    (case a15 => k_is)
    (case l15 => k_is)
    (case c15 => k_is)
    (case k15 => k_is)
    (case a16 => k_is)
    (case l16 => k_is)
    (case c16 => k_is)
    (case k16 => k_is)
    (case a17 => k_is)
    (case l17 => k_is)
    (case c17 => k_is)
    (case k17 => k_is)
    (case a18 => k_is)
    (case l18 => k_is)
    (case c18 => k_is)
    (case k18 => k_is)
    (case a19 => k_is)
    (case l19 => k_is)
    (case c19 => k_is)
    (case k19 => k_is)
    (case a20 => k_is)
    (case l20 => k_is)
    (case c20 => k_is)
    (case k20 => k_is)
    (case a21 => k_is)
    (case l21 => k_is)
    (case c21 => k_is)
    (case k21 => k_is)
    (case a22 => k_is)
    (case l22 => k_is)
    (case c22 => k_is)
    (case k22 => k_is)
    (case a23 => k_is)
    (case l23 => k_is)
    (case c23 => k_is)
    (case k23 => k_is)
    (case a24 => k_is)
    (case i24 => k_is)
    (case l24 => k_is)
    (case c24 => k_is)
    (case k24 => k_is)
    (case a25 => k_is)
    (case i25 => k_is)
    (case l25 => k_is)
    (case c25 => k_is)
    (case k25 => k_is)
    (case a0 => k_is)
    (case i0 => k_is)
    (case l0 => k_is)
    (case c0 => k_is)
    (case k0 => k_is)
    (case lT => k_is)
    (case lK => k_is)
    (case pg => k_is)
    (case hd => k_is)
    (case po => k_is)
    (case sa => k_is)
    (case mk => k_is)
    (case kc => k_is)
    (case n1 => k_is)
    (case n2 => k_is)
    (case n3 => k_is)
    (case n4 => k_is)
    (case n5 => k_is)
    (case n6 => k_is)
    (case xaC => k_is)
    (case xL => k_is)
    (case xsa => k_is)
    (case xga => k_is)
    (case xgg => k_is)
    (case xnf => k_is)
    (case xin => k_is)
    (case xty => k_is)
    (case xl => k_is)
    (case xc => k_is)
    (case xkf => k_is)
    (case xk => k_is)
    (case xe => k_is)
    (case xt => k_is)
    (case xh => k_is)
    (case xi => k_is)
    (case xs => k_is)
    (case z_len => k_is)
    (case z_range => k_is)
    (case z_list => k_is)
    (case z_min => k_is)
    (case z_max => k_is)
    (case z_enumerate => k_is)
    (case z_isinstance => k_is)
    (case z_int => k_is)
    (case z_bool => k_is)
    (case z_tuple => k_is)
    (case z_all => k_is)
    (case z_zip => k_is)
    (case z_repr => k_is)
    (case z_str => k_is)
    (case q1 => k_is)
    (case q2 => k_is)
    (case q3 => k_is)
    (case q4 => k_is)
