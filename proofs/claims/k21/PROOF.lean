import PyProof.Rows.All
import Wide.All
import OpenK.AllK
import Wide.FinOn
import HandS.ForMost
import HandS.IsInst
import HandS.Wide
import HandS.Defaults
import HandS.MakeKwOnly
import HandS.Conv
import HandS.Zip
import HandS.Flow
import HandS.Lambda
import HandS.Style
import HandS.SetFor
import KE.KDictZip
import PyProof.ListRange
import HandS.EndBits
import KE.KNest
import KE.GoesZip
import KE.GoesMore
import KE.GoesEnum
import HandS.TryOnly
import HandS.Deep
import KE.KRevSl
import HandS.DictComp
import HandS.TupAny
import PyProof.InstEq
import HandS.Strs
import HandS.TryMany
import HandS.ExcField
import HandS.RaiseMore
import HandS.WordsExc
import HandS.ExcOwn
import HandS.ExcInit
import HandS.TupSets
import KE.KDictCopyH
import HandS.SetKeys
import PyProof.StrBlock2
import HandS.More
import HandS.SortKw
import PySem.Challenge.RW_turnedties_k21_costs_told
set_option Elab.async false
set_option linter.all false
set_option maxRecDepth 100000
set_option maxHeartbeats 8000000
/-! ## What an expression comes to, by data -/
namespace Ee
open PySem L2
abbrev Fr := PySem.W.Frag
/-! ### data in a heap -/
mutual
inductive Dx (H : Hp) : V → PyData → Prop
  | non : Dx H .non .none
  | bl (b : Bool) : Dx H (.bl b) (.bool b)
  | int (i : Int) : Dx H (.int i) (.int i)
  | str (x : Str) : Dx H (.str x) (.str x)
  | lst {a : Addr} {xs : List V} {ds : List PyData} : H a = some (.lst xs) → DxAll H xs ds → Dx H (.ref a) (.list ds)
  | tup {a : Addr} {xs : List V} {ds : List PyData} : H a = some (.tup xs) → DxAll H xs ds → Dx H (.ref a) (.tuple ds)
  | dic {a : Addr} : Rd H a (.dK []) → Dx H (.ref a) (.dict [])
inductive DxAll (H : Hp) : List V → List PyData → Prop
  | nil : DxAll H [] []
  | cons {v : V} {vs : List V} {d : PyData} {ds : List PyData} : Dx H v d → DxAll H vs ds → DxAll H (v :: vs) (d :: ds)
end
section
variable {H H' : Hp} {K : Fr}
theorem rd_same (s : Same H H') {a : Addr} {u : HO} (h : Rd H a u) : Rd H' a u := by
  rcases h with h | ⟨o, h⟩
  · exact .inl (s _ _ h)
  · exact .inr ⟨o, s _ _ h⟩
mutual
theorem Dx.same (s : Same H H') : ∀ (d : PyData) (v : V), Dx H v d → Dx H' v d
  | .none, _, h => by cases h; exact .non
  | .bool b, _, h => by cases h; exact .bl b
  | .int i, _, h => by cases h; exact .int i
  | .str x, _, h => by cases h; exact .str x
  | .list ds, _, h => by
    cases h with
    | lst e a => exact .lst (s _ _ e) (DxAll.same s ds _ a)
  | .tuple ds, _, h => by
    cases h with
    | tup e a => exact .tup (s _ _ e) (DxAll.same s ds _ a)
  | .dict _, _, h => by
    cases h with
    | dic e => exact .dic (rd_same s e)
theorem DxAll.same (s : Same H H') : ∀ (ds : List PyData) (vs : List V), DxAll H vs ds → DxAll H' vs ds
  | [], _, h => by cases h; exact .nil
  | d :: ds, _, h => by
    cases h with
    | cons a b => exact .cons (Dx.same s d _ a) (DxAll.same s ds _ b)
end
mutual
theorem Dx.dp : ∀ (d : PyData) (v : V), Dx H v d → d.hasDict = false → Dp K H v d
  | .none, _, h, _ => by cases h; exact .non
  | .bool b, _, h, _ => by cases h; exact .bl b
  | .int i, _, h, _ => by cases h; exact .int i
  | .str x, _, h, _ => by cases h; exact .str x
  | .list ds, _, h, n => by
    cases h with
    | lst e a => exact .lst (SqL.of e) (DxAll.dp ds _ a (by rw [PyData.hasDict] at n; exact n))
  | .tuple ds, _, h, n => by
    cases h with
    | tup e a => exact .tup (SqT.of e) (DxAll.dp ds _ a (by rw [PyData.hasDict] at n; exact n))
  | .dict _, _, h, n => by rw [PyData.hasDict] at n; cases n
theorem DxAll.dp : ∀ (ds : List PyData) (vs : List V), DxAll H vs ds → PyData.hasDictAll ds = false → DpAll K H vs ds
  | [], _, h, _ => by cases h; exact .nil
  | d :: ds, _, h, n => by
    rw [PyData.hasDictAll, Bool.or_eq_false_iff] at n
    cases h with
    | cons a b => exact .cons (Dx.dp d _ a n.1) (DxAll.dp ds _ b n.2)
end
theorem DxAll.len : ∀ {vs : List V} {ds : List PyData}, DxAll H vs ds → vs.length = ds.length
  | _, _, .nil => rfl
  | _, _, .cons _ t => congrArg Nat.succ (DxAll.len t)
theorem DxAll.get : ∀ {vs : List V} {ds : List PyData} {i : Nat} {d : PyData}, DxAll H vs ds → ds[i]? = some d → ∃ v, vs[i]? = some v ∧ Dx H v d
  | _, _, _, _, .nil, h => by simp at h
  | _, _, 0, _, .cons a _, h => by
    have e := Option.some.inj h
    subst e
    exact ⟨_, rfl, a⟩
  | _, _, i + 1, _, .cons _ t, h => DxAll.get t (i := i) h
theorem DxAll.getv : ∀ {vs : List V} {ds : List PyData} {i : Nat} {v : V}, DxAll H vs ds → vs[i]? = some v → ∃ d, ds[i]? = some d ∧ Dx H v d
  | _, _, _, _, .nil, h => by simp at h
  | _, _, 0, _, .cons a _, h => by
    have e := Option.some.inj h
    subst e
    exact ⟨_, rfl, a⟩
  | _, _, i + 1, _, .cons _ t, h => DxAll.getv t (i := i) h
theorem DxAll.app : ∀ {vs us : List V} {ds es : List PyData}, DxAll H vs ds → DxAll H us es → DxAll H (vs ++ us) (ds ++ es)
  | _, _, _, _, .nil, h => h
  | _, _, _, _, .cons a t, h => .cons a (DxAll.app t h)
theorem DxAll.take : ∀ {vs : List V} {ds : List PyData} (n : Nat), DxAll H vs ds → DxAll H (vs.take n) (ds.take n)
  | _, _, 0, _ => by rw [List.take_zero, List.take_zero]; exact .nil
  | _, _, _ + 1, .nil => .nil
  | _, _, n + 1, .cons a t => .cons a (DxAll.take n t)
theorem DxAll.drop : ∀ {vs : List V} {ds : List PyData} (n : Nat), DxAll H vs ds → DxAll H (vs.drop n) (ds.drop n)
  | _, _, 0, h => h
  | _, _, _ + 1, .nil => .nil
  | _, _, n + 1, .cons _ t => DxAll.drop n t
theorem DxAll.rev {vs : List V} {ds : List PyData} (h : DxAll H vs ds) : DxAll H vs.reverse ds.reverse := by
  have go : ∀ {vs : List V} {ds : List PyData}, DxAll H vs ds → DxAll H vs.reverse ds.reverse := by
    intro vs
    induction vs with
    | nil => intro ds h; cases h; exact .nil
    | cons v vs ih =>
      intro ds h
      cases h with
      | cons a t =>
        rw [List.reverse_cons, List.reverse_cons]
        exact (ih t).app (.cons a .nil)
  exact go h
theorem DxAll.set : ∀ {vs : List V} {ds : List PyData} {v : V} {d : PyData} (i : Nat), DxAll H vs ds → Dx H v d → DxAll H (vs.set i v) (ds.set i d)
  | _, _, _, _, _, .nil, _ => .nil
  | _, _, _, _, 0, .cons _ t, h => .cons h t
  | _, _, _, _, i + 1, .cons a t, h => .cons a (DxAll.set i t h)
theorem DxAll.snoc {vs : List V} {ds : List PyData} {v : V} {d : PyData} (h : DxAll H vs ds) (a : Dx H v d) : DxAll H (vs ++ [v]) (ds ++ [d]) := h.app (.cons a .nil)
theorem dx_ints : ∀ (l : List Int), DxAll H (l.map V.int) (l.map PyData.int)
  | [] => .nil
  | i :: l => .cons (.int i) (dx_ints l)
theorem DxAll.ints : ∀ {l : List Int} {vs : List V}, DxAll H vs (l.map PyData.int) → vs = l.map V.int
  | [], _, h => by cases h; rfl
  | i :: l, _, h => by
    cases h with
    | cons a t =>
      cases a
      rw [DxAll.ints t]
      rfl
/-- its type -/
def tyD : PyData → Value
  | .none => .type "NoneType"
  | .bool _ => .type "bool"
  | .int _ => .type "int"
  | .str _ => .type "str"
  | .list _ => .type "list"
  | .tuple _ => .type "tuple"
  | .dict _ => .type "dict"
theorem Dx.ty {v : V} {d : PyData} (h : Dx H v d) : TyX K H v (tyD d) := by
  cases h with
  | non => exact .base .non
  | bl b => exact .base (.bl b)
  | int i => exact .base (.int i)
  | str x => exact .base (.str x)
  | lst e _ => exact .base (.lst e)
  | tup e _ => exact .base (.tup e)
  | dic e =>
    rcases e with e | ⟨o, e⟩
    · exact .base (.dK e)
    · exact .fDict e
end
/-! ### what is true of a value and stays true where objects are added -/
structure VP where
  at_ : Hp → V → Prop
  mono : ∀ {H H' : Hp} {v : V}, Same H H' → at_ H v → at_ H' v
def vD (d : PyData) : VP := ⟨fun H v => Dx H v d, fun s h => Dx.same s d _ h⟩
def vX (p : PyData → Prop) : VP := ⟨fun H v => ∃ d, p d ∧ Dx H v d, fun s ⟨d, hd, h⟩ => ⟨d, hd, Dx.same s d _ h⟩⟩
abbrev vI (i : Int) : VP := vD (.int i)
abbrev vB (b : Bool) : VP := vD (.bool b)
abbrev vL (ds : List PyData) : VP := vD (.list ds)
abbrev vT (ds : List PyData) : VP := vD (.tuple ds)
abbrev AllP (H : Hp) : List VP → List V → Prop := Paired fun P v => P.at_ H v
theorem AllP.same {H H' : Hp} (s : Same H H') : ∀ {Ps : List VP} {vs : List V}, AllP H Ps vs → AllP H' Ps vs
  | _, _, .nil => .nil
  | _, _, .cons a t => .cons (VP.mono _ s a) (AllP.same s t)
/-! ### what may change around: the law's pool, and objects that are still being made -/
def PoolAt (H : Hp) (p : Addr) : Prop := ∃ a b : Int, H p = some (.lst [.int a, .int b]) ∧ 0 ≤ b ∧ b ≤ 2147483647
structure Vol where
  pool : Option Addr
  S : Addr → Prop
  sub : ∀ p, pool = some p → S p
  /-- tables of code objects, and the names that they tell -/
  T : List (Addr × Str)
  subT : ∀ p, p ∈ T → S p.1
/-- what an evaluation may change: the pool, and tables -/
def Vol.V (X : Vol) (b : Addr) : Prop := X.pool = some b ∨ ∃ q, (b, q) ∈ X.T
theorem Vol.subV (X : Vol) (b : Addr) (h : X.V b) : X.S b := by
  rcases h with h | ⟨q, h⟩
  · exact X.sub b h
  · exact X.subT _ h
/-- no table, no thing told by a condition -/
def Pl : HO → Prop
  | .tbl _ => False
  | .ext _ => False
  | _ => True
theorem plOf {H : Hp} {l : Addr} {o : HO} (h : H l = some o) (p : Pl o := by exact True.intro) : ∀ u, H l = some u → Pl u := fun u hu => by
  rw [h] at hu
  rw [← Option.some.inj hu]
  exact p
def TabI (X : Vol) (H : Hp) : Prop := LamX.Tabs X.T H ∧ (X.T ≠ [] → ∀ a, X.S a → (∀ q, (a, q) ∉ X.T) → ∀ o, H a = some o → Pl o)
structure Vol.I (X : Vol) (H : Hp) : Prop where
  live : ∀ a, X.S a → H a ≠ none
  pl : ∀ p, X.pool = some p → PoolAt H p
  ti : TabI X H
theorem tab_at {T : List (Addr × Str)} {H : Hp} (t : LamX.Tabs T H) {p : Addr × Str} (h : p ∈ T) : ∃ ps, H p.1 = some (.tbl ps) := by
  obtain ⟨ps, e, _⟩ := t p h
  exact ⟨ps, e⟩
theorem tabs_keep {T : List (Addr × Str)} {H H' : Hp} (t : LamX.Tabs T H) (k1 : ∀ p ∈ T, H' p.1 = H p.1) (k2 : ∀ c q, H c = some (LamX.CodeO c q) → H' c = some (LamX.CodeO c q)) : LamX.Tabs T H' := fun p hp => by
  obtain ⟨ps, e, a, b⟩ := t p hp
  refine ⟨ps, (k1 p hp).trans e, a, fun pos cv hc => ?_⟩
  obtain ⟨c, r, g⟩ := b pos cv hc
  exact ⟨c, r, k2 c _ g⟩
theorem TabI.nil0 {X : Vol} {H : Hp} (h : X.T = []) : TabI X H := ⟨fun p hp => (by rw [h] at hp; cases hp), fun n => absurd h n⟩
/-- one object is laid or changed -/
theorem TabI.put {X Y : Vol} {H : Hp} {l : Addr} {o : HO} (t : TabI X H) (hT : Y.T = X.T) (hS : ∀ a, Y.S a → a = l ∨ X.S a) (hl : (∀ u, H l = some u → Pl u) ∨ X.S l) (nT : ∀ q, (l, q) ∉ X.T) (p : Pl o) : TabI Y (upd H l o) := by
  by_cases h0 : X.T = []
  · exact .nil0 (hT.trans h0)
  · have pl : ∀ u, H l = some u → Pl u := by
      rcases hl with h | h
      · exact h
      · exact t.2 h0 l h nT
    refine ⟨?_, fun _ a ha n u hu => ?_⟩
    · rw [hT]
      refine tabs_keep t.1 (fun p hp => upd_ne fun z => nT p.2 (by rw [← z]; exact hp)) fun c q hc => ?_
      rw [upd_ne fun z => ?_]
      · exact hc
      · rw [z] at hc
        exact pl _ hc
    · by_cases z : a = l
      · rw [z, upd_same] at hu
        rw [← Option.some.inj hu]
        exact p
      · rw [upd_ne z] at hu
        rcases hS a ha with h | h
        · exact absurd h z
        · exact t.2 h0 a h (by rw [← hT]; exact n) u hu
theorem TabI.fresh {X : Vol} {H : Hp} {l : Addr} (t : TabI X H) (h : H l = none) : ∀ q, (l, q) ∉ X.T := fun q hq => by
  obtain ⟨ps, e⟩ := tab_at t.1 hq
  rw [show H l = some (.tbl ps) from e] at h
  cases h
/-- all objects that stood there stand -/
theorem TabI.same {X : Vol} {H H' : Hp} (s : Same H H') (live : ∀ a, X.S a → H a ≠ none) (t : TabI X H) : TabI X H' := by
  refine ⟨t.1.ext s, fun h0 a ha n u hu => ?_⟩
  cases q : H a with
  | none => exact absurd q (live a ha)
  | some o =>
    have e := s a o q
    rw [hu] at e
    rw [Option.some.inj e]
    exact t.2 h0 a ha n o q
/-- .. where less may change -/
theorem TabI.less {X Y : Vol} {H : Hp} (t : TabI X H) (hT : Y.T = X.T) (hS : ∀ a, Y.S a → X.S a) : TabI Y H := ⟨by rw [hT]; exact t.1, fun h0 a ha n u hu => t.2 (by rw [← hT]; exact h0) a (hS a ha) (by rw [← hT]; exact n) u hu⟩
open Classical in
noncomputable def Vol.wo (X : Vol) (H : Hp) : Hp := fun a => if X.S a then none else H a
/-- H1 behind H: what stood there (the pool apart) stands; what may change now is what might ahead, or new -/
structure Sub (X : Vol) (H : Hp) (Y : Vol) (H1 : Hp) : Prop where
  pool : Y.pool = X.pool
  tt : Y.T = X.T
  up : ∀ a, X.S a → Y.S a
  dn : ∀ a, Y.S a → X.S a ∨ H a = none
  old : ∀ b o, ¬ X.V b → H b = some o → H1 b = some o
  inv : Y.I H1
abbrev Ext (X : Vol) (H H' : Hp) : Prop := Sub X H X H'
section
variable {X Y Z : Vol} {H H' H1 H2 : Hp}
theorem wo_in {a : Addr} (h : X.S a) : X.wo H a = none := by unfold Vol.wo; rw [if_pos h]
theorem wo_out {a : Addr} (h : ¬ X.S a) : X.wo H a = H a := by unfold Vol.wo; rw [if_neg h]
theorem wo_some {a : Addr} {o : HO} (h : X.wo H a = some o) : H a = some o ∧ ¬ X.S a := by
  by_cases hs : X.S a
  · rw [wo_in hs] at h; cases h
  · rw [wo_out hs] at h; exact ⟨h, hs⟩
theorem wo_le : Same (X.wo H) H := fun _ _ h => (wo_some h).1
theorem Sub.wo (e : Sub X H Y H') : Same (X.wo H) (Y.wo H') := fun b o h => by
  obtain ⟨h1, h2⟩ := wo_some h
  have h3 : ¬ Y.S b := fun z => by
    rcases e.dn b z with z | z
    · exact h2 z
    · rw [z] at h1; cases h1
  rw [wo_out h3]
  exact e.old b o (fun m => h2 (X.subV _ m)) h1
theorem Sub.refl (i : X.I H) : Ext X H H := ⟨rfl, rfl, fun _ h => h, fun _ h => .inl h, fun _ _ _ h => h, i⟩
theorem Sub.vv (a : Sub X H Y H1) (c : Addr) : Y.V c ↔ X.V c := by
  unfold Vol.V
  rw [a.pool, a.tt]
theorem Sub.trans (a : Sub X H Y H1) (b : Sub Y H1 Z H2) : Sub X H Z H2 := by
  refine ⟨b.pool.trans a.pool, b.tt.trans a.tt, fun c h => b.up c (a.up c h), fun c h => ?_, fun c o n h => b.old c o (fun z => n ((a.vv c).mp z)) (a.old c o n h), b.inv⟩
  rcases b.dn c h with h | h
  · exact a.dn c h
  · by_cases hp : X.V c
    · exact .inl (X.subV _ hp)
    · right
      cases q : H c with
      | none => rfl
      | some o => rw [a.old c o hp q] at h; cases h
theorem I_same (s : Same H H') (i : X.I H) : X.I H' := by
  refine ⟨fun a ha => ?_, fun p hp => ?_, i.ti.same s i.live⟩
  · cases q : H a with
    | none => exact absurd q (i.live a ha)
    | some o => rw [s a o q]; exact fun z => nomatch z
  · obtain ⟨a, b, h, r⟩ := i.pl p hp
    exact ⟨a, b, s _ _ h, r⟩
/-- an object that may not change is changed all the same (a dict is locked) -/
theorem I_upd {a : Addr} {o0 o : HO} (i : X.I H) (h : H a = some o0) (n : ¬ X.S a) (p0 : Pl o0 := by exact True.intro) (p : Pl o := by exact True.intro) : X.I (upd H a o) := by
  refine ⟨fun b hb => ?_, fun b hb => ?_, i.ti.put rfl (fun _ z => .inr z) (.inl fun u hu => by rw [h] at hu; rw [← Option.some.inj hu]; exact p0) (fun q hq => n (X.subT _ hq)) p⟩
  · rw [upd_ne fun (z : b = a) => n (z ▸ hb)]
    exact i.live b hb
  · obtain ⟨x, y, q, r⟩ := i.pl b hb
    refine ⟨x, y, ?_, r⟩
    rw [upd_ne fun (z : b = a) => n (z ▸ X.sub b hb)]
    exact q
theorem Sub.same (s : Same H H') (i : X.I H) : Ext X H H' := ⟨rfl, rfl, fun _ h => h, fun _ h => .inl h, fun b o _ h => s b o h, I_same s i⟩
theorem same_new' {p : Addr} {o : HO} (h : H p = none) : Same H (upd H p o) := fun b u e => by
  rw [upd_ne (ne_of_none e h)]
  exact e
theorem Sub.new {p : Addr} {o : HO} (i : X.I H) (h : H p = none) : Ext X H (upd H p o) := .same (same_new' h) i
theorem fresh_out {p : Addr} (i : X.I H) (h : H p = none) : ¬ X.S p := fun s => i.live _ s h
theorem wo_new {p : Addr} {o : HO} (i : X.I H) (h : H p = none) : X.wo (upd H p o) p = some o := by
  rw [wo_out (fresh_out i h), upd_same]
theorem Sub.upP {P : VP} {v : V} (e : Sub X H Y H') (h : P.at_ (X.wo H) v) : P.at_ (Y.wo H') v := P.mono e.wo h
theorem Sub.upD {d : PyData} {v : V} (e : Sub X H Y H') (h : Dx (X.wo H) v d) : Dx (Y.wo H') v d := Dx.same e.wo d v h
theorem Sub.upA {ds : List PyData} {vs : List V} (e : Sub X H Y H') (h : DxAll (X.wo H) vs ds) : DxAll (Y.wo H') vs ds := DxAll.same e.wo ds vs h
/-- .. where what is being made may have changed, too -/
structure Wk (X : Vol) (H : Hp) (Y : Vol) (H1 : Hp) : Prop where
  pool : Y.pool = X.pool
  up : ∀ a, X.S a → Y.S a
  dn : ∀ a, Y.S a → X.S a ∨ H a = none
  old : ∀ b o, ¬ X.S b → H b = some o → H1 b = some o
  inv : Y.I H1
theorem Sub.wk (e : Sub X H Y H1) : Wk X H Y H1 := ⟨e.pool, e.up, e.dn, fun b o n h => e.old b o (fun z => n (X.subV _ z)) h, e.inv⟩
theorem Wk.wo (e : Wk X H Y H') : Same (X.wo H) (Y.wo H') := fun b o h => by
  obtain ⟨h1, h2⟩ := wo_some h
  have h3 : ¬ Y.S b := fun z => by
    rcases e.dn b z with z | z
    · exact h2 z
    · rw [z] at h1; cases h1
  rw [wo_out h3]
  exact e.old b o h2 h1
theorem Wk.refl (i : X.I H) : Wk X H X H := (Sub.refl i).wk
theorem Wk.trans (a : Wk X H Y H1) (b : Wk Y H1 Z H2) : Wk X H Z H2 := by
  have k : ∀ c, Y.S c → X.S c ∨ H c = none := a.dn
  refine ⟨b.pool.trans a.pool, fun c h => b.up c (a.up c h), fun c h => ?_, fun c o n h => b.old c o (fun z => ?_) (a.old c o n h), b.inv⟩
  · rcases b.dn c h with h | h
    · exact a.dn c h
    · by_cases hs : X.S c
      · exact .inl hs
      · right
        cases q : H c with
        | none => rfl
        | some o => rw [a.old c o hs q] at h; cases h
  · rcases a.dn c z with z | z
    · exact n z
    · rw [z] at h; cases h
theorem Wk.upP {P : VP} {v : V} (e : Wk X H Y H') (h : P.at_ (X.wo H) v) : P.at_ (Y.wo H') v := P.mono e.wo h
theorem Wk.upD {d : PyData} {v : V} (e : Wk X H Y H') (h : Dx (X.wo H) v d) : Dx (Y.wo H') v d := Dx.same e.wo d v h
theorem Wk.upA {ds : List PyData} {vs : List V} (e : Wk X H Y H') (h : DxAll (X.wo H) vs ds) : DxAll (Y.wo H') vs ds := DxAll.same e.wo ds vs h
/-- one more object that is being made -/
def Vol.add (X : Vol) (l : Addr) : Vol := ⟨X.pool, fun a => X.S a ∨ a = l, fun p h => .inl (X.sub p h), X.T, fun p h => .inl (X.subT p h)⟩
theorem Sub.add {l : Addr} {o : HO} (i : X.I H) (h : H l = none) (p : Pl o := by exact True.intro) : Sub X H (X.add l) (upd H l o) := by
  refine ⟨rfl, rfl, fun a z => .inl z, fun a z => ?_, fun b u _ e => same_new' h b u e, ⟨fun a z => ?_, fun p hp => ?_, i.ti.put rfl (fun a z => z.symm) (.inl fun u hu => by rw [h] at hu; cases hu) (i.ti.fresh h) p⟩⟩
  · rcases z with z | rfl
    · exact .inl z
    · exact .inr h
  · by_cases ha : a = l
    · subst ha; rw [upd_same]; exact fun z => nomatch z
    · rw [upd_ne ha]
      rcases z with z | z
      · exact i.live a z
      · exact absurd z ha
  · obtain ⟨a, b, q, r⟩ := i.pl p hp
    exact ⟨a, b, same_new' h _ _ q, r⟩
/-- it changes -/
theorem Sub.put {l : Addr} {o : HO} (i : X.I H) (e : Sub X H (Y.add l) H1) (hl : H l = none) (p : Pl o := by exact True.intro) : Sub X H (Y.add l) (upd H1 l o) := by
  refine ⟨e.pool, e.tt, e.up, e.dn, fun b u n q => ?_, ⟨fun a z => ?_, fun p hp => ?_, e.inv.ti.put rfl (fun _ z => .inr z) (.inr (.inr rfl)) (fun q hq => i.ti.fresh hl q (by rw [← e.tt]; exact hq)) p⟩⟩
  · rw [upd_ne (ne_of_none q hl)]
    exact e.old b u n q
  · by_cases ha : a = l
    · subst ha; rw [upd_same]; exact fun z => nomatch z
    · rw [upd_ne ha]; exact e.inv.live a z
  · obtain ⟨a, b, q, r⟩ := e.inv.pl p hp
    refine ⟨a, b, ?_, r⟩
    rw [upd_ne]
    · exact q
    · rintro rfl
      have h1 : X.pool = some p := e.pool.symm.trans hp
      exact i.live _ (X.sub _ h1) hl
end
/-- nothing may change -/
def pure0 (S : Addr → Prop) : Vol := ⟨none, S, fun _ h => (nomatch h), [], fun _ h => (nomatch h)⟩
theorem pure0.V {S : Addr → Prop} {b : Addr} : ¬ (pure0 S).V b := fun z => by
  rcases z with z | ⟨_, z⟩
  · exact nomatch (show (none : Option Addr) = some b from z)
  · exact nomatch (show (b, _) ∈ ([] : List (Addr × Str)) from z)
theorem pure0.I {S : Addr → Prop} {H : Hp} (h : ∀ a, S a → H a ≠ none) : (pure0 S).I H := ⟨h, fun _ h => (nomatch h), .nil0 rfl⟩
theorem pure0.same {S : Addr → Prop} {H H' : Hp} {Y : Vol} (e : Sub (pure0 S) H Y H') : Same H H' := fun b o h => e.old b o pure0.V h
/-! ### evaluating -/
def Ev (X : Vol) (te : TE) (σ : L2.St) (H : Hp) (P : VP) : Prop := ∀ (Y : Vol) (H1 : Hp), Sub X H Y H1 → ∀ Q : VK, (∀ v H2, Ext Y H1 H2 → P.at_ (Y.wo H2) v → Q v H2) → te σ H1 Q
def EvT (X : Vol) (tt : TT) (σ : L2.St) (H : Hp) (b : Bool) : Prop := ∀ (Y : Vol) (H1 : Hp), Sub X H Y H1 → ∀ Q : Bool → Hp → Prop, (∀ H2, Ext Y H1 H2 → Q b H2) → tt σ H1 Q
def EvA (X : Vol) (ta : TA) (σ : L2.St) (H : Hp) (Ps : List VP) : Prop := ∀ (Y : Vol) (H1 : Hp), Sub X H Y H1 → ∀ Q : List V → Hp → Prop, (∀ vs H2, Ext Y H1 H2 → AllP (Y.wo H2) Ps vs → Q vs H2) → ta σ H1 Q
def EvAd (X : Vol) (ta : TA) (σ : L2.St) (H : Hp) (ds : List PyData) : Prop := ∀ (Y : Vol) (H1 : Hp), Sub X H Y H1 → ∀ Q : List V → Hp → Prop, (∀ vs H2, Ext Y H1 H2 → DxAll (Y.wo H2) vs ds → Q vs H2) → ta σ H1 Q
def EvO (X : Vol) (to : TO) (σ : L2.St) (H : Hp) (o : Option Int) : Prop := ∀ (Y : Vol) (H1 : Hp), Sub X H Y H1 → ∀ Q : Option Int → Hp → Prop, (∀ H2, Ext Y H1 H2 → Q o H2) → to σ H1 Q
section
variable {X : Vol} {σ : L2.St} {H H' : Hp} {ta tb tc te : TE} {t u : TT} {P P' : VP} {K : Fr} {a b c : Bool} {i j k : Int} {d e : PyData} {ds es : List PyData}
theorem Ev.mono {Y : Vol} (x : Sub X H Y H') (h : Ev X te σ H P) : Ev Y te σ H' P := fun Z H1 e => h Z H1 (x.trans e)
theorem EvT.mono {Y : Vol} (x : Sub X H Y H') (h : EvT X t σ H b) : EvT Y t σ H' b := fun Z H1 e => h Z H1 (x.trans e)
theorem Ev.go {Q : VK} (h : Ev X te σ H P) (i : X.I H) (q : ∀ v H2, Ext X H H2 → P.at_ (X.wo H2) v → Q v H2) : te σ H Q := h X H (.refl i) Q q
theorem EvT.go {Q : Bool → Hp → Prop} (h : EvT X t σ H b) (i : X.I H) (q : ∀ H2, Ext X H H2 → Q b H2) : t σ H Q := h X H (.refl i) Q q
theorem Ev.weak (h : Ev X te σ H P) (w : ∀ H v, P.at_ H v → P'.at_ H v) : Ev X te σ H P' := fun Y H1 e Q q => h Y H1 e Q fun v H2 e2 p => q v H2 e2 (w _ _ p)
theorem Ev.cast {d' : PyData} (h : Ev X te σ H (vD d)) (w : d = d') : Ev X te σ H (vD d') := w ▸ h
theorem EvT.cast (h : EvT X t σ H a) (w : a = b) : EvT X t σ H b := w ▸ h
theorem ev_var {n : Nat} {v : V} (h : σ[n]? = some (some v)) (p : P.at_ (X.wo H) v) : Ev X (tVar n) σ H P := fun Y H1 e Q q => ⟨v, h, q v H1 (.refl e.inv) (e.upP p)⟩
theorem ev_int : Ev X (tC (.int i)) σ H (vI i) := fun Y H1 e Q q => q _ H1 (.refl e.inv) (.int i)
theorem ev_bl : Ev X (tC (.bl b)) σ H (vB b) := fun Y H1 e Q q => q _ H1 (.refl e.inv) (.bl b)
theorem ev_non : Ev X (tC .non) σ H (vD .none) := fun Y H1 e Q q => q _ H1 (.refl e.inv) .non
theorem ev_str {s : Str} : Ev X (tC (.str s)) σ H (vD (.str s)) := fun Y H1 e Q q => q _ H1 (.refl e.inv) (.str s)
/-- two operands -/
theorem ev_op2 {r : R2} (ha : Ev X ta σ H P) (hb : Ev X tb σ H P') {R : VP} (hr : ∀ Y x y H1, Sub X H Y H1 → P.at_ (Y.wo H1) x → P'.at_ (Y.wo H1) y → ∀ Q : VK, (∀ v H2, Ext Y H1 H2 → R.at_ (Y.wo H2) v → Q v H2) → r x y H1 Q) : Ev X (tOp r ta tb) σ H R := fun Y H1 e Q q =>
  ha Y H1 e _ fun x H2 e2 p2 => hb Y H2 (e.trans e2) _ fun y H3 e3 p3 => hr Y x y H3 ((e.trans e2).trans e3) (e3.upP p2) p3 Q fun v H4 e4 p4 => q v H4 ((e2.trans e3).trans e4) p4
theorem ev_op1 {r : V → Hp → VK → Prop} (ha : Ev X ta σ H P) {R : VP} (hr : ∀ Y x H1, Sub X H Y H1 → P.at_ (Y.wo H1) x → ∀ Q : VK, (∀ v H2, Ext Y H1 H2 → R.at_ (Y.wo H2) v → Q v H2) → r x H1 Q) : Ev X (tUn r ta) σ H R := fun Y H1 e Q q =>
  ha Y H1 e _ fun x H2 e2 p2 => hr Y x H2 (e.trans e2) p2 Q fun v H4 e4 p4 => q v H4 (e2.trans e4) p4
theorem ev_I0 {g : Int → Int → Int} (ha : Ev X ta σ H (vI i)) (hb : Ev X tb σ H (vI j)) : Ev X (tOp (rI0 fun i j => .int (g i j)) ta tb) σ H (vI (g i j)) := ev_op2 ha hb fun Y x y H1 e px py Q q => by
  cases px; cases py
  exact ⟨i, j, rfl, rfl, q _ H1 (.refl e.inv) (.int _)⟩
theorem ev_I {C : Int → Int → Prop} {g : Int → Int → Int} (ha : Ev X ta σ H (vI i)) (hb : Ev X tb σ H (vI j)) (hc : C i j) : Ev X (tOp (rI C fun i j => .int (g i j)) ta tb) σ H (vI (g i j)) := ev_op2 ha hb fun Y x y H1 e px py Q q => by
  cases px; cases py
  exact ⟨i, j, rfl, rfl, hc, q _ H1 (.refl e.inv) (.int _)⟩
theorem ev_neg {g : Int → Int} (ha : Ev X ta σ H (vI i)) : Ev X (tUn (rU fun i => .int (g i)) ta) σ H (vI (g i)) := ev_op1 ha fun Y x H1 e px Q q => by
  cases px
  exact ⟨i, rfl, q _ H1 (.refl e.inv) (.int _)⟩
theorem ev_cmp {g : Int → Int → Bool} (ha : Ev X ta σ H (vI i)) (hb : Ev X tb σ H (vI j)) : Ev X (tOp (rI0 fun i j => .bl (g i j)) ta tb) σ H (vB (g i j)) := ev_op2 ha hb fun Y x y H1 e px py Q q => by
  cases px; cases py
  exact ⟨i, j, rfl, rfl, q _ H1 (.refl e.inv) (.bl _)⟩
theorem dVint (i j : Int) : decide (V.int i = V.int j) = decide (i = j) := by
  by_cases h : i = j
  · subst h; simp
  · rw [decide_eq_false h, decide_eq_false fun z => h (V.int.inj z)]
theorem dVstr (i j : Str) : decide (V.str i = V.str j) = decide (i = j) := by
  by_cases h : i = j
  · subst h; simp
  · rw [decide_eq_false h, decide_eq_false fun z => h (V.str.inj z)]
theorem dVbl (i j : Bool) : decide (V.bl i = V.bl j) = decide (i = j) := by
  by_cases h : i = j
  · subst h; simp
  · rw [decide_eq_false h, decide_eq_false fun z => h (V.bl.inj z)]
theorem ev_eqI (ha : Ev X ta σ H (vI i)) (hb : Ev X tb σ H (vI j)) : Ev X (tOp rEq ta tb) σ H (vB (decide (i = j))) := ev_op2 ha hb fun Y x y H1 e px py Q q => by
  cases px; cases py
  refine ⟨rfl, ?_⟩
  rw [dVint]
  exact q _ H1 (.refl e.inv) (.bl _)
theorem ev_neI (ha : Ev X ta σ H (vI i)) (hb : Ev X tb σ H (vI j)) : Ev X (tOp rNe ta tb) σ H (vB (!decide (i = j))) := ev_op2 ha hb fun Y x y H1 e px py Q q => by
  cases px; cases py
  refine ⟨rfl, ?_⟩
  rw [dVint]
  exact q _ H1 (.refl e.inv) (.bl _)
theorem ev_eqS {s z : Str} (ha : Ev X ta σ H (vD (.str s))) (hb : Ev X tb σ H (vD (.str z))) : Ev X (tOp rEq ta tb) σ H (vB (decide (s = z))) := ev_op2 ha hb fun Y x y H1 e px py Q q => by
  cases px; cases py
  refine ⟨rfl, ?_⟩
  rw [dVstr]
  exact q _ H1 (.refl e.inv) (.bl _)
theorem ev_neS {s z : Str} (ha : Ev X ta σ H (vD (.str s))) (hb : Ev X tb σ H (vD (.str z))) : Ev X (tOp rNe ta tb) σ H (vB (!decide (s = z))) := ev_op2 ha hb fun Y x y H1 e px py Q q => by
  cases px; cases py
  refine ⟨rfl, ?_⟩
  rw [dVstr]
  exact q _ H1 (.refl e.inv) (.bl _)
theorem ev_eqB (ha : Ev X ta σ H (vB a)) (hb : Ev X tb σ H (vB b)) : Ev X (tOp rEq ta tb) σ H (vB (decide (a = b))) := ev_op2 ha hb fun Y x y H1 e px py Q q => by
  cases px; cases py
  refine ⟨rfl, ?_⟩
  rw [dVbl]
  exact q _ H1 (.refl e.inv) (.bl _)
theorem ev_neB (ha : Ev X ta σ H (vB a)) (hb : Ev X tb σ H (vB b)) : Ev X (tOp rNe ta tb) σ H (vB (!decide (a = b))) := ev_op2 ha hb fun Y x y H1 e px py Q q => by
  cases px; cases py
  refine ⟨rfl, ?_⟩
  rw [dVbl]
  exact q _ H1 (.refl e.inv) (.bl _)
theorem nd_shaped {d : PyData} (h : SeqAt.shaped d = true) : d.hasDict = false := PyData.hasDict_of_canLay d (SeqAt.canLay_of_shaped h)
theorem ev_eqD (ha : Ev X ta σ H (vD d)) (hb : Ev X tb σ H (vD e)) (sd : SeqAt.shaped d = true) (se : SeqAt.shaped e = true) : Ev X (tOp (rEqD K) ta tb) σ H (vB (PyData.eqv d e)) := ev_op2 ha hb fun Y x y H1 e px py Q q =>
  ⟨_, _, Dx.dp _ _ (Dx.same wo_le _ _ px) (nd_shaped sd), Dx.dp _ _ (Dx.same wo_le _ _ py) (nd_shaped se), sd, se, q _ H1 (.refl e.inv) (.bl _)⟩
theorem ev_neD (ha : Ev X ta σ H (vD d)) (hb : Ev X tb σ H (vD e)) (sd : SeqAt.shaped d = true) (se : SeqAt.shaped e = true) : Ev X (tOp (rNeD K) ta tb) σ H (vB (!PyData.eqv d e)) := ev_op2 ha hb fun Y x y H1 e px py Q q =>
  ⟨_, _, Dx.dp _ _ (Dx.same wo_le _ _ px) (nd_shaped sd), Dx.dp _ _ (Dx.same wo_le _ _ py) (nd_shaped se), sd, se, q _ H1 (.refl e.inv) (.bl _)⟩
/-! places -/
theorem atI_dx {H : Hp} {vs : List V} {ds : List PyData} (h : DxAll H vs ds) {i : Int} {d : PyData} (hi : atI ds i = some d) : ∃ v, atI vs i = some v ∧ Dx H v d := by
  unfold atI at *
  rw [h.len]
  cases e : ixN ds.length i with
  | none => rw [e] at hi; cases hi
  | some n =>
    rw [e] at hi
    exact h.get (i := n) hi
theorem ev_ixL (ha : Ev X ta σ H (vL ds)) (hb : Ev X tb σ H (vI i)) (hi : atI ds i = some d) : Ev X (tOp (rIxL K) ta tb) σ H (vD d) := ev_op2 ha hb fun Y x y H1 e px py Q q => by
  cases py
  cases px with
  | lst ea al =>
    obtain ⟨v, hv, hd⟩ := atI_dx al hi
    exact ⟨_, _, i, v, rfl, rfl, SqL.of (wo_le _ _ ea), hv, q _ H1 (.refl e.inv) hd⟩
theorem ev_ixT (ha : Ev X ta σ H (vT ds)) (hb : Ev X tb σ H (vI i)) (hi : atI ds i = some d) : Ev X (tOp (rIxT K) ta tb) σ H (vD d) := ev_op2 ha hb fun Y x y H1 e px py Q q => by
  cases py
  cases px with
  | tup ea al =>
    obtain ⟨v, hv, hd⟩ := atI_dx al hi
    exact ⟨_, _, i, v, rfl, rfl, SqT.of (wo_le _ _ ea), hv, q _ H1 (.refl e.inv) hd⟩
/-- in a list of ints -/
theorem inV_ints (a : Int) : ∀ l : List Int, inV (.int a) (l.map V.int) = decide (a ∈ l)
  | [] => rfl
  | b :: l => by
    have ih := inV_ints a l
    have e : inV (.int a) ((b :: l).map V.int) = ((b == a) || inV (.int a) (l.map V.int)) := rfl
    rw [e, ih]
    by_cases h : a = b
    · subst h; simp
    · have h2 : (b == a) = false := beq_eq_false_iff_ne.mpr (Ne.symm h)
      rw [h2, Bool.false_or]
      simp [h]
theorem flat_ints (l : List Int) : (l.map V.int).all flatV = true := by
  rw [List.all_map]
  exact List.all_eq_true.mpr fun _ _ => rfl
theorem ev_inI {l : List Int} (ha : Ev X ta σ H (vI i)) (hb : Ev X tb σ H (vL (l.map PyData.int))) : Ev X (tOp (rIn K false) ta tb) σ H (vB (decide (i ∈ l))) := ev_op2 ha hb fun Y x y H1 e px py Q q => by
  cases px
  cases py with
  | lst ea al =>
    have hv := al.ints
    subst hv
    refine ⟨_, _, rfl, .inl (SqL.of (wo_le _ _ ea)), rfl, flat_ints l, ?_⟩
    rw [if_neg Bool.false_ne_true, inV_ints]
    exact q _ H1 (.refl e.inv) (.bl _)
theorem ev_niI {l : List Int} (ha : Ev X ta σ H (vI i)) (hb : Ev X tb σ H (vL (l.map PyData.int))) : Ev X (tOp (rIn K true) ta tb) σ H (vB (!decide (i ∈ l))) := ev_op2 ha hb fun Y x y H1 e px py Q q => by
  cases px
  cases py with
  | lst ea al =>
    have hv := al.ints
    subst hv
    refine ⟨_, _, rfl, .inl (SqL.of (wo_le _ _ ea)), rfl, flat_ints l, ?_⟩
    rw [if_pos rfl, inV_ints]
    exact q _ H1 (.refl e.inv) (.bl _)
theorem ev_inT {l : List Int} (ha : Ev X ta σ H (vI i)) (hb : Ev X tb σ H (vT (l.map PyData.int))) : Ev X (tOp (rIn K false) ta tb) σ H (vB (decide (i ∈ l))) := ev_op2 ha hb fun Y x y H1 e px py Q q => by
  cases px
  cases py with
  | tup ea al =>
    have hv := al.ints
    subst hv
    refine ⟨_, _, rfl, .inr (SqT.of (wo_le _ _ ea)), rfl, flat_ints l, ?_⟩
    rw [if_neg Bool.false_ne_true, inV_ints]
    exact q _ H1 (.refl e.inv) (.bl _)
theorem ev_niT {l : List Int} (ha : Ev X ta σ H (vI i)) (hb : Ev X tb σ H (vT (l.map PyData.int))) : Ev X (tOp (rIn K true) ta tb) σ H (vB (!decide (i ∈ l))) := ev_op2 ha hb fun Y x y H1 e px py Q q => by
  cases px
  cases py with
  | tup ea al =>
    have hv := al.ints
    subst hv
    refine ⟨_, _, rfl, .inr (SqT.of (wo_le _ _ ea)), rfl, flat_ints l, ?_⟩
    rw [if_pos rfl, inV_ints]
    exact q _ H1 (.refl e.inv) (.bl _)
/-- list + list -/
theorem ev_cat (ha : Ev X ta σ H (vL ds)) (hb : Ev X tb σ H (vL es)) (hl : ds.length + es.length ≤ 40000) : Ev X (tOp rCat ta tb) σ H (vL (ds ++ es)) := ev_op2 ha hb fun Y x y H1 e px py Q q => by
  cases px with
  | lst ea al =>
    cases py with
    | lst eb bl =>
      rename_i p1 xs1 p2 xs2
      refine ⟨_, _, _, _, rfl, rfl, wo_le _ _ ea, wo_le _ _ eb, ?_, fun p hp => ?_⟩
      · rw [al.len, bl.len]
        exact Nat.le_trans hl (by decide)
      · have x2 := Sub.new (X := Y) (o := .lst (xs1 ++ xs2)) e.inv hp
        exact q _ _ x2 (.lst (wo_new e.inv hp) (x2.upA (al.app bl)))
/-! values of truth -/
theorem ev_andV (h1 : Ev X ta σ H (vB a)) (h2 : a = true → Ev X tb σ H (vB b)) : Ev X (tAndV ta tb) σ H (vB (a && b)) := fun Y H1 e Q q => h1 Y H1 e _ fun v H2 e2 p2 => by
  cases p2
  refine ⟨a, rfl, ?_⟩
  cases a with
  | true => exact iteT (h2 rfl Y H2 (e.trans e2) Q fun v H3 e3 p3 => q v H3 (e2.trans e3) p3)
  | false => exact iteF (q _ H2 e2 (.bl false))
theorem ev_orV (h1 : Ev X ta σ H (vB a)) (h2 : a = false → Ev X tb σ H (vB b)) : Ev X (tOrV ta tb) σ H (vB (a || b)) := fun Y H1 e Q q => h1 Y H1 e _ fun v H2 e2 p2 => by
  cases p2
  refine ⟨a, rfl, ?_⟩
  cases a with
  | true => exact iteT (q _ H2 e2 (.bl true))
  | false => exact iteF (h2 rfl Y H2 (e.trans e2) Q fun v H3 e3 p3 => q v H3 (e2.trans e3) p3)
theorem ev_notV (h1 : Ev X ta σ H (vB a)) : Ev X (tNotV ta) σ H (vB (!a)) := fun Y H1 e Q q => h1 Y H1 e _ fun v H2 e2 p2 => by
  cases p2
  exact ⟨a, rfl, q _ H2 e2 (.bl _)⟩
/-! tests -/
theorem et_test (h : Ev X te σ H (vB b)) : EvT X (tTest te) σ H b := fun Y H1 e Q q => h Y H1 e _ fun v H2 e2 p2 => by
  cases p2
  exact ⟨b, rfl, q H2 e2⟩
theorem et_B (h : Ev X te σ H (vB b)) : EvT X (tB te) σ H b := fun Y H1 e Q q => h Y H1 e _ fun v H2 e2 p2 => by
  cases p2
  exact ⟨b, rfl, q H2 e2⟩
theorem et_and (h1 : EvT X t σ H a) (h2 : a = true → EvT X u σ H b) : EvT X (tAnd t u) σ H (a && b) := fun Y H1 e Q q => h1 Y H1 e _ fun H2 e2 => by
  cases a with
  | true => exact iteT (h2 rfl Y H2 (e.trans e2) Q fun H3 e3 => q H3 (e2.trans e3))
  | false => exact iteF (q H2 e2)
theorem et_or (h1 : EvT X t σ H a) (h2 : a = false → EvT X u σ H b) : EvT X (tOr t u) σ H (a || b) := fun Y H1 e Q q => h1 Y H1 e _ fun H2 e2 => by
  cases a with
  | true => exact iteT (q H2 e2)
  | false => exact iteF (h2 rfl Y H2 (e.trans e2) Q fun H3 e3 => q H3 (e2.trans e3))
theorem et_not (h1 : EvT X t σ H a) : EvT X (tNot t) σ H (!a) := fun Y H1 e Q q => h1 Y H1 e _ fun H2 e2 => q H2 e2
theorem et_yes : EvT X tYes σ H true := fun Y H1 e Q q => q H1 (.refl e.inv)
theorem ev_if (h : EvT X t σ H b) (h1 : b = true → Ev X ta σ H P) (h2 : b = false → Ev X tb σ H P) : Ev X (tIf t ta tb) σ H P := fun Y H1 e Q q => h Y H1 e _ fun H2 e2 => by
  cases b with
  | true => exact iteT (h1 rfl Y H2 (e.trans e2) Q fun v H3 e3 p3 => q v H3 (e2.trans e3) p3)
  | false => exact iteF (h2 rfl Y H2 (e.trans e2) Q fun v H3 e3 p3 => q v H3 (e2.trans e3) p3)
/-- a ≤ b ≤ c -/
theorem ev_chain {g g' : Int → Int → Bool} (ha : Ev X ta σ H (vI i)) (hb : Ev X tb σ H (vI j)) (hc : Ev X tc σ H (vI k)) : Ev X (tChain (rI0 fun i j => .bl (g i j)) (rI0 fun i j => .bl (g' i j)) ta tb tc) σ H (vB (g i j && g' j k)) := fun Y H1 e Q q =>
  ha Y H1 e _ fun x H2 e2 p2 => hb Y H2 (e.trans e2) _ fun y H3 e3 p3 => by
    cases p2; cases p3
    refine ⟨i, j, rfl, rfl, g i j, rfl, ?_⟩
    have q' := q
    cases hg : g i j with
    | false =>
      rw [hg, Bool.false_and] at q
      exact iteF (q _ H3 (e2.trans e3) (.bl false))
    | true =>
      rw [hg, Bool.true_and] at q
      refine iteT (hc Y H3 ((e.trans e2).trans e3) _ fun z H4 e4 p4 => ?_)
      cases p4
      exact ⟨j, k, rfl, rfl, q _ H4 ((e2.trans e3).trans e4) (.bl _)⟩
/-! arguments -/
theorem ea_nil : EvA X tNil σ H [] := fun Y H1 e Q q => q _ H1 (.refl e.inv) .nil
theorem ea_cons {tr : TA} {Ps : List VP} (h : Ev X ta σ H P) (hr : EvA X tr σ H Ps) : EvA X (tCons ta tr) σ H (P :: Ps) := fun Y H1 e Q q =>
  h Y H1 e _ fun v H2 e2 p2 => hr Y H2 (e.trans e2) _ fun vs H3 e3 p3 => q _ H3 (e2.trans e3) (.cons (e3.upP p2) p3)
theorem ed_nil : EvAd X tNil σ H [] := fun Y H1 e Q q => q _ H1 (.refl e.inv) .nil
theorem ed_cons {tr : TA} (h : Ev X ta σ H (vD d)) (hr : EvAd X tr σ H ds) : EvAd X (tCons ta tr) σ H (d :: ds) := fun Y H1 e Q q =>
  h Y H1 e _ fun v H2 e2 p2 => hr Y H2 (e.trans e2) _ fun vs H3 e3 p3 => q _ H3 (e2.trans e3) (.cons (e3.upD p2) p3)
theorem ev_lst {tr : TA} (h : EvAd X tr σ H ds) (hl : ds.length ≤ 40000) : Ev X (tLst tr) σ H (vL ds) := fun Y H1 e Q q =>
  h Y H1 e _ fun vs H2 e2 p2 => ⟨by rw [p2.len]; exact Nat.le_trans hl (by decide), fun p hp => by
    have x := Sub.new (X := Y) (o := .lst vs) e2.inv hp
    exact q _ _ (e2.trans x) (.lst (wo_new e2.inv hp) (x.upA p2))⟩
theorem ev_tup {tr : TA} (h : EvAd X tr σ H ds) (hl : ds.length ≤ 40000) : Ev X (tTup tr) σ H (vT ds) := fun Y H1 e Q q =>
  h Y H1 e _ fun vs H2 e2 p2 => ⟨by rw [p2.len]; exact Nat.le_trans hl (by decide), fun p hp => by
    have x := Sub.new (X := Y) (o := .tup vs) e2.inv hp
    exact q _ _ (e2.trans x) (.tup (wo_new e2.inv hp) (x.upA p2))⟩
/-- a built-in called -/
theorem ev_cb {r : List V → Hp → VK → Prop} {tr : TA} {Ps : List VP} (h : EvA X tr σ H Ps) (hr : ∀ Y vs H1, Sub X H Y H1 → AllP (Y.wo H1) Ps vs → ∀ Q : VK, (∀ v H2, Ext Y H1 H2 → P.at_ (Y.wo H2) v → Q v H2) → r vs H1 Q) : Ev X (tCB r tr) σ H P := fun Y H1 e Q q =>
  h Y H1 e _ fun vs H2 e2 p2 => hr Y vs H2 (e.trans e2) p2 Q fun v H3 e3 p3 => q v H3 (e2.trans e3) p3
theorem ev_cbd {r : List V → Hp → VK → Prop} {tr : TA} (h : EvAd X tr σ H ds) (hr : ∀ Y vs H1, Sub X H Y H1 → DxAll (Y.wo H1) vs ds → ∀ Q : VK, (∀ v H2, Ext Y H1 H2 → P.at_ (Y.wo H2) v → Q v H2) → r vs H1 Q) : Ev X (tCB r tr) σ H P := fun Y H1 e Q q =>
  h Y H1 e _ fun vs H2 e2 p2 => hr Y vs H2 (e.trans e2) p2 Q fun v H3 e3 p3 => q v H3 (e2.trans e3) p3
end
end Ee

namespace Ee
open PySem L2
/-! ### new objects -/
def EvN (X : Vol) (te : TE) (σ : L2.St) (H : Hp) (d : PyData) : Prop := ∀ (Y : Vol) (H1 : Hp), Sub X H Y H1 → ∀ Q : VK, (∀ l H2, H1 l = none → Ext Y H1 H2 → Dx (Y.wo H2) (.ref l) d → Q (.ref l) H2) → te σ H1 Q
section
variable {X Y : Vol} {σ : L2.St} {H H' H0 H1 : Hp} {ta tb tc te tl : TE} {t u : TT} {P P' : VP} {K : Fr} {a b c : Bool} {i j k : Int} {d e : PyData} {ds es : List PyData} {l : Addr}
theorem EvN.ev (h : EvN X te σ H d) : Ev X te σ H (vD d) := fun Y H1 e Q q => h Y H1 e Q fun l H2 _ e2 p => q _ H2 e2 p
theorem EvN.go {Q : VK} (h : EvN X te σ H d) (i : X.I H) (q : ∀ l H2, H l = none → Ext X H H2 → Dx (X.wo H2) (.ref l) d → Q (.ref l) H2) : te σ H Q := h X H (.refl i) Q q
theorem EvN.mono (x : Sub X H Y H') (h : EvN X te σ H d) : EvN Y te σ H' d := fun Z H1 e => h Z H1 (x.trans e)
theorem EvN.cast {d' : PyData} (h : EvN X te σ H d) (w : d = d') : EvN X te σ H d' := w ▸ h
/-- what a rule lays at any free place -/
theorem laid {vs : List V} {Q : VK} (i : X.I H) (a : DxAll (X.wo H) vs ds) (q : ∀ l H2, H l = none → Ext X H H2 → Dx (X.wo H2) (.ref l) (.list ds) → Q (.ref l) H2) : ∀ l, H l = none → Q (.ref l) (upd H l (.lst vs)) := fun l hl => by
  have x := Sub.new (X := X) (o := .lst vs) i hl
  exact q l _ hl x (.lst (wo_new i hl) (x.upA a))
theorem free_of (e : Ext X H H') (hl : H' l = none) : H l = none := by
  cases q : H l with
  | none => rfl
  | some o =>
    by_cases hp : X.V l
    · exact absurd hl (e.inv.live l (X.subV _ hp))
    · rw [e.old l o hp q] at hl; cases hl
theorem en_lst {tr : TA} (h : EvAd X tr σ H ds) (hl : ds.length ≤ 40000) : EvN X (tLst tr) σ H (.list ds) := fun Y H1 e Q q =>
  h Y H1 e _ fun vs H2 e2 p2 => ⟨by rw [p2.len]; exact Nat.le_trans hl (by decide), laid e2.inv p2 fun l H3 n e3 p3 => q l H3 (free_of e2 n) (e2.trans e3) p3⟩
theorem en_cat (ha : Ev X ta σ H (vL ds)) (hb : Ev X tb σ H (vL es)) (hl : ds.length + es.length ≤ 40000) : EvN X (tOp rCat ta tb) σ H (.list (ds ++ es)) := fun Y H1 e Q q =>
  ha Y H1 e _ fun x H2 e2 p2 => hb Y H2 (e.trans e2) _ fun y H3 e3 p3 => by
    cases e3.upP p2 with
    | lst ea al =>
      cases p3 with
      | lst eb bl =>
        exact ⟨_, _, _, _, rfl, rfl, wo_le _ _ ea, wo_le _ _ eb, by rw [al.len, bl.len]; exact Nat.le_trans hl (by decide), laid e3.inv (al.app bl) fun l H4 n e4 p4 => q l H4 (free_of e2 (free_of e3 n)) ((e2.trans e3).trans e4) p4⟩
theorem dx_rep {x : V} : ∀ n, Dx H x d → DxAll H (List.replicate n x) (List.replicate n d)
  | 0, _ => .nil
  | n + 1, h => .cons h (dx_rep n h)
/-! built-ins -/
theorem ev_lenL (h : Ev X te σ H (vL ds)) : Ev X (tCB (fun xs H Q => ∃ p ys, xs = [V.ref p] ∧ (SqL K H p ys ∨ SqT K H p ys) ∧ Q (.int ys.length) H) (tCons te tNil)) σ H (vI ds.length) := ev_cbd (ed_cons h ed_nil) fun Y vs H1 e p Q q => by
  cases p with
  | cons a t =>
    cases t
    cases a with
    | lst ea al => exact ⟨_, _, rfl, .inl (SqL.of (wo_le _ _ ea)), by rw [al.len]; exact q _ H1 (.refl e.inv) (.int _)⟩
theorem ev_lenT (h : Ev X te σ H (vT ds)) : Ev X (tCB (fun xs H Q => ∃ p ys, xs = [V.ref p] ∧ (SqL K H p ys ∨ SqT K H p ys) ∧ Q (.int ys.length) H) (tCons te tNil)) σ H (vI ds.length) := ev_cbd (ed_cons h ed_nil) fun Y vs H1 e p Q q => by
  cases p with
  | cons a t =>
    cases t
    cases a with
    | tup ea al => exact ⟨_, _, rfl, .inr (SqT.of (wo_le _ _ ea)), by rw [al.len]; exact q _ H1 (.refl e.inv) (.int _)⟩
theorem en_listL (h : Ev X te σ H (vL ds)) : EvN X (tCB (fun xs H Q => ∃ p ys, xs = [V.ref p] ∧ (SqL K H p ys ∨ SqT K H p ys) ∧ ∀ l, H l = none → Q (V.ref l) (upd H l (.lst ys))) (tCons te tNil)) σ H (.list ds) := fun Y H1 e Q q => h Y H1 e _ fun v H2 e2 p2 => by
  cases p2 with
  | lst ea al => exact ⟨_, _, rfl, .inl (SqL.of (wo_le _ _ ea)), laid e2.inv al fun l H3 n e3 p3 => q l H3 (free_of e2 n) (e2.trans e3) p3⟩
theorem en_listT (h : Ev X te σ H (vT ds)) : EvN X (tCB (fun xs H Q => ∃ p ys, xs = [V.ref p] ∧ (SqL K H p ys ∨ SqT K H p ys) ∧ ∀ l, H l = none → Q (V.ref l) (upd H l (.lst ys))) (tCons te tNil)) σ H (.list ds) := fun Y H1 e Q q => h Y H1 e _ fun v H2 e2 p2 => by
  cases p2 with
  | tup ea al => exact ⟨_, _, rfl, .inr (SqT.of (wo_le _ _ ea)), laid e2.inv al fun l H3 n e3 p3 => q l H3 (free_of e2 n) (e2.trans e3) p3⟩
theorem ev_min2 (ha : Ev X ta σ H (vI i)) (hb : Ev X tb σ H (vI j)) : Ev X (tCB (fun xs H Q => ∃ i j, xs = [V.int i, .int j] ∧ Q (.int (if j < i then j else i)) H) (tCons ta (tCons tb tNil))) σ H (vI (min i j)) := ev_cbd (ed_cons ha (ed_cons hb ed_nil)) fun Y vs H1 e p Q q => by
  cases p with
  | cons a t =>
    cases t with
    | cons b t =>
      cases t; cases a; cases b
      refine ⟨i, j, rfl, ?_⟩
      have e1 : (if j < i then j else i) = min i j := by split <;> omega
      rw [e1]
      exact q _ H1 (.refl e.inv) (.int _)
theorem ev_max2 (ha : Ev X ta σ H (vI i)) (hb : Ev X tb σ H (vI j)) : Ev X (tCB (fun xs H Q => ∃ i j, xs = [V.int i, .int j] ∧ Q (.int (if j > i then j else i)) H) (tCons ta (tCons tb tNil))) σ H (vI (max i j)) := ev_cbd (ed_cons ha (ed_cons hb ed_nil)) fun Y vs H1 e p Q q => by
  cases p with
  | cons a t =>
    cases t with
    | cons b t =>
      cases t; cases a; cases b
      refine ⟨i, j, rfl, ?_⟩
      have e1 : (if j > i then j else i) = max i j := by split <;> omega
      rw [e1]
      exact q _ H1 (.refl e.inv) (.int _)
theorem ev_abs (ha : Ev X ta σ H (vI i)) : Ev X (tCB (fun xs H Q => ∃ i, xs = [V.int i] ∧ Q (.int (if i < 0 then -i else i)) H) (tCons ta tNil)) σ H (vI (i.natAbs : Int)) := ev_cbd (ed_cons ha ed_nil) fun Y vs H1 e p Q q => by
  cases p with
  | cons a t =>
    cases t; cases a
    refine ⟨i, rfl, ?_⟩
    have e1 : (if i < 0 then -i else i) = (i.natAbs : Int) := by split <;> omega
    rw [e1]
    exact q _ H1 (.refl e.inv) (.int _)
theorem ev_sum {ns : List Int} (h : Ev X te σ H (vL (ns.map PyData.int))) : Ev X (tCB (rSum K) (tCons te tNil)) σ H (vI ns.sum) := ev_cbd (ed_cons h ed_nil) fun Y vs H1 e p Q q => by
  cases p with
  | cons a t =>
    cases t
    cases a with
    | lst ea al =>
      have hv := al.ints
      subst hv
      exact ⟨_, ns, rfl, SqL.of (wo_le _ _ ea), q _ H1 (.refl e.inv) (.int _)⟩
theorem DxAll.bls : ∀ {l : List Bool} {vs : List V}, DxAll H vs (l.map PyData.bool) → vs = l.map V.bl
  | [], _, h => by cases h; rfl
  | i :: l, _, h => by
    cases h with
    | cons a t =>
      cases a
      rw [DxAll.bls t]
      rfl
theorem ev_all {bs : List Bool} (h : Ev X te σ H (vL (bs.map PyData.bool))) : Ev X (tCB (rAll K) (tCons te tNil)) σ H (vB (bs.all id)) := ev_cbd (ed_cons h ed_nil) fun Y vs H1 e p Q q => by
  cases p with
  | cons a t =>
    cases t
    cases a with
    | lst ea al =>
      have hv := al.bls
      subst hv
      exact ⟨_, bs, rfl, SqL.of (wo_le _ _ ea), q _ H1 (.refl e.inv) (.bl _)⟩
theorem en_sorted {ns ms : List Int} (h : Ev X te σ H (vL (ns.map PyData.int))) (hl : ns.length < 64) (hp : ms.Perm ns) (ho : ms.Pairwise (· ≤ ·)) : EvN X (tCB (rSorted K) (tCons te tNil)) σ H (.list (ms.map PyData.int)) := fun Y H1 e Q q => h Y H1 e _ fun v H2 e2 p2 => by
  cases p2 with
  | lst ea al =>
    have hv := al.ints
    subst hv
    refine ⟨_, ns, rfl, SqL.of (wo_le _ _ ea), hl, fun ns' p hp' ho' hn => ?_⟩
    have e1 : ns' = ms := (hp'.trans hp.symm).eq_of_pairwise (le := (· ≤ ·)) (fun a b _ _ h1 h2 => Int.le_antisymm h1 h2) ho' ho
    subst e1
    exact laid e2.inv (dx_ints _) (fun l H3 n e3 p3 => q l H3 (free_of e2 n) (e2.trans e3) p3) p hn
theorem en_range (h : Ev X te σ H (vI i)) (h0 : 0 ≤ i) (h1 : i ≤ 40000) : EvN X (tLstRg (tRg1 te)) σ H (.list ((List.range i.toNat).map fun (k : Nat) => PyData.int k)) := fun Y H1 e Q q => h Y H1 e _ fun v H2 e2 p2 => by
  cases p2
  refine ⟨i, rfl, RgOk.of_le (Int.le_refl _) (by omega) (by decide) (by omega), ?_⟩
  have e1 : rgV 0 i = ((List.range i.toNat).map fun (k : Nat) => (k : Int)).map V.int := by
    unfold rgV
    rw [List.map_map]
    have e2 : (i - 0).toNat = i.toNat := by omega
    rw [e2]
    exact List.map_congr_left fun k _ => by simp
  have e3 : ((List.range i.toNat).map fun (k : Nat) => PyData.int k) = ((List.range i.toNat).map fun (k : Nat) => (k : Int)).map PyData.int := by rw [List.map_map]; rfl
  rw [e1]
  rw [e3] at q
  exact laid e2.inv (dx_ints _) fun l H3 n e3 p3 => q l H3 (free_of e2 n) (e2.trans e3) p3
/-! slices -/
theorem eo_none : EvO X tNoPart σ H none := fun Y H1 e Q q => q H1 (.refl e.inv)
theorem eo_some (h : Ev X te σ H (vI i)) : EvO X (tPart te) σ H (some i) := fun Y H1 e Q q => h Y H1 e _ fun v H2 e2 p => by
  cases p
  exact ⟨i, rfl, q H2 e2⟩
def cutD (ds : List PyData) (lo hi : Option Int) : List PyData := (ds.drop (HT.sIx ds.length 0 lo)).take (HT.sIx ds.length ds.length hi - HT.sIx ds.length 0 lo)
theorem DxAll.cut {vs : List V} {lo hi : Option Int} (h : DxAll H vs ds) : DxAll H (cutV vs lo hi) (cutD ds lo hi) := by
  unfold cutV cutD
  rw [h.len]
  exact (h.drop _).take _
theorem cut_from {n : Nat} : cutD ds (some (n : Int)) none = ds.drop n := by
  unfold cutD
  rw [HT.sIx_none, HT.sIx_nat]
  by_cases h : n ≤ ds.length
  · rw [Nat.min_eq_left h, List.take_of_length_le (by rw [List.length_drop]; exact Nat.le_refl _)]
  · rw [Nat.min_eq_right (by omega), Nat.sub_self, List.take_zero, List.drop_of_length_le (by omega)]
theorem cut_to {n : Nat} : cutD ds none (some (n : Int)) = ds.take n := by
  unfold cutD
  rw [HT.sIx_none, HT.sIx_nat, List.drop_zero, Nat.sub_zero]
  by_cases h : n ≤ ds.length
  · rw [Nat.min_eq_left h]
  · rw [Nat.min_eq_right (by omega), List.take_of_length_le (Nat.le_refl _), List.take_of_length_le (by omega)]
theorem en_sl {tlo thi : TO} {lo hi : Option Int} (h : Ev X te σ H (vL ds)) (h1 : EvO X tlo σ H lo) (h2 : EvO X thi σ H hi) : EvN X (tSl (rSlL K) te tlo thi) σ H (.list (cutD ds lo hi)) := fun Y H1 e Q q =>
  h Y H1 e _ fun v H2 e2 p2 => h1 Y H2 (e.trans e2) _ fun H3 e3 => h2 Y H3 ((e.trans e2).trans e3) _ fun H4 e4 => by
    cases (e3.trans e4).upP p2 with
    | lst ea al => exact ⟨_, _, rfl, SqL.of (wo_le _ _ ea), laid e4.inv al.cut fun l H5 n e5 p5 => q l H5 (free_of e2 (free_of e3 (free_of e4 n))) (((e2.trans e3).trans e4).trans e5) p5⟩
/-! ### promises of defs that change nothing -/
def spF {α : Type} (pre : α → Prop) (Ps : α → List VP) (P : α → VP) : Sp := fun vs H Q _ => ∃ (a : α) (S : Addr → Prop), pre a ∧ (∀ b, S b → H b ≠ none) ∧ AllP ((pure0 S).wo H) (Ps a) vs ∧ ∀ v H', Same H H' → (P a).at_ ((pure0 S).wo H') v → Q v H'
/-- .. and hand back a new object -/
def spN {α : Type} (pre : α → Prop) (Ps : α → List VP) (D : α → PyData) : Sp := fun vs H Q _ => ∃ (a : α) (S : Addr → Prop), pre a ∧ (∀ b, S b → H b ≠ none) ∧ AllP ((pure0 S).wo H) (Ps a) vs ∧ ∀ l H', Same H H' → H l = none → Dx ((pure0 S).wo H') (.ref l) (D a) → Q (.ref l) H'
theorem spF_len {α : Type} {pre : α → Prop} {Ps : α → List VP} {P : α → VP} {vs : List V} {Q : VK} {E : XK} {n : Nat} (h : spF pre Ps P vs H Q E) (hn : ∀ a, (Ps a).length = n) : vs.length = n := by
  obtain ⟨a, S, _, _, h, _⟩ := h
  rw [← hn a]
  exact (Paired.length h).symm
theorem spN_len {α : Type} {pre : α → Prop} {Ps : α → List VP} {D : α → PyData} {vs : List V} {Q : VK} {E : XK} {n : Nat} (h : spN pre Ps D vs H Q E) (hn : ∀ a, (Ps a).length = n) : vs.length = n := by
  obtain ⟨a, S, _, _, h, _⟩ := h
  rw [← hn a]
  exact (Paired.length h).symm
theorem ev_call {α : Type} {pre : α → Prop} {Ps : α → List VP} {P : α → VP} {E : XK} {tr : TA} (a : α) (h : EvA X tr σ H (Ps a)) (hp : pre a) : Ev X (tCall (spF pre Ps P) [] E tr) σ H (P a) := fun Y H1 e Q q => h Y H1 e _ fun vs H2 e2 p2 => by
  show spF pre Ps P (vs ++ []) H2 Q E
  rw [List.append_nil]
  exact ⟨a, Y.S, hp, e2.inv.live, p2, fun v H' s r => q v H' (e2.trans (.same s e2.inv)) r⟩
theorem en_call {α : Type} {pre : α → Prop} {Ps : α → List VP} {D : α → PyData} {E : XK} {tr : TA} (a : α) (h : EvA X tr σ H (Ps a)) (hp : pre a) : EvN X (tCall (spN pre Ps D) [] E tr) σ H (D a) := fun Y H1 e Q q => h Y H1 e _ fun vs H2 e2 p2 => by
  show spN pre Ps D (vs ++ []) H2 Q E
  rw [List.append_nil]
  exact ⟨a, Y.S, hp, e2.inv.live, p2, fun v H' s n r => q v H' (free_of e2 n) (e2.trans (.same s e2.inv)) r⟩
/-- what an object of a class is, with attributes beside which m is none -/
def IsIns (C : Addr) (m : Str) (P : VP) : Prop := ∀ H v, P.at_ H v → ∃ p dx fs, v = .ref p ∧ H p = some (.ins C dx fs) ∧ fs.lookup m = none
theorem ev_meth {α : Type} {pre : α → Prop} {Ps : α → List VP} {R : α → VP} {E : XK} {tr : TA} {C : Addr} {m : Str} (a : α) {Pr : List VP} (h : Ev X te σ H P) (ho : IsIns C m P) (hr : EvA X tr σ H Pr) (hq : Ps a = P :: Pr) (hp : pre a) : Ev X (tMeth C m (spF pre Ps R) [] E te tr) σ H (R a) := fun Y H1 e Q q => h Y H1 e _ fun v H2 e2 p2 => by
  obtain ⟨p, dx, fs, rfl, hi, hm⟩ := ho _ _ p2
  refine ⟨p, dx, fs, rfl, wo_le _ _ hi, hm, hr Y H2 (e.trans e2) _ fun vs H3 e3 p3 => ?_⟩
  show spF pre Ps R (.ref p :: (vs ++ [])) H3 Q E
  rw [List.append_nil]
  exact ⟨a, Y.S, hp, e3.inv.live, by rw [hq]; exact .cons (e3.upP p2) p3, fun v H' s r => q v H' ((e2.trans e3).trans (.same s e3.inv)) r⟩
theorem en_meth {α : Type} {pre : α → Prop} {Ps : α → List VP} {D : α → PyData} {E : XK} {tr : TA} {C : Addr} {m : Str} (a : α) {Pr : List VP} (h : Ev X te σ H P) (ho : IsIns C m P) (hr : EvA X tr σ H Pr) (hq : Ps a = P :: Pr) (hp : pre a) : EvN X (tMeth C m (spN pre Ps D) [] E te tr) σ H (D a) := fun Y H1 e Q q => h Y H1 e _ fun v H2 e2 p2 => by
  obtain ⟨p, dx, fs, rfl, hi, hm⟩ := ho _ _ p2
  refine ⟨p, dx, fs, rfl, wo_le _ _ hi, hm, hr Y H2 (e.trans e2) _ fun vs H3 e3 p3 => ?_⟩
  show spN pre Ps D (.ref p :: (vs ++ [])) H3 Q E
  rw [List.append_nil]
  exact ⟨a, Y.S, hp, e3.inv.live, by rw [hq]; exact .cons (e3.upP p2) p3, fun l H' s n r => q l H' (free_of e2 (free_of e3 n)) ((e2.trans e3).trans (.same s e3.inv)) r⟩
/-! ### what is walked -/
structure Seqn (X : Vol) (H0 : Hp) (J : It) (ds : List PyData) : Prop where
  go : ∀ Z H i, Wk X H0 Z H → i < ds.length → J.go i H
  stop : ∀ Z H, Wk X H0 Z H → J.stop ds.length H
  yld : ∀ Z H i x H', Wk X H0 Z H → i < ds.length → J.yld i H x H' → ∃ d, ds[i]? = some d ∧ Ext Z H H' ∧ Dx (Z.wo H') x d
def EvS (X : Vol) (wi : TI) (σ : L2.St) (H : Hp) (ds : List PyData) : Prop := ∀ (Y : Vol) (H1 : Hp), Sub X H Y H1 → ∀ R : It → Hp → Prop, (∀ J H2, Ext Y H1 H2 → Seqn Y H2 J ds → R J H2) → wi σ H1 R
theorem es_list (h : Ev X tl σ H (vL ds)) : EvS X (iList K tl) σ H ds := fun Y H1 e R r => h Y H1 e _ fun v H2 e2 p2 => by
  cases p2 with
  | lst ea al =>
    rename_i p xs
    have at_ : ∀ Z H, Wk Y H2 Z H → SqL K H p xs := fun Z H s => SqL.of (wo_le _ _ (s.wo _ _ ea))
    refine ⟨p, rfl, ⟨xs, at_ Y H2 (.refl e2.inv)⟩, r _ H2 e2 ⟨fun Z H i s hi => ?_, fun Z H s => ⟨xs, at_ Z H s, Nat.le_of_eq al.len⟩, fun Z H i x H' s hi y => ?_⟩⟩
    · exact ⟨xs, xs[i]'(by rw [al.len]; exact hi), at_ Z H s, List.getElem?_eq_getElem _⟩
    · obtain ⟨rfl, y⟩ := y
      obtain ⟨d, hd, hx⟩ := al.getv (y xs (at_ Z _ s))
      exact ⟨d, hd, .refl s.inv, s.upD hx⟩
theorem es_tup (h : Ev X tl σ H (vT ds)) : EvS X (iTup K tl) σ H ds := fun Y H1 e R r => h Y H1 e _ fun v H2 e2 p2 => by
  cases p2 with
  | tup ea al =>
    rename_i p xs
    have at_ : ∀ Z H, Wk Y H2 Z H → SqT K H p xs := fun Z H s => SqT.of (wo_le _ _ (s.wo _ _ ea))
    refine ⟨p, rfl, ⟨xs, at_ Y H2 (.refl e2.inv)⟩, r _ H2 e2 ⟨fun Z H i s hi => ?_, fun Z H s => ⟨xs, at_ Z H s, Nat.le_of_eq al.len⟩, fun Z H i x H' s hi y => ?_⟩⟩
    · exact ⟨xs, xs[i]'(by rw [al.len]; exact hi), at_ Z H s, List.getElem?_eq_getElem _⟩
    · obtain ⟨rfl, y⟩ := y
      obtain ⟨d, hd, hx⟩ := al.getv (y xs (at_ Z _ s))
      exact ⟨d, hd, .refl s.inv, s.upD hx⟩
def dRange (lo : Int) (n : Nat) : List PyData := (List.range n).map fun k : Nat => PyData.int (lo + k)
theorem dRange_len (lo : Int) (n : Nat) : (dRange lo n).length = n := by unfold dRange; rw [List.length_map, List.length_range]
theorem dRange_get {lo : Int} {n i : Nat} (h : i < n) : (dRange lo n)[i]? = some (.int (lo + i)) := by unfold dRange; rw [List.getElem?_map, List.getElem?_range h]; rfl
theorem sq_rng {lo : Int} {n : Nat} : Seqn X H (Itr lo n) (dRange lo n) := by
  refine ⟨fun Z H i s hi => by rw [dRange_len] at hi; exact hi, fun Z H s => by rw [dRange_len]; exact Nat.le_refl n, fun Z H i x H' s hi y => ?_⟩
  rw [dRange_len] at hi
  obtain ⟨rfl, rfl⟩ := y
  exact ⟨_, dRange_get hi, .refl s.inv, .int _⟩
theorem es_rng1 (h : Ev X te σ H (vI i)) (h0 : -40000 ≤ i) (h1 : i ≤ 40000) : EvS X (iRng1 (tCons te tNil)) σ H (dRange 0 i.toNat) := fun Y H1 e R r => h Y H1 e _ fun v H2 e2 p2 => by
  cases p2
  exact ⟨i, rfl, by omega, by omega, r _ H2 e2 sq_rng⟩
theorem es_rng2 (h : Ev X ta σ H (vI i)) (h' : Ev X tb σ H (vI j)) (h0 : -40000 ≤ i ∧ i ≤ 40000) (h1 : -40000 ≤ j ∧ j ≤ 40000) : EvS X (iRng2 (tCons ta (tCons tb tNil))) σ H (dRange i (j - i).toNat) := fun Y H1 e R r => h Y H1 e _ fun v H2 e2 p2 => h' Y H2 (e.trans e2) _ fun w H3 e3 p3 => by
  cases p2; cases p3
  exact ⟨i, j, rfl, ⟨by omega, by omega, by omega, by omega⟩, r _ H3 (e2.trans e3) sq_rng⟩
def dEnum (ds : List PyData) : List PyData := ds.zipIdx.map fun p => PyData.tuple [.int (p.2 : Nat), p.1]
theorem dEnum_len : (dEnum ds).length = ds.length := by unfold dEnum; rw [List.length_map, List.length_zipIdx]
theorem dEnum_get {i : Nat} {d : PyData} (h : ds[i]? = some d) : (dEnum ds)[i]? = some (.tuple [.int (i : Nat), d]) := by
  unfold dEnum
  rw [List.getElem?_map, List.getElem?_zipIdx, h]
  simp
theorem es_enum (h : Ev X te σ H (vL ds)) : EvS X (iEnum K (tCons te tNil)) σ H (dEnum ds) := fun Y H1 e R r => h Y H1 e _ fun v H2 e2 p2 => by
  cases p2 with
  | lst ea al =>
    rename_i p xs
    have at_ : ∀ Z H, Wk Y H2 Z H → SqL K H p xs := fun Z H s => SqL.of (wo_le _ _ (s.wo _ _ ea))
    refine ⟨p, xs, rfl, at_ Y H2 (.refl e2.inv), r _ H2 e2 ⟨fun Z H i s hi => ?_, fun Z H s => ⟨xs, at_ Z H s, Nat.le_of_eq (al.len.trans dEnum_len.symm)⟩, fun Z H i x H' s hi y => ?_⟩⟩
    · rw [dEnum_len] at hi
      exact ⟨xs, xs[i]'(by rw [al.len]; exact hi), at_ Z H s, List.getElem?_eq_getElem _⟩
    · obtain ⟨T, z, rfl, hT, rfl, y⟩ := y
      obtain ⟨d, hd, hx⟩ := al.getv (y xs (at_ Z _ s))
      have s3 := Sub.new (X := Z) (o := .tup [.int (i : Nat), z]) s.inv hT
      exact ⟨_, dEnum_get hd, s3, .tup (wo_new s.inv hT) (.cons (.int _) (.cons (s3.upD (s.upD hx)) .nil))⟩
def dZip (ds es : List PyData) : List PyData := (ds.zip es).map fun p => PyData.tuple [p.1, p.2]
theorem dZip_len : (dZip ds es).length = min ds.length es.length := by unfold dZip; rw [List.length_map, List.length_zip]
theorem dZip_get {i : Nat} {d e : PyData} (h : ds[i]? = some d) (h' : es[i]? = some e) : (dZip ds es)[i]? = some (.tuple [d, e]) := by
  unfold dZip
  have : (ds.zip es)[i]? = some (d, e) := List.getElem?_zip_eq_some.mpr ⟨h, h'⟩
  rw [List.getElem?_map, this]
  rfl
theorem sq_zip {p q : Addr} {xs ys : List V} (ea : X.wo H p = some (.lst xs)) (al : DxAll (X.wo H) xs ds) (eb : X.wo H q = some (.lst ys)) (bl : DxAll (X.wo H) ys es) : Seqn X H (Itz K p q) (dZip ds es) := by
  have at1 : ∀ Z H', Wk X H Z H' → SqL K H' p xs := fun Z H s => SqL.of (wo_le _ _ (s.wo _ _ ea))
  have at2 : ∀ Z H', Wk X H Z H' → SqL K H' q ys := fun Z H s => SqL.of (wo_le _ _ (s.wo _ _ eb))
  refine ⟨fun Z H i s hi => ?_, fun Z H s => ⟨xs, ys, at1 Z H s, at2 Z H s, ?_⟩, fun Z H i x H' s hi y => ?_⟩
  · rw [dZip_len] at hi
    exact ⟨xs, ys, xs[i]'(by rw [al.len]; omega), ys[i]'(by rw [bl.len]; omega), at1 Z H s, at2 Z H s, List.getElem?_eq_getElem _, List.getElem?_eq_getElem _⟩
  · rw [dZip_len, al.len, bl.len]; omega
  · obtain ⟨T, z, w, rfl, hT, rfl, y1, y2⟩ := y
    obtain ⟨d, hd, hx⟩ := al.getv (y1 xs (at1 Z _ s))
    obtain ⟨d', hd', hx'⟩ := bl.getv (y2 ys (at2 Z _ s))
    have s3 := Sub.new (X := Z) (o := .tup [z, w]) s.inv hT
    exact ⟨_, dZip_get hd hd', s3, .tup (wo_new s.inv hT) (.cons (s3.upD (s.upD hx)) (.cons (s3.upD (s.upD hx')) .nil))⟩
theorem es_zip (h : Ev X ta σ H (vL ds)) (h' : Ev X tb σ H (vL es)) : EvS X (iZip K (tCons ta (tCons tb tNil))) σ H (dZip ds es) := fun Y H1 e R r => h Y H1 e _ fun v H2 e2 p2 => h' Y H2 (e.trans e2) _ fun w H3 e3 p3 => by
  cases e3.upP p2 with
  | lst ea al =>
    cases p3 with
    | lst eb bl => exact ⟨_, _, _, _, rfl, SqL.of (wo_le _ _ ea), SqL.of (wo_le _ _ eb), r _ H3 (e2.trans e3) (sq_zip ea al eb bl)⟩
/-! ### targets -/
def Tgt (g : TG) (v : V) (σ : L2.St) (H : Hp) (R : L2.St → Hp → Prop) : Prop := ∀ Q : L2.St → Hp → Prop, (∀ σ2 H2, R σ2 H2 → Q σ2 H2) → g v σ H Q
theorem tgt_name {n : Nat} {v : V} {R : L2.St → Hp → Prop} (h : R (σ.set n (some v)) H) : Tgt (gName n) v σ H R := fun Q q => q _ _ h
theorem tgt_tup2 {g1 g2 : TG} {v : V} {R : L2.St → Hp → Prop} (h : Dx H' v (.tuple [d, e])) (s : Same H' H) (k : ∀ v1 v2, Dx H' v1 d → Dx H' v2 e → Tgt g1 v1 σ H fun σ2 H2 => Tgt g2 v2 σ2 H2 R) : Tgt (gTup K 2 (gCons g1 (gCons g2 gNil))) v σ H R := fun Q q => by
  cases h with
  | tup ea al =>
    cases al with
    | cons a t =>
      cases t with
      | cons b t =>
        cases t
        exact ⟨_, _, rfl, SqT.of (s _ _ ea), rfl, _, _, rfl, k _ _ a b _ fun σ2 H2 k2 => ⟨_, _, rfl, k2 _ fun σ3 H3 r => ⟨rfl, q _ _ r⟩⟩⟩
/-! ### comprehensions -/
theorem wo_put {l : Addr} {o : HO} : (X.add l).wo (upd H l o) = (X.add l).wo H := by
  funext a
  by_cases h : (X.add l).S a
  · rw [wo_in h, wo_in h]
  · rw [wo_out h, wo_out h, upd_ne fun z => h (.inr z)]
theorem wo_add : Same ((X.add l).wo H) (X.wo H) := fun a o h => by
  obtain ⟨h1, h2⟩ := wo_some h
  rw [wo_out fun z => h2 (.inl z)]
  exact h1
theorem ti_add {o : HO} (i : X.I H) (h : H l = some o) (p : Pl o) : TabI (X.add l) H := ⟨i.ti.1, fun n a ha nT u hu => by
  rcases ha with ha | ha
  · exact i.ti.2 n a ha nT u hu
  · rw [ha, h] at hu
    rw [← Option.some.inj hu]
    exact p⟩
/-- it is made -/
theorem Sub.drop (e : Sub X H (X.add l) H1) : Ext X H H1 :=
  ⟨rfl, rfl, fun _ h => h, fun _ h => .inl h, e.old, ⟨fun a z => e.inv.live a (.inl z), e.inv.pl, e.inv.ti.less rfl fun _ z => .inl z⟩⟩
theorem out_add (i : X.I H) (hl : H l = none) (e : Sub X H Y H1) : ¬ X.V l := fun z => i.live l (X.subV _ z) hl
theorem ev_lc {wi : TI} {g : TG} {tt : TT} {vs : List Nat} (R : Nat → Option PyData → Prop) (hs : EvS X wi σ H ds) (hn : ds.length ≤ 40000)
    (step : ∀ (Y : Vol) (i : Nat) (d : PyData) (v : V) (H1 : Hp), ds[i]? = some d → Sub X H Y H1 → Dx (Y.wo H1) v d → Tgt g v (wipe σ vs) H1 fun σ2 H2 => H2 = H1 ∧ wipe σ2 vs = wipe σ vs ∧ ∃ b, EvT Y tt σ2 H1 b ∧ (b = false → R i none) ∧ (b = true → Ev Y te σ2 H1 (vX fun e => R i (some e)))) :
    ∀ (Y : Vol) (H1 : Hp), Sub X H Y H1 → ∀ Q : VK, (∀ (l : Addr) (H2 : Hp) (os : List (Option PyData)), H1 l = none → Ext Y H1 H2 → os.length = ds.length → (∀ i o, os[i]? = some o → R i o) → Dx (Y.wo H2) (.ref l) (.list (os.filterMap id)) → Q (.ref l) H2) → tLc wi g tt te vs σ H1 Q := fun Y H1 e Q q => hs Y H1 e _ fun J H2 e2 sq D hD => by
  have i2 := e2.inv
  let Inv : Nat → Hp → Prop := fun i H' => Sub Y H2 (Y.add D) H' ∧ ∃ (os : List (Option PyData)) (acc : List V), os.length = i ∧ (∀ j o, os[j]? = some o → R j o) ∧ H' D = some (.lst acc) ∧ DxAll ((Y.add D).wo H') acc (os.filterMap id)
  refine ⟨fun i m H => m = ds.length - i ∧ i ≤ ds.length ∧ Inv i H, ⟨ds.length, by simp, Nat.zero_le _, .add i2 hD, [], [], rfl, fun j o h => by simp at h, upd_same, .nil⟩, ?_⟩
  rintro i m H' ⟨rfl, hi, s, os, acc, h1, h2, h3, h4⟩
  by_cases hlt : i < ds.length
  · refine .inr ⟨sq.go _ _ _ s.wk hlt, Inv (i + 1), fun H'' p => ⟨ds.length - (i + 1), by omega, rfl, hlt, p⟩, fun x H'' y => ?_⟩
    obtain ⟨d, hd, e3, hx⟩ := sq.yld _ _ _ _ _ s.wk hlt y
    have s' := s.trans e3
    refine step (Y.add D) i d x H'' hd ((e.trans e2).trans s') hx _ ?_
    rintro σ2 H3 ⟨rfl, hw, b, hb, hf, ht⟩
    refine ⟨hw, hb.go s'.inv fun H4 e4 => ?_⟩
    have nD : ¬ (Y.add D).V D := fun z => i2.live D (Y.subV _ z) hD
    have hos : ∀ (o : Option PyData), R i o → ∀ j o', (os ++ [o])[j]? = some o' → R j o' := fun o ho j o' hj => by
      by_cases hj2 : j < os.length
      · rw [List.getElem?_append_left hj2] at hj
        exact h2 j o' hj
      · have e1 : j = os.length := by
          have := (List.getElem?_eq_some_iff.mp hj).1
          simp at this
          omega
        subst e1
        rw [List.getElem?_append_right (Nat.le_refl _)] at hj
        simp at hj
        subst hj
        rw [h1]
        exact ho
    cases b with
    | false =>
      refine iteF ⟨s'.trans e4, os ++ [none], acc, by simp [h1], hos _ (hf rfl), e4.old _ _ nD (e3.old _ _ nD h3), ?_⟩
      rw [List.filterMap_append]
      simp only [List.filterMap_cons, id, List.filterMap_nil, List.append_nil]
      exact (e3.trans e4).upA h4
    | true =>
      refine iteT ((ht rfl) (Y.add D) H4 e4 _ fun y H5 e5 p5 => ?_)
      obtain ⟨z, hz, hy⟩ := p5
      have h45 := (e3.trans e4).trans e5
      have al := h45.upA h4
      refine ⟨acc, h45.old _ _ nD h3, ?_, (s.trans h45).put i2 hD, os ++ [some z], acc ++ [y], by simp [h1], hos _ hz, upd_same, ?_⟩
      · rw [al.len]
        refine Nat.lt_of_le_of_lt (List.length_filterMap_le _ _) ?_
        rw [h1]
        exact Nat.lt_of_lt_of_le hlt (Nat.le_trans hn (by decide))
      · rw [wo_put, List.filterMap_append]
        exact al.app (.cons hy .nil)
  · have e1 : i = ds.length := by omega
    subst e1
    refine .inl ⟨sq.stop _ _ s.wk, q D H' os (free_of e2 hD) (e2.trans s.drop) h1 h2 (.lst ?_ (DxAll.same wo_add _ _ h4))⟩
    rw [wo_out fun z => i2.live D z hD]
    exact h3
/-- by a function of the items -/
theorem en_lcF {wi : TI} {g : TG} {tt : TT} {vs : List Nat} (F : PyData → Option PyData) (hs : EvS X wi σ H ds) (hn : ds.length ≤ 40000)
    (step : ∀ (Y : Vol) (i : Nat) (d : PyData) (v : V) (H1 : Hp), ds[i]? = some d → Sub X H Y H1 → Dx (Y.wo H1) v d → Tgt g v (wipe σ vs) H1 fun σ2 H2 => H2 = H1 ∧ wipe σ2 vs = wipe σ vs ∧ ∃ b, EvT Y tt σ2 H1 b ∧ (b = false → F d = none) ∧ (b = true → ∃ e, F d = some e ∧ Ev Y te σ2 H1 (vD e))) :
    EvN X (tLc wi g tt te vs) σ H (.list (ds.filterMap F)) := fun Y H1 e Q q =>
  ev_lc (fun i o => ∀ d, ds[i]? = some d → o = F d) hs hn (fun Y i d v H1 hd s hv Q q => step Y i d v H1 hd s hv Q fun σ2 H2 ⟨h1, h2, b, hb, hf, ht⟩ => q σ2 H2 ⟨h1, h2, b, hb, fun z d' hd' => by
      rw [hd] at hd'
      cases hd'
      exact (hf z).symm, fun z => by
      obtain ⟨e, he, h⟩ := ht z
      exact h.weak fun H v p => ⟨e, fun d' hd' => by
        rw [hd] at hd'
        cases hd'
        exact he.symm, p⟩⟩) Y H1 e Q fun l H2 os n e2 hl ho hd => q l H2 n e2 (by
    have e1 : os = ds.map F := by
      apply List.ext_getElem?
      intro i
      rw [List.getElem?_map]
      cases h : ds[i]? with
      | none =>
        rw [List.getElem?_eq_none_iff] at h
        rw [List.getElem?_eq_none_iff.mpr (by omega)]
        rfl
      | some d =>
        have hi : i < os.length := by rw [hl]; exact (List.getElem?_eq_some_iff.mp h).1
        rw [List.getElem?_eq_getElem hi, ho i _ (List.getElem?_eq_getElem hi) d h]
        rfl
    rw [e1, List.filterMap_map] at hd
    exact hd)
/-- [e for x in ..], no test -/
theorem en_map {wi : TI} {g : TG} {vs : List Nat} (f : PyData → PyData) (hs : EvS X wi σ H ds) (hn : ds.length ≤ 40000)
    (step : ∀ (Y : Vol) (i : Nat) (d : PyData) (v : V) (H1 : Hp), ds[i]? = some d → Sub X H Y H1 → Dx (Y.wo H1) v d → Tgt g v (wipe σ vs) H1 fun σ2 H2 => H2 = H1 ∧ wipe σ2 vs = wipe σ vs ∧ Ev Y te σ2 H1 (vD (f d))) :
    EvN X (tLc wi g tYes te vs) σ H (.list (ds.map f)) := by
  have h := en_lcF (te := te) (g := g) (tt := tYes) (vs := vs) (fun d => some (f d)) hs hn fun Y i d v H1 hd s hv Q q => step Y i d v H1 hd s hv Q fun σ2 H2 ⟨h1, h2, h3⟩ => q σ2 H2 ⟨h1, h2, true, et_yes, (fun z => nomatch z), fun _ => ⟨_, rfl, h3⟩⟩
  rwa [List.filterMap_eq_map'] at h
/-- [e for x in .. if t] -/
theorem en_fil {wi : TI} {g : TG} {tt : TT} {vs : List Nat} (p : PyData → Bool) (f : PyData → PyData) (hs : EvS X wi σ H ds) (hn : ds.length ≤ 40000)
    (step : ∀ (Y : Vol) (i : Nat) (d : PyData) (v : V) (H1 : Hp), ds[i]? = some d → Sub X H Y H1 → Dx (Y.wo H1) v d → Tgt g v (wipe σ vs) H1 fun σ2 H2 => H2 = H1 ∧ wipe σ2 vs = wipe σ vs ∧ EvT Y tt σ2 H1 (p d) ∧ (p d = true → Ev Y te σ2 H1 (vD (f d)))) :
    EvN X (tLc wi g tt te vs) σ H (.list ((ds.filter p).map f)) := by
  have h := en_lcF (te := te) (g := g) (tt := tt) (vs := vs) (fun d => if p d = true then some (f d) else none) hs hn fun Y i d v H1 hd s hv Q q => step Y i d v H1 hd s hv Q fun σ2 H2 ⟨h1, h2, h3, h4⟩ => q σ2 H2 ⟨h1, h2, p d, h3, fun z => by rw [z]; rfl, fun z => ⟨_, by rw [z]; rfl, h4 z⟩⟩
  have e1 : ∀ ds : List PyData, ds.filterMap (fun d => if p d = true then some (f d) else none) = (ds.filter p).map f := by
    intro ds
    induction ds with
    | nil => rfl
    | cons d ds ih =>
      rw [List.filterMap_cons, List.filter_cons]
      cases hp : p d with
      | true => simp [ih]
      | false => simp [ih]
  rwa [e1] at h
/-- .. whose items are drawn -/
theorem ev_drawn {wi : TI} {g : TG} {vs : List Nat} (p : Nat → PyData → Prop) (hs : EvS X wi σ H ds) (hn : ds.length ≤ 40000)
    (step : ∀ (Y : Vol) (i : Nat) (d : PyData) (v : V) (H1 : Hp), ds[i]? = some d → Sub X H Y H1 → Dx (Y.wo H1) v d → Tgt g v (wipe σ vs) H1 fun σ2 H2 => H2 = H1 ∧ wipe σ2 vs = wipe σ vs ∧ Ev Y te σ2 H1 (vX (p i))) :
    ∀ (Y : Vol) (H1 : Hp), Sub X H Y H1 → ∀ Q : VK, (∀ (l : Addr) (H2 : Hp) (es : List PyData), H1 l = none → Ext Y H1 H2 → es.length = ds.length → (∀ i e, es[i]? = some e → p i e) → Dx (Y.wo H2) (.ref l) (.list es) → Q (.ref l) H2) → tLc wi g tYes te vs σ H1 Q := fun Y H1 e Q q =>
  ev_lc (fun i o => ∃ e, o = some e ∧ p i e) hs hn (fun Y i d v H1 hd s hv Q q => step Y i d v H1 hd s hv Q fun σ2 H2 ⟨h1, h2, h3⟩ => q σ2 H2 ⟨h1, h2, true, et_yes, (fun z => nomatch z), fun _ => h3.weak fun H v ⟨e, he, hv⟩ => ⟨e, ⟨e, rfl, he⟩, hv⟩⟩) Y H1 e Q fun l H2 os n e2 hl ho hd => by
    have e1 : ∀ (os : List (Option PyData)), (∀ (i : Nat) (o : Option PyData), os[i]? = some o → ∃ e, o = some e) → (os.filterMap id).map some = os := by
      intro os
      induction os with
      | nil => intro _; rfl
      | cons o os ih =>
        intro h
        obtain ⟨e, rfl⟩ := h 0 o rfl
        have ih' := ih fun i o' hi => h (i + 1) o' hi
        simp only [List.filterMap_cons, id, List.map_cons]
        rw [ih']
    have e2' := e1 os fun i o hi => let ⟨e, h, _⟩ := ho i o hi; ⟨e, h⟩
    refine q l H2 _ n e2 (by rw [← hl, ← congrArg List.length e2', List.length_map]) (fun i e hi => ?_) hd
    have h3 : os[i]? = some (some e) := by rw [← e2', List.getElem?_map, hi]; rfl
    obtain ⟨e', h4, h5⟩ := ho i _ h3
    cases h4
    exact h5
end
/-! ### statements -/
section
variable {X Y : Vol} {σ : L2.St} {H H' H0 H1 : Hp} {ta tb tc te tl : TE} {t u : TT} {P P' : VP} {K : Fr} {b c : Bool} {i j k : Int} {d e : PyData} {ds es : List PyData} {l : Addr} {D : Ends} {tz ty tw : TS}
theorem q_asg {n : Nat} (h : Ev X te σ H P) (i : X.I H) (k : ∀ v H1, Ext X H H1 → P.at_ (X.wo H1) v → tz D (σ.set n (some v)) H1) : tSeq (tAsg te (gName n)) tz D σ H := h.go i k
theorem s_asg {n : Nat} (h : Ev X te σ H P) (i : X.I H) (k : ∀ v H1, Ext X H H1 → P.at_ (X.wo H1) v → D.nx (σ.set n (some v)) H1) : tAsg te (gName n) D σ H := h.go i k
theorem q_asgN {n : Nat} (h : EvN X te σ H d) (i : X.I H) (k : ∀ l H1, H l = none → Ext X H H1 → Dx (X.wo H1) (.ref l) d → tz D (σ.set n (some (.ref l))) H1) : tSeq (tAsg te (gName n)) tz D σ H := h.go i k
theorem s_asgN {n : Nat} (h : EvN X te σ H d) (i : X.I H) (k : ∀ l H1, H l = none → Ext X H H1 → Dx (X.wo H1) (.ref l) d → D.nx (σ.set n (some (.ref l))) H1) : tAsg te (gName n) D σ H := h.go i k
theorem q_asgI {n : Nat} (h : Ev X te σ H (vI i)) (iv : X.I H) (k : ∀ H1, Ext X H H1 → tz D (σ.set n (some (.int i))) H1) : tSeq (tAsg te (gName n)) tz D σ H := h.go iv fun v H1 e p => by cases p; exact k H1 e
theorem s_asgI {n : Nat} (h : Ev X te σ H (vI i)) (iv : X.I H) (k : ∀ H1, Ext X H H1 → D.nx (σ.set n (some (.int i))) H1) : tAsg te (gName n) D σ H := h.go iv fun v H1 e p => by cases p; exact k H1 e
theorem q_ret (h : Ev X te σ H P) (i : X.I H) (k : ∀ v H1, Ext X H H1 → P.at_ (X.wo H1) v → D.rt v H1) : tRet te D σ H := h.go i k
theorem q_retN (h : EvN X te σ H d) (i : X.I H) (k : ∀ l H1, H l = none → Ext X H H1 → Dx (X.wo H1) (.ref l) d → D.rt (.ref l) H1) : tRet te D σ H := h.go i k
theorem q_if (h : EvT X t σ H b) (i : X.I H) (h1 : b = true → ∀ H1, Ext X H H1 → ty { D with nx := tz D } σ H1) (h2 : b = false → ∀ H1, Ext X H H1 → tw { D with nx := tz D } σ H1) : tSeq (tIfS t ty tw) tz D σ H := h.go i fun H1 e => by
  cases b with
  | true => exact iteT (h1 rfl H1 e)
  | false => exact iteF (h2 rfl H1 e)
theorem q_guard (h : EvT X t σ H false) (i : X.I H) (k : ∀ H1, Ext X H H1 → tz D σ H1) : tSeq (tIfS t ty tNext) tz D σ H := h.go i fun H1 e => iteF (k H1 e)
theorem q_if1 (h : EvT X t σ H b) (i : X.I H) (h1 : b = true → ∀ H1, Ext X H H1 → ty { D with nx := tz D } σ H1) (h2 : b = false → ∀ H1, Ext X H H1 → tz D σ H1) : tSeq (tIfS t ty tNext) tz D σ H := h.go i fun H1 e => by
  cases b with
  | true => exact iteT (h1 rfl H1 e)
  | false => exact iteF (h2 rfl H1 e)
theorem s_guard (h : EvT X t σ H false) (i : X.I H) (k : ∀ H1, Ext X H H1 → D.nx σ H1) : tIfS t ty tNext D σ H := h.go i fun H1 e => iteF (k H1 e)
theorem s_if1 (h : EvT X t σ H b) (i : X.I H) (h1 : b = true → ∀ H1, Ext X H H1 → ty D σ H1) (h2 : b = false → ∀ H1, Ext X H H1 → D.nx σ H1) : tIfS t ty tNext D σ H := h.go i fun H1 e => by
  cases b with
  | true => exact iteT (h1 rfl H1 e)
  | false => exact iteF (h2 rfl H1 e)
theorem s_if (h : EvT X t σ H b) (i : X.I H) (h1 : b = true → ∀ H1, Ext X H H1 → ty D σ H1) (h2 : b = false → ∀ H1, Ext X H H1 → tw D σ H1) : tIfS t ty tw D σ H := h.go i fun H1 e => by
  cases b with
  | true => exact iteT (h1 rfl H1 e)
  | false => exact iteF (h2 rfl H1 e)
/-- for .. in ..: what is being made may change -/
theorem s_for {wi : TI} {g : TG} {tb : TS} (hs : EvS X wi σ H ds) (i : X.I H) (k : ∀ H1, Ext X H H1 → ∃ (Inv : Nat → L2.St → Hp → Prop), Inv 0 σ H1 ∧ (∀ i σ' H', Inv i σ' H' → Wk X H1 X H') ∧
      (∀ i d x σ' H' H'', Inv i σ' H' → Wk X H1 X H' → Ext X H' H'' → ds[i]? = some d → Dx (X.wo H'') x d → g x σ' H'' fun σ2 H3 => tb { D with nx := Inv (i + 1), ct := Inv (i + 1), bk := D.nx } σ2 H3) ∧ ∀ σ' H', Inv ds.length σ' H' → Wk X H1 X H' → D.nx σ' H') : tFor wi g tb D σ H :=
  hs X H (.refl i) _ fun J H1 e1 sq => by
    obtain ⟨Inv, h0, hv, step, hd⟩ := k H1 e1
    refine ⟨fun i m σ H => m = ds.length - i ∧ i ≤ ds.length ∧ Inv i σ H, ⟨ds.length, by simp, Nat.zero_le _, h0⟩, ?_⟩
    rintro i m σ' H' ⟨rfl, hi, p⟩
    have s := hv i σ' H' p
    by_cases hlt : i < ds.length
    · refine .inr ⟨sq.go _ _ _ s hlt, Inv (i + 1), fun σ2 H2 p2 => ⟨ds.length - (i + 1), by omega, rfl, hlt, p2⟩, fun x H'' y => ?_⟩
      obtain ⟨d, hd', e3, hx⟩ := sq.yld _ _ _ _ _ s hlt y
      exact step i d x σ' H' H'' p s e3 hd' hx
    · have e1 : i = ds.length := by omega
      subst e1
      exact .inl ⟨sq.stop _ _ s, hd σ' H' p s⟩
theorem q_for {wi : TI} {g : TG} {tb : TS} (hs : EvS X wi σ H ds) (i : X.I H) (k : ∀ H1, Ext X H H1 → ∃ (Inv : Nat → L2.St → Hp → Prop), Inv 0 σ H1 ∧ (∀ i σ' H', Inv i σ' H' → Wk X H1 X H') ∧
      (∀ i d x σ' H' H'', Inv i σ' H' → Wk X H1 X H' → Ext X H' H'' → ds[i]? = some d → Dx (X.wo H'') x d → g x σ' H'' fun σ2 H3 => tb { D with nx := Inv (i + 1), ct := Inv (i + 1), bk := tz D } σ2 H3) ∧ ∀ σ' H', Inv ds.length σ' H' → Wk X H1 X H' → tz D σ' H') : tSeq (tFor wi g tb) tz D σ H :=
  s_for (D := { D with nx := tz D }) hs i k
/-! ### a list that is being made at l, behind the heap H0 -/
structure Mak (X : Vol) (H0 : Hp) (l : Addr) (H : Hp) (ds : List PyData) : Prop where
  i0 : X.I H0
  fr : H0 l = none
  sub : Sub X H0 (X.add l) H
  ex : ∃ acc, H l = some (.lst acc) ∧ DxAll ((X.add l).wo H) acc ds
theorem Mak.start (i : X.I H) (h : H l = none) : Mak X H l (upd H l (.lst [])) [] := ⟨i, h, .add i h, [], upd_same, .nil⟩
theorem Mak.inv (m : Mak X H0 l H ds) : (X.add l).I H := m.sub.inv
theorem Mak.ext (m : Mak X H0 l H ds) (e : Ext (X.add l) H H') : Mak X H0 l H' ds := by
  obtain ⟨acc, h1, h2⟩ := m.ex
  exact ⟨m.i0, m.fr, m.sub.trans e, acc, e.old _ _ (fun z => m.i0.live l (X.subV _ z) m.fr) h1, e.upA h2⟩
theorem Mak.put {vs : List V} (m : Mak X H0 l H ds) (h : DxAll ((X.add l).wo H) vs es) : Mak X H0 l (upd H l (.lst vs)) es := ⟨m.i0, m.fr, m.sub.put m.i0 m.fr, vs, upd_same, by rw [wo_put]; exact h⟩
theorem Mak.wkput {o : HO} (m : Mak X H0 l H ds) (p : Pl o := by exact True.intro) : Wk (X.add l) H (X.add l) (upd H l o) := by
  have s := m.sub.put (o := o) m.i0 m.fr p
  refine ⟨rfl, fun _ z => z, fun _ z => .inl z, fun b u n q => ?_, s.inv⟩
  rw [upd_ne fun z => n (.inr z)]
  exact q
theorem Mak.wk (m : Mak X H0 l H ds) : Wk X H0 (X.add l) H := m.sub.wk
theorem Mak.done (m : Mak X H0 l H ds) : Ext X H0 H ∧ Dx (X.wo H) (.ref l) (.list ds) := by
  obtain ⟨acc, h1, h2⟩ := m.ex
  refine ⟨m.sub.drop, .lst ?_ (DxAll.same wo_add _ _ h2)⟩
  rw [wo_out fun z => m.i0.live l z m.fr]
  exact h1
/-- .. as seen from an earlier heap -/
theorem Mak.back (m : Mak X H1 l H ds) (e : Ext X H0 H1) (i : X.I H0) : Mak X H0 l H ds := by
  refine ⟨i, free_of e m.fr, ?_, m.ex⟩
  refine ⟨rfl, rfl, fun _ h => .inl h, fun a z => ?_, fun b o n h => m.sub.old b o n (e.old b o n h), m.sub.inv⟩
  rcases z with z | rfl
  · exact .inl z
  · exact .inr (free_of e m.fr)
/-- a list of ints that was handed back new is taken up again -/
theorem dx_of_ints {ns : List Int} {vs : List V} (h : DxAll H vs (ns.map PyData.int)) : DxAll H' vs (ns.map PyData.int) := by
  rw [h.ints]
  exact dx_ints ns
theorem Mak.again {ns : List Int} (i : X.I H) (hl : H l = none) (e : Ext X H H') (h : Dx (X.wo H') (.ref l) (.list (ns.map PyData.int))) : Mak X H l H' (ns.map PyData.int) := by
  cases h with
  | lst ea al =>
    refine ⟨i, hl, ⟨rfl, rfl, fun _ h => .inl h, fun a z => ?_, e.old, ⟨fun a z => ?_, e.inv.pl, ti_add e.inv (wo_le _ _ ea) True.intro⟩⟩, _, wo_le _ _ ea, dx_of_ints al⟩
    · rcases z with z | rfl
      · exact .inl z
      · exact .inr hl
    · rcases z with z | rfl
      · exact e.inv.live a z
      · rw [wo_le _ _ ea]
        exact fun z => nomatch z
/-- l.append(e) -/
theorem s_app {n : Nat} (m : Mak X H0 l H ds) (hs : σ[n]? = some (some (.ref l))) (h : Ev (X.add l) te σ H (vD d)) (hz : ds.length < 40000) (k : ∀ H1, Mak X H0 l H1 (ds ++ [d]) → Wk (X.add l) H (X.add l) H1 → D.nx σ H1) :
    tDrop (tBM K "list" rAppend (tVar n) (tCons te tNil)) D σ H := by
  obtain ⟨acc, h1, h2⟩ := m.ex
  refine ⟨_, hs, .inl ⟨rfl, _, SqL.of h1⟩, h.go m.inv fun v H1 e p => ?_⟩
  obtain ⟨acc', h1', h2'⟩ := (m.ext e).ex
  refine ⟨l, acc', v, rfl, rfl, h1', ?_, ?_⟩
  · rw [h2'.len]
    exact Nat.lt_of_lt_of_le hz (by decide)
  · exact k _ ((m.ext e).put (h2'.app (.cons p .nil))) (e.wk.trans ((m.ext e).wkput))
/-- l[i] = e -/
theorem s_set {ti : TE} {n : Nat} (m : Mak X H0 l H ds) (hs : σ[n]? = some (some (.ref l))) (h : Ev (X.add l) te σ H (vD d)) {j : Nat} (hi : Ev (X.add l) ti σ H (vI j)) (hj : j < ds.length) (k : ∀ H1, Mak X H0 l H1 (ds.set j d) → Wk (X.add l) H (X.add l) H1 → D.nx σ H1) :
    tAsg te (gSub (tVar n) ti rSetL) D σ H := by
  refine h.go m.inv fun v H1 e p => ⟨_, hs, (hi.mono e).go e.inv fun w H2 e2 p2 => ?_⟩
  cases p2
  obtain ⟨acc', h1', h2'⟩ := (m.ext (e.trans e2)).ex
  refine ⟨l, acc', (j : Int), j, rfl, rfl, h1', ?_, k _ ((m.ext (e.trans e2)).put (h2'.set j (e2.upD p))) ((e.trans e2).wk.trans (m.ext (e.trans e2)).wkput)⟩
  rw [h2'.len]
  unfold ixN
  rw [if_pos (by omega), if_pos (by omega)]
  simp
end
end Ee

/-! ### the mathematics: labels by the earliest node, two ways -/
namespace Wm
abbrev Es := List (Nat × Nat)
def gs (f : Nat → Nat) (e : Nat × Nat) : Nat → Nat := fun v => if f v = max (f e.1) (f e.2) then min (f e.1) (f e.2) else f v
def F (ps : Es) : Nat → Nat := ps.foldl gs id
def ls (f : Nat → Nat) (e : Nat × Nat) : Nat → Nat := fun v => if v = e.2 then min (f e.1) (f e.2) else if v = e.1 then min (f e.1) (f e.2) else f v
def sweep (ps : Es) (f : Nat → Nat) : Nat → Nat := ps.foldl ls f
def R (ps : Es) : Nat → Nat → Nat
  | 0 => id
  | t + 1 => sweep ps (R ps t)
structure Root (ps : Es) (f : Nat → Nat) : Prop where
  le : ∀ v, f v ≤ v
  idem : ∀ v, f (f v) = f v
  edge : ∀ e ∈ ps, f e.1 = f e.2
  conn : ∀ g : Nat → Nat, (∀ e ∈ ps, g e.1 = g e.2) → ∀ v, g (f v) = g v
theorem min_or (a b : Nat) : min a b = a ∧ max a b = b ∨ min a b = b ∧ max a b = a := by
  by_cases h : a ≤ b
  · exact .inl ⟨Nat.min_eq_left h, Nat.max_eq_right h⟩
  · exact .inr ⟨Nat.min_eq_right (by omega), Nat.max_eq_left (by omega)⟩
theorem gs_le (f : Nat → Nat) (e : Nat × Nat) (v : Nat) : gs f e v ≤ f v := by
  unfold gs
  split
  · rename_i h
    rw [h]
    exact Nat.le_trans (Nat.min_le_left _ _) (Nat.le_max_left _ _)
  · exact Nat.le_refl _
theorem gs_hit {f : Nat → Nat} {e : Nat × Nat} {v : Nat} (h : f v = max (f e.1) (f e.2)) : gs f e v = min (f e.1) (f e.2) := if_pos h
theorem gs_miss {f : Nat → Nat} {e : Nat × Nat} {v : Nat} (h : ¬ f v = max (f e.1) (f e.2)) : gs f e v = f v := if_neg h
theorem Root.step {ps : Es} {f : Nat → Nat} (r : Root ps f) (e : Nat × Nat) : Root (ps ++ [e]) (gs f e) := by
  have mm := min_or (f e.1) (f e.2)
  have fmin : f (min (f e.1) (f e.2)) = min (f e.1) (f e.2) := by
    rcases mm with ⟨h, _⟩ | ⟨h, _⟩ <;> rw [h] <;> exact r.idem _
  refine ⟨fun v => Nat.le_trans (gs_le f e v) (r.le v), fun v => ?_, fun e' he => ?_, fun g hg v => ?_⟩
  · by_cases h : f v = max (f e.1) (f e.2)
    · rw [gs_hit h]
      by_cases h2 : f (min (f e.1) (f e.2)) = max (f e.1) (f e.2)
      · rw [gs_hit h2]
      · rw [gs_miss h2]; exact fmin
    · rw [gs_miss h]
      have h2 : ¬ f (f v) = max (f e.1) (f e.2) := by rw [r.idem]; exact h
      rw [gs_miss h2]; exact r.idem v
  · rcases List.mem_append.mp he with he | he
    · have q := r.edge e' he
      unfold gs
      rw [q]
    · have e1 : e' = e := by simpa using he
      subst e1
      have one : ∀ x, f x = f e'.1 ∨ f x = f e'.2 → gs f e' x = min (f e'.1) (f e'.2) := fun x hx => by
        by_cases h : f x = max (f e'.1) (f e'.2)
        · exact gs_hit h
        · rw [gs_miss h]
          rcases mm with ⟨a, b⟩ | ⟨a, b⟩ <;> rcases hx with hx | hx <;> first | (rw [a, hx]; done) | (exact absurd (hx.trans b.symm) h)
      rw [one e'.1 (.inl rfl), one e'.2 (.inr rfl)]
  · have hold := r.conn g (fun e' he => hg e' (List.mem_append_left _ he))
    have hge := hg e (List.mem_append_right _ (by simp))
    have h1 := hold e.1
    have h2 := hold e.2
    by_cases h : f v = max (f e.1) (f e.2)
    · rw [gs_hit h]
      have h3 := hold v
      rw [h] at h3
      rcases mm with ⟨a, b⟩ | ⟨a, b⟩
      · rw [a, h1, hge, ← h2, ← b]; exact h3
      · rw [a, h2, ← hge, ← h1, ← b]; exact h3
    · rw [gs_miss h]; exact hold v
theorem Root.nil : Root [] id := ⟨fun _ => Nat.le_refl _, fun _ => rfl, (fun _ h => nomatch h), fun _ _ _ => rfl⟩
theorem F_snoc (ps : Es) (e : Nat × Nat) : F (ps ++ [e]) = gs (F ps) e := by
  unfold F
  rw [List.foldl_append]
  rfl
theorem take_snoc {α : Type} {l : List α} {k : Nat} {x : α} (h : l[k]? = some x) : l.take (k + 1) = l.take k ++ [x] := by
  rw [List.take_add_one, h]
  rfl
theorem root_F : ∀ (k : Nat) (ps : Es), Root (ps.take k) (F (ps.take k))
  | 0, ps => by rw [List.take_zero]; exact Root.nil
  | k + 1, ps => by
    cases h : ps[k]? with
    | none =>
      have e : ps.take (k + 1) = ps.take k := by
        have hl := List.getElem?_eq_none_iff.mp h
        rw [List.take_of_length_le hl, List.take_of_length_le (by omega)]
      rw [e]
      exact root_F k ps
    | some e =>
      rw [take_snoc h, F_snoc]
      exact (root_F k ps).step e
theorem rootF (ps : Es) : Root ps (F ps) := by
  have h := root_F ps.length ps
  rw [List.take_length] at h
  exact h
/-! the law's sweeps -/
theorem ls_le (f : Nat → Nat) (e : Nat × Nat) (v : Nat) : ls f e v ≤ f v := by
  unfold ls
  split
  · rename_i h; rw [h]; exact Nat.min_le_right _ _
  · split
    · rename_i h; rw [h]; exact Nat.min_le_left _ _
    · exact Nat.le_refl _
theorem sweep_le : ∀ (ps : Es) (f : Nat → Nat) (v : Nat), sweep ps f v ≤ f v
  | [], _, _ => Nat.le_refl _
  | e :: ps, f, v => Nat.le_trans (sweep_le ps (ls f e) v) (ls_le f e v)
theorem ls_1 (f : Nat → Nat) (e : Nat × Nat) : ls f e e.1 = min (f e.1) (f e.2) := by
  unfold ls
  split
  · rfl
  · rw [if_pos rfl]
theorem ls_2 (f : Nat → Nat) (e : Nat × Nat) : ls f e e.2 = min (f e.1) (f e.2) := by
  unfold ls
  rw [if_pos rfl]
theorem sweep_edge : ∀ (ps : Es) (f : Nat → Nat) (e : Nat × Nat), e ∈ ps → sweep ps f e.1 ≤ min (f e.1) (f e.2) ∧ sweep ps f e.2 ≤ min (f e.1) (f e.2)
  | [], _, _, h => by cases h
  | d :: ps, f, e, h => by
    rcases List.mem_cons.mp h with rfl | h
    · have h1 := sweep_le ps (ls f e) e.1
      have h2 := sweep_le ps (ls f e) e.2
      rw [ls_1] at h1
      rw [ls_2] at h2
      exact ⟨h1, h2⟩
    · have ih := sweep_edge ps (ls f d) e h
      have a := ls_le f d e.1
      have b := ls_le f d e.2
      have m : min (ls f d e.1) (ls f d e.2) ≤ min (f e.1) (f e.2) := by
        rcases min_or (f e.1) (f e.2) with ⟨q, _⟩ | ⟨q, _⟩ <;> rw [q]
        · exact Nat.le_trans (Nat.min_le_left _ _) a
        · exact Nat.le_trans (Nat.min_le_right _ _) b
      exact ⟨Nat.le_trans ih.1 m, Nat.le_trans ih.2 m⟩
theorem ls_conn {g f : Nat → Nat} {e : Nat × Nat} (he : g e.1 = g e.2) (h : ∀ v, g (f v) = g v) (v : Nat) : g (ls f e v) = g v := by
  have hm : g (min (f e.1) (f e.2)) = g e.1 := by
    rcases min_or (f e.1) (f e.2) with ⟨q, _⟩ | ⟨q, _⟩ <;> rw [q, h]
    exact he.symm
  unfold ls
  split
  · rename_i q; rw [hm, q]; exact he
  · split
    · rename_i q; rw [hm, q]
    · exact h v
theorem sweep_conn {g : Nat → Nat} : ∀ (ps : Es) (f : Nat → Nat), (∀ e ∈ ps, g e.1 = g e.2) → (∀ v, g (f v) = g v) → ∀ v, g (sweep ps f v) = g v
  | [], _, _, h => h
  | e :: ps, f, hg, h => sweep_conn ps (ls f e) (fun d hd => hg d (List.mem_cons_of_mem _ hd)) (ls_conn (hg e (List.mem_cons_self ..)) h)
theorem R_conn {g : Nat → Nat} {ps : Es} (hg : ∀ e ∈ ps, g e.1 = g e.2) : ∀ (t v : Nat), g (R ps t v) = g v
  | 0, _ => rfl
  | t + 1, v => sweep_conn ps (R ps t) hg (R_conn hg t) v
theorem R_le (ps : Es) : ∀ (t v : Nat), R ps t v ≤ v
  | 0, _ => Nat.le_refl _
  | t + 1, v => Nat.le_trans (sweep_le ps (R ps t) v) (R_le ps t v)
theorem F_le_R (ps : Es) (t v : Nat) : F ps v ≤ R ps t v := by
  have r := rootF ps
  have h := R_conn (g := F ps) (ps := ps) r.edge t v
  rw [← h]
  exact r.le _
theorem countP_lt {p q : Nat → Bool} : ∀ {l : List Nat}, (∀ x ∈ l, p x = true → q x = true) → (∃ x ∈ l, q x = true ∧ p x = false) → l.countP p < l.countP q
  | [], _, ⟨_, h, _⟩ => by cases h
  | a :: l, hpq, ⟨x, hx, qx, px⟩ => by
    have mono : l.countP p ≤ l.countP q := List.countP_mono_left fun y hy => hpq y (List.mem_cons_of_mem _ hy)
    rcases List.mem_cons.mp hx with rfl | hx
    · rw [List.countP_cons_of_pos qx, List.countP_cons_of_neg (by simp [px])]
      omega
    · have ih := countP_lt (l := l) (fun y hy => hpq y (List.mem_cons_of_mem _ hy)) ⟨x, hx, qx, px⟩
      by_cases ha : p a = true
      · rw [List.countP_cons_of_pos ha, List.countP_cons_of_pos (hpq a (List.mem_cons_self ..) ha)]
        omega
      · rw [List.countP_cons_of_neg ha]
        by_cases hb : q a = true
        · rw [List.countP_cons_of_pos hb]; omega
        · rw [List.countP_cons_of_neg hb]; exact ih
def hit (ps : Es) (t : Nat) : Nat → Bool := fun v => decide (R ps t v = F ps v)
theorem hit_mono (ps : Es) (t v : Nat) (h : hit ps t v = true) : hit ps (t + 1) v = true := by
  have h' : R ps t v = F ps v := of_decide_eq_true h
  have a := F_le_R ps (t + 1) v
  have b : R ps (t + 1) v ≤ R ps t v := sweep_le ps (R ps t) v
  exact decide_eq_true (by omega)
theorem hit_all_or (ps : Es) (n : Nat) (wi : ∀ e ∈ ps, e.1 < n ∧ e.2 < n) (t : Nat) : (∀ v, hit ps t v = true) ∨ (List.range n).countP (hit ps t) < (List.range n).countP (hit ps (t + 1)) := by
  by_cases hx : ∃ e ∈ ps, hit ps t e.1 ≠ hit ps t e.2
  · right
    obtain ⟨e, he, hne⟩ := hx
    have r := rootF ps
    have fe := r.edge e he
    have sw := sweep_edge ps (R ps t) e he
    have a1 := F_le_R ps (t + 1) e.1
    have a2 := F_le_R ps (t + 1) e.2
    have both : R ps (t + 1) e.1 ≤ min (R ps t e.1) (R ps t e.2) ∧ R ps (t + 1) e.2 ≤ min (R ps t e.1) (R ps t e.2) := sw
    have m1 := Nat.min_le_left (R ps t e.1) (R ps t e.2)
    have m2 := Nat.min_le_right (R ps t e.1) (R ps t e.2)
    have either : hit ps t e.1 = true ∨ hit ps t e.2 = true := by
      cases h1 : hit ps t e.1 with
      | true => exact .inl rfl
      | false =>
        cases h2 : hit ps t e.2 with
        | true => exact .inr rfl
        | false => rw [h1, h2] at hne; exact absurd rfl hne
    have n1 : hit ps (t + 1) e.1 = true := by
      rcases either with h | h
      · exact hit_mono ps t _ h
      · have h' : R ps t e.2 = F ps e.2 := of_decide_eq_true h
        exact decide_eq_true (by omega)
    have n2 : hit ps (t + 1) e.2 = true := by
      rcases either with h | h
      · have h' : R ps t e.1 = F ps e.1 := of_decide_eq_true h
        exact decide_eq_true (by omega)
      · exact hit_mono ps t _ h
    refine countP_lt (fun x _ => hit_mono ps t x) ?_
    cases h1 : hit ps t e.1 with
    | false => exact ⟨e.1, List.mem_range.mpr (wi e he).1, n1, h1⟩
    | true =>
      refine ⟨e.2, List.mem_range.mpr (wi e he).2, n2, ?_⟩
      cases h2 : hit ps t e.2 with
      | false => rfl
      | true => rw [h1, h2] at hne; exact absurd rfl hne
  · left
    intro v
    have r := rootF ps
    have hg : ∀ e ∈ ps, (fun u => (hit ps t u).toNat) e.1 = (fun u => (hit ps t u).toNat) e.2 := fun e he => by
      by_cases q : hit ps t e.1 = hit ps t e.2
      · show (hit ps t e.1).toNat = (hit ps t e.2).toNat
        rw [q]
      · exact absurd ⟨e, he, q⟩ hx
    have c := r.conn (fun u => (hit ps t u).toNat) hg v
    have root : hit ps t (F ps v) = true := by
      have a := R_le ps t (F ps v)
      have b := F_le_R ps t (F ps v)
      rw [r.idem] at b
      refine decide_eq_true ?_
      rw [r.idem]
      omega
    have c' : (hit ps t (F ps v)).toNat = (hit ps t v).toNat := c
    rw [root] at c'
    cases q : hit ps t v with
    | true => rfl
    | false => rw [q] at c'; cases c'
theorem count_le (ps : Es) (n : Nat) (wi : ∀ e ∈ ps, e.1 < n ∧ e.2 < n) : ∀ t, (∀ v, hit ps t v = true) ∨ t ≤ (List.range n).countP (hit ps t)
  | 0 => .inr (Nat.zero_le _)
  | t + 1 => by
    rcases count_le ps n wi t with h | h
    · exact .inl fun v => hit_mono ps t v (h v)
    · rcases hit_all_or ps n wi t with h2 | h2
      · exact .inl fun v => hit_mono ps t v (h2 v)
      · exact .inr (by omega)
theorem R_is_F (ps : Es) (n : Nat) (wi : ∀ e ∈ ps, e.1 < n ∧ e.2 < n) : ∀ v, v < n → R ps n v = F ps v := by
  intro v hv
  have all : hit ps n v = true := by
    rcases count_le ps n wi n with h | h
    · exact h v
    · have hl := List.countP_le_length (p := hit ps n) (l := List.range n)
      rw [List.length_range] at hl
      have e : (List.range n).countP (hit ps n) = (List.range n).length := by rw [List.length_range]; omega
      exact List.countP_eq_length.mp e v (List.mem_range.mpr hv)
  exact of_decide_eq_true all
/-! groups -/
def groupOf (n : Nat) (f : Nat → Nat) (first : Nat) : List Nat := (List.range n).filter fun v => decide (f v = first)
def groups (n : Nat) (f : Nat → Nat) : List (List Nat) := ((List.range n).filter fun a => decide (f a = a)).map (groupOf n f)
theorem groupOf_congr {n : Nat} {f g : Nat → Nat} (h : ∀ v, v < n → f v = g v) (a : Nat) : groupOf n f a = groupOf n g a := by
  unfold groupOf
  exact List.filter_congr fun v hv => by rw [h v (List.mem_range.mp hv)]
theorem groups_congr {n : Nat} {f g : Nat → Nat} (h : ∀ v, v < n → f v = g v) : groups n f = groups n g := by
  unfold groups
  rw [List.filter_congr (fun a ha => by rw [h a (List.mem_range.mp ha)])]
  exact List.map_congr_left fun a _ => groupOf_congr h a
/-- a name that stands among the labels is its own label -/
theorem mem_labels {ps : Es} {n a : Nat} (ha : a < n) : a ∈ (List.range n).map (F ps) ↔ F ps a = a := by
  have r := rootF ps
  constructor
  · intro h
    obtain ⟨v, _, e⟩ := List.mem_map.mp h
    rw [← e, r.idem]
  · intro h
    exact List.mem_map.mpr ⟨a, List.mem_range.mpr ha, h⟩
/-- a group has both exactly if their labels agree -/
theorem both_in {ps : Es} {n t h : Nat} (ht : t < n) (hh : h < n) : ((groups n (F ps)).filter fun g => decide (t ∈ g) && decide (h ∈ g)) = [] ↔ F ps t ≠ F ps h := by
  have r := rootF ps
  constructor
  · intro e q
    have hm : groupOf n (F ps) (F ps t) ∈ groups n (F ps) := by
      refine List.mem_map.mpr ⟨F ps t, List.mem_filter.mpr ⟨List.mem_range.mpr (Nat.lt_of_le_of_lt (r.le t) ht), decide_eq_true (r.idem t)⟩, rfl⟩
    have hf : groupOf n (F ps) (F ps t) ∈ (groups n (F ps)).filter fun g => decide (t ∈ g) && decide (h ∈ g) := by
      refine List.mem_filter.mpr ⟨hm, ?_⟩
      have a : t ∈ groupOf n (F ps) (F ps t) := List.mem_filter.mpr ⟨List.mem_range.mpr ht, decide_eq_true rfl⟩
      have b : h ∈ groupOf n (F ps) (F ps t) := List.mem_filter.mpr ⟨List.mem_range.mpr hh, decide_eq_true q.symm⟩
      rw [decide_eq_true a, decide_eq_true b]
      rfl
    rw [e] at hf
    cases hf
  · intro q
    refine List.filter_eq_nil_iff.mpr fun g hg hb => ?_
    obtain ⟨a, _, rfl⟩ := List.mem_map.mp hg
    simp only [Bool.and_eq_true, decide_eq_true_eq] at hb
    have h1 := of_decide_eq_true (List.mem_filter.mp hb.1).2
    have h2 := of_decide_eq_true (List.mem_filter.mp hb.2).2
    exact q (h1.trans h2.symm)
/-- the forest's numbers among the first k edges -/
def at2 (ps : Es) (i : Nat) : Nat × Nat := ps.getD i (0, 0)
def grows (ps : Es) (i : Nat) : Bool := decide (F (ps.take i) (at2 ps i).1 ≠ F (ps.take i) (at2 ps i).2)
def nums (ps : Es) (k : Nat) : List Nat := (List.range k).filter (grows ps)
theorem nums_succ (ps : Es) (k : Nat) : nums ps (k + 1) = if grows ps k = true then nums ps k ++ [k] else nums ps k := by
  unfold nums
  rw [List.range_succ, List.filter_append]
  cases h : grows ps k with
  | true => simp [h]
  | false => simp [h]
theorem at2_get {ps : Es} {i : Nat} {e : Nat × Nat} (h : ps[i]? = some e) : at2 ps i = e := by
  unfold at2
  rw [List.getD_eq_getElem?_getD, h]
  rfl
end Wm

namespace Ee
open PySem L2
/-! ## webs as data -/
structure WD where
  n : Nat
  ps : List (Nat × Nat)
  m : Int
def Within (n : Nat) (ps : List (Nat × Nat)) : Prop := ∀ e ∈ ps, e.1 < n ∧ e.2 < n
structure WD.Ok (w : WD) : Prop where
  n1 : 1 ≤ w.n
  n30 : w.n ≤ 30
  wi : Within w.n w.ps
  l60 : w.ps.length ≤ 60
  md : w.m = 0 ∨ 2 ≤ w.m ∧ w.m ≤ 60
abbrev dN (k : Nat) : PyData := .int (k : Int)
def dPair (e : Nat × Nat) : PyData := .tuple [dN e.1, dN e.2]
abbrev dEdges (ps : List (Nat × Nat)) : PyData := .list (ps.map dPair)
abbrev dNs (l : List Nat) : PyData := .list (l.map dN)
def WD.nums (w : WD) : List Nat := Wm.nums w.ps w.ps.length
/-! ties -/
def tieOf (ps : List (Nat × Nat)) (k v : Nat) : List PyData :=
  (if (Wm.at2 ps k).1 = v then [.tuple [.tuple [dN k, .int 1], dN (Wm.at2 ps k).2]] else []) ++ (if (Wm.at2 ps k).2 = v then [.tuple [.tuple [dN k, .int (-1)], dN (Wm.at2 ps k).1]] else [])
def tiesOf (ps : List (Nat × Nat)) (ks : List Nat) (v : Nat) : List PyData := ks.flatMap fun k => tieOf ps k v
def dTies (n : Nat) (f : Nat → List PyData) : PyData := .list ((List.range n).map fun v => .list (f v))
/-! fields -/
theorem putF_new {f : Str} {v : V} : ∀ {fs : List (Str × V)} {ks : List Str}, fs.map (·.1) = ks → (ks.all fun k => decide (k ≠ f)) = true → putF f v fs = fs ++ [(f, v)]
  | [], _, _, _ => rfl
  | (g, x) :: fs, ks, h, hk => by
    subst h
    simp only [List.map_cons, List.all_cons, Bool.and_eq_true, decide_eq_true_eq] at hk
    have ih := putF_new (f := f) (v := v) (fs := fs) rfl hk.2
    show (if g = f then (g, v) :: fs else (g, x) :: putF f v fs) = _
    rw [if_neg hk.1, ih]
    rfl
theorem lk_here {k : Str} {v : V} {r : List (Str × V)} : List.lookup k ((k, v) :: r) = some v := by
  have e : (k == k) = true := beq_self_eq_true k
  simp only [List.lookup, e]
theorem lk_past {k g : Str} {v : V} {r : List (Str × V)} (h : (k == g) = false) : List.lookup k ((g, v) :: r) = List.lookup k r := by
  simp only [List.lookup, h]
def wf (n : Nat) (le : V) (m : Int) (lf lfn lt : V) : List (Str × V) := [("node_count", .int n), ("edge_pairs", le), ("gain_modulus", .int m), ("forest_numbers", lf), ("first_nodes", lfn), ("forest_ties", lt)]
section
variable (n : Nat) (le : V) (m : Int) (lf lfn lt : V)
theorem wf_count : (wf n le m lf lfn lt).lookup ("node_count" : Str) = some (.int n) := lk_here
theorem wf_pairs : (wf n le m lf lfn lt).lookup ("edge_pairs" : Str) = some le := (lk_past (by decide +kernel)).trans lk_here
theorem wf_mod : (wf n le m lf lfn lt).lookup ("gain_modulus" : Str) = some (.int m) := (lk_past (by decide +kernel)).trans ((lk_past (by decide +kernel)).trans lk_here)
theorem wf_nums : (wf n le m lf lfn lt).lookup ("forest_numbers" : Str) = some lf := (lk_past (by decide +kernel)).trans ((lk_past (by decide +kernel)).trans ((lk_past (by decide +kernel)).trans lk_here))
theorem wf_firsts : (wf n le m lf lfn lt).lookup ("first_nodes" : Str) = some lfn := (lk_past (by decide +kernel)).trans ((lk_past (by decide +kernel)).trans ((lk_past (by decide +kernel)).trans ((lk_past (by decide +kernel)).trans lk_here)))
theorem wf_ties : (wf n le m lf lfn lt).lookup ("forest_ties" : Str) = some lt := (lk_past (by decide +kernel)).trans ((lk_past (by decide +kernel)).trans ((lk_past (by decide +kernel)).trans ((lk_past (by decide +kernel)).trans ((lk_past (by decide +kernel)).trans lk_here))))
theorem wf_none {k : Str} (h : (["node_count", "edge_pairs", "gain_modulus", "forest_numbers", "first_nodes", "forest_ties"] : List Str).all (fun g => !(k == g)) = true) : (wf n le m lf lfn lt).lookup k = none := by
  simp only [List.all_cons, List.all_nil, Bool.and_eq_true, Bool.not_eq_true', Bool.and_true] at h
  obtain ⟨h1, h2, h3, h4, h5, h6⟩ := h
  unfold wf
  rw [lk_past h1, lk_past h2, lk_past h3, lk_past h4, lk_past h5, lk_past h6]
  rfl
end
/-- what the top has written of the class -/
structure Txt (K : PySem.W.Frag) (mg : Str → Option Value) (C : Addr) : Prop where
  cl : Cls K C
  n1 : NoAttr K C "node_count"
  n2 : NoAttr K C "edge_pairs"
  n3 : NoAttr K C "gain_modulus"
  n4 : NoAttr K C "forest_numbers"
  n5 : NoAttr K C "first_nodes"
  n6 : NoAttr K C "forest_ties"
  mgC : mg "Web" = some (.ref C)
def vW (C : Addr) (w : WD) : VP := ⟨fun H v => w.Ok ∧ ∃ (p dx : Addr) (le lf lfn lt : V), v = .ref p ∧ H p = some (.ins C dx (wf w.n le w.m lf lfn lt)) ∧ Dx H le (dEdges w.ps) ∧ Dx H lf (dNs w.nums) ∧ Dx H lfn (dNs ((List.range w.n).map (Wm.F w.ps))) ∧ Dx H lt (dTies w.n (tiesOf w.ps w.nums)),
  fun s ⟨ok, p, dx, le, lf, lfn, lt, e, h, h1, h2, h3, h4⟩ => ⟨ok, p, dx, le, lf, lfn, lt, e, s _ _ h, Dx.same s _ _ h1, Dx.same s _ _ h2, Dx.same s _ _ h3, Dx.same s _ _ h4⟩⟩
section
variable {X Y : Vol} {σ : L2.St} {H H' H0 H1 : Hp} {ta tb tc te tl : TE} {t u : TT} {P P' : VP} {K : Fr} {b c : Bool} {i j k : Int} {d e : PyData} {ds es : List PyData} {l : Addr} {D : Ends} {tz ty tw : TS} {C : Addr} {w : WD} {mg : Str → Option Value}
theorem ins_web {m : Str} (h : (["node_count", "edge_pairs", "gain_modulus", "forest_numbers", "first_nodes", "forest_ties"] : List Str).all (fun g => !(m == g)) = true) : IsIns C m (vW C w) := fun H v ⟨_, p, dx, le, lf, lfn, lt, e, h1, _⟩ => ⟨p, dx, _, e, h1, wf_none _ _ _ _ _ _ h⟩
theorem fld_count (h : Ev X te σ H (vW C w)) (T : Txt K mg C) : Ev X (tFld K te "node_count") σ H (vI w.n) := fun Y H1 e Q q => h Y H1 e _ fun v H2 e2 ⟨_, p, dx, le, lf, lfn, lt, ev, h1, h2, h3, h4, h5⟩ =>
  ⟨p, C, dx, _, _, ev, wo_le _ _ h1, T.cl, T.n1, wf_count _ _ _ _ _ _, q _ H2 e2 (.int _)⟩
theorem fld_pairs (h : Ev X te σ H (vW C w)) (T : Txt K mg C) : Ev X (tFld K te "edge_pairs") σ H (vD (dEdges w.ps)) := fun Y H1 e Q q => h Y H1 e _ fun v H2 e2 ⟨_, p, dx, le, lf, lfn, lt, ev, h1, h2, h3, h4, h5⟩ =>
  ⟨p, C, dx, _, _, ev, wo_le _ _ h1, T.cl, T.n2, wf_pairs _ _ _ _ _ _, q _ H2 e2 h2⟩
theorem fld_mod (h : Ev X te σ H (vW C w)) (T : Txt K mg C) : Ev X (tFld K te "gain_modulus") σ H (vI w.m) := fun Y H1 e Q q => h Y H1 e _ fun v H2 e2 ⟨_, p, dx, le, lf, lfn, lt, ev, h1, h2, h3, h4, h5⟩ =>
  ⟨p, C, dx, _, _, ev, wo_le _ _ h1, T.cl, T.n3, wf_mod _ _ _ _ _ _, q _ H2 e2 (.int _)⟩
theorem fld_nums (h : Ev X te σ H (vW C w)) (T : Txt K mg C) : Ev X (tFld K te "forest_numbers") σ H (vD (dNs w.nums)) := fun Y H1 e Q q => h Y H1 e _ fun v H2 e2 ⟨_, p, dx, le, lf, lfn, lt, ev, h1, h2, h3, h4, h5⟩ =>
  ⟨p, C, dx, _, _, ev, wo_le _ _ h1, T.cl, T.n4, wf_nums _ _ _ _ _ _, q _ H2 e2 h3⟩
theorem fld_firsts (h : Ev X te σ H (vW C w)) (T : Txt K mg C) : Ev X (tFld K te "first_nodes") σ H (vD (dNs ((List.range w.n).map (Wm.F w.ps)))) := fun Y H1 e Q q => h Y H1 e _ fun v H2 e2 ⟨_, p, dx, le, lf, lfn, lt, ev, h1, h2, h3, h4, h5⟩ =>
  ⟨p, C, dx, _, _, ev, wo_le _ _ h1, T.cl, T.n5, wf_firsts _ _ _ _ _ _, q _ H2 e2 h4⟩
theorem fld_ties (h : Ev X te σ H (vW C w)) (T : Txt K mg C) : Ev X (tFld K te "forest_ties") σ H (vD (dTies w.n (tiesOf w.ps w.nums))) := fun Y H1 e Q q => h Y H1 e _ fun v H2 e2 ⟨_, p, dx, le, lf, lfn, lt, ev, h1, h2, h3, h4, h5⟩ =>
  ⟨p, C, dx, _, _, ev, wo_le _ _ h1, T.cl, T.n6, wf_ties _ _ _ _ _ _, q _ H2 e2 h5⟩
/-! an instance that is being made -/
structure MakI (X : Vol) (H0 : Hp) (p C dx : Addr) (H : Hp) (fs : List (Str × V)) : Prop where
  i0 : X.I H0
  fr : H0 p = none
  sub : Sub X H0 (X.add p) H
  ex : H p = some (.ins C dx fs)
theorem MakI.start {p C dx : Addr} (i : X.I H) (hp : H p = none) (hd : H dx = none) (hn : dx ≠ p) : MakI X H p C dx (upd (upd H dx (.own p)) p (.ins C dx [])) [] := by
  have i1 := Sub.new (X := X) (o := .own p) i hd
  have hp1 : upd H dx (.own p) p = none := by rw [upd_ne hn.symm]; exact hp
  exact ⟨i, hp, i1.trans (.add i1.inv hp1), upd_same⟩
theorem MakI.ext {p C dx : Addr} {fs : List (Str × V)} (m : MakI X H0 p C dx H fs) (e : Ext (X.add p) H H') : MakI X H0 p C dx H' fs :=
  ⟨m.i0, m.fr, m.sub.trans e, e.old _ _ (fun z => m.i0.live p (X.subV _ z) m.fr) m.ex⟩
theorem MakI.put {p C dx : Addr} {fs gs : List (Str × V)} (m : MakI X H0 p C dx H fs) : MakI X H0 p C dx (upd H p (.ins C dx gs)) gs := ⟨m.i0, m.fr, m.sub.put m.i0 m.fr, upd_same⟩
/-- self.f = e -/
theorem q_fld {n : Nat} {f : Str} {p C dx : Addr} {fs : List (Str × V)} (m : MakI X H0 p C dx H fs) (hs : σ[n]? = some (some (.ref p))) (hc : Cls K C) (hn : NoAttr K C f) (hl : fs.length < 1000) (h : Ev (X.add p) te σ H P)
    (k : ∀ v H1, MakI X H0 p C dx H1 (putF f v fs) → Same ((X.add p).wo H) ((X.add p).wo H1) → P.at_ ((X.add p).wo H1) v → tz D σ H1) : tSeq (sFld K (tVar n) te f) tz D σ H := h.go m.sub.inv fun v H1 e pv => by
  refine ⟨_, hs, p, C, dx, fs, rfl, (m.ext e).ex, hc, hn, hl, k v _ (m.ext e).put ?_ ?_⟩
  · rw [wo_put]; exact e.wo
  · rw [wo_put]; exact pv
theorem s_fld {n : Nat} {f : Str} {p C dx : Addr} {fs : List (Str × V)} (m : MakI X H0 p C dx H fs) (hs : σ[n]? = some (some (.ref p))) (hc : Cls K C) (hn : NoAttr K C f) (hl : fs.length < 1000) (h : Ev (X.add p) te σ H P)
    (k : ∀ v H1, MakI X H0 p C dx H1 (putF f v fs) → Same ((X.add p).wo H) ((X.add p).wo H1) → P.at_ ((X.add p).wo H1) v → D.nx σ H1) : sFld K (tVar n) te f D σ H := h.go m.sub.inv fun v H1 e pv => by
  refine ⟨_, hs, p, C, dx, fs, rfl, (m.ext e).ex, hc, hn, hl, k v _ (m.ext e).put ?_ ?_⟩
  · rw [wo_put]; exact e.wo
  · rw [wo_put]; exact pv
end
end Ee

namespace Ee
open PySem L2
/-! ## a list of lists that is being made -/
def Vol.addL (X : Vol) (L : List Addr) : Vol := ⟨X.pool, fun a => X.S a ∨ a ∈ L, fun p h => .inl (X.sub p h), X.T, fun p h => .inl (X.subT p h)⟩
structure MakT (X : Vol) (H0 : Hp) (D : Addr) (ls : List Addr) (H : Hp) (n : Nat) (f : Nat → List PyData) : Prop where
  i0 : X.I H0
  len : ls.length = n
  nd : (D :: ls).Nodup
  fr : ∀ l ∈ D :: ls, H0 l = none
  sub : Sub X H0 (X.addL (D :: ls)) H
  at_ : H D = some (.lst (ls.map V.ref))
  ex : ∀ (v : Nat) (l : Addr), ls[v]? = some l → ∃ xs, H l = some (.lst xs) ∧ DxAll ((X.addL (D :: ls)).wo H) xs (f v)
section
variable {X Y : Vol} {σ : L2.St} {H H' H0 H1 : Hp} {ta tb tc te tl : TE} {K : Fr} {d e : PyData} {ls : List Addr} {ds es : List PyData} {l D : Addr} {E : Ends} {tz ty tw : TS} {n : Nat} {f : Nat → List PyData}
theorem MakT.start (i : X.I H) (h : H D = none) : MakT X H D [] (upd H D (.lst [])) 0 (fun _ => []) := by
  refine ⟨i, rfl, by simp, fun l hl => ?_, ?_, upd_same, fun v l e => by simp at e⟩
  · have e : l = D := by simpa using hl
    rw [e]; exact h
  · have a := Sub.add (X := X) (o := .lst []) i h
    refine ⟨a.pool, a.tt, fun b z => .inl z, fun b z => ?_, a.old, ⟨fun b z => ?_, a.inv.pl, a.inv.ti.less rfl fun b z => by simpa [Vol.addL, Vol.add] using z⟩⟩
    · rcases z with z | z
      · exact .inl z
      · have e : b = D := by simpa using z
        rw [e]; exact .inr h
    · rcases z with z | z
      · exact a.inv.live b (.inl z)
      · exact a.inv.live b (.inr (by simpa using z))
theorem addL_more {L M : List Addr} (s : Sub X H0 (X.addL L) H) (hM : ∀ a ∈ M, a ∈ L ∨ H0 a = none ∧ ∃ o, H a = some o ∧ Pl o) (hL : ∀ a ∈ L, a ∈ M) : Sub X H0 (X.addL M) H := by
  refine ⟨s.pool, s.tt, fun a z => .inl z, fun a z => ?_, s.old, ⟨fun a z => ?_, s.inv.pl, ⟨s.inv.ti.1, fun n a z nT u hu => ?_⟩⟩⟩
  · rcases z with z | z
    · exact .inl z
    · rcases hM a z with z | z
      · exact s.dn a (.inr z)
      · exact .inr z.1
  · rcases z with z | z
    · exact s.inv.live a (.inl z)
    · rcases hM a z with z | ⟨_, o, z, _⟩
      · exact s.inv.live a (.inr z)
      · rw [z]; exact fun z => nomatch z
  · rcases z with z | z
    · exact s.inv.ti.2 n a (.inl z) nT u hu
    · rcases hM a z with z | ⟨_, o, z, p⟩
      · exact s.inv.ti.2 n a (.inr z) nT u hu
      · rw [z] at hu
        rw [← Option.some.inj hu]
        exact p
/-- something of L changes -/
theorem addL_put {L : List Addr} {a : Addr} {o : HO} (i : X.I H0) (s : Sub X H0 (X.addL L) H) (ha : H0 a = none) (hpl : (∀ u, H a = some u → Pl u) ∨ (X.addL L).S a := by exact .inr (.inr (by simp))) (po : Pl o := by exact True.intro) : Sub X H0 (X.addL L) (upd H a o) := by
  refine ⟨s.pool, s.tt, s.up, s.dn, fun b u nb q => ?_, ⟨fun b z => ?_, fun p hp => ?_, s.inv.ti.put rfl (fun _ z => .inr z) hpl (fun q hq => i.ti.fresh ha q (by rw [← s.tt]; exact hq)) po⟩⟩
  · rw [upd_ne (ne_of_none q ha)]
    exact s.old b u nb q
  · by_cases hb : b = a
    · subst hb; rw [upd_same]; exact fun z => nomatch z
    · rw [upd_ne hb]; exact s.inv.live b z
  · obtain ⟨x, y, q, r⟩ := s.inv.pl p hp
    refine ⟨x, y, ?_, r⟩
    rw [upd_ne]
    · exact q
    · rintro rfl
      exact i.live _ (X.sub _ (s.pool.symm.trans hp)) ha
theorem wo_putL {L : List Addr} {a : Addr} {o : HO} (h : a ∈ L) : (X.addL L).wo (upd H a o) = (X.addL L).wo H := by
  funext b
  by_cases hb : (X.addL L).S b
  · rw [wo_in hb, wo_in hb]
  · rw [wo_out hb, wo_out hb, upd_ne fun z => hb (.inr (by rw [z]; exact h))]
/-- one list more -/
theorem MakT.more (m : MakT X H0 D ls H n (fun _ => [])) (hl : H l = none) : ∃ acc, upd H l (.lst []) D = some (.lst acc) ∧ acc.length = n ∧ MakT X H0 D (ls ++ [l]) (upd (upd H l (.lst [])) D (.lst (acc ++ [.ref l]))) (n + 1) (fun _ => []) := by
  obtain ⟨i0, h1, h2, h3, s, h4, h5⟩ := m
  have nlD : D ≠ l := ne_of_none h4 hl
  have hl0 : H0 l = none := by
    cases q : H0 l with
    | none => rfl
    | some o =>
      by_cases hp : X.V l
      · exact absurd hl (s.inv.live l (.inl (X.subV _ hp)))
      · rw [s.old l o hp q] at hl; cases hl
  have hD0 : H0 D = none := h3 D (by simp)
  have nl : l ∉ ls := fun z => by
    obtain ⟨v, hv, e⟩ := List.getElem_of_mem z
    obtain ⟨xs, hx, _⟩ := h5 v l (by rw [List.getElem?_eq_getElem hv, e])
    rw [hx] at hl; cases hl
  have s1 : Sub X H0 (X.addL (D :: ls)) (upd H l (.lst [])) := addL_put i0 s hl0 (.inl fun u hu => by rw [hl] at hu; cases hu)
  have s2 : Sub X H0 (X.addL (D :: (ls ++ [l]))) (upd H l (.lst [])) := addL_more s1 (fun a ha => by
    simp only [List.mem_cons, List.mem_append, List.not_mem_nil, or_false] at ha ⊢
    rcases ha with ha | ha | ha
    · exact .inl (.inl ha)
    · exact .inl (.inr ha)
    · right
      subst ha
      exact ⟨hl0, _, upd_same, True.intro⟩) (fun a ha => by
    simp only [List.mem_cons, List.mem_append, List.not_mem_nil, or_false] at ha ⊢
    rcases ha with ha | ha
    · exact .inl ha
    · exact .inr (.inl ha))
  refine ⟨ls.map V.ref, by rw [upd_ne nlD]; exact h4, by rw [List.length_map, h1], i0, by simp [h1], ?_, fun a ha => ?_, addL_put i0 s2 hD0, by rw [upd_same]; simp, fun v a hv => ?_⟩
  · simp only [List.nodup_cons, List.nodup_append, List.mem_append, List.mem_cons, List.not_mem_nil, or_false, not_or] at h2 ⊢
    refine ⟨⟨h2.1, nlD⟩, h2.2, ⟨by simp, List.nodup_nil⟩, fun a ha b hb => ?_⟩
    subst hb
    exact fun z => nl (z ▸ ha)
  · simp only [List.mem_cons, List.mem_append, List.not_mem_nil, or_false] at ha
    rcases ha with ha | ha | ha
    · exact h3 a (by simp [ha])
    · exact h3 a (by simp [ha])
    · rw [ha]; exact hl0
  · by_cases hv2 : v < ls.length
    · rw [List.getElem?_append_left hv2] at hv
      obtain ⟨xs, hx, hd⟩ := h5 v a hv
      cases hd
      have nal : a ≠ l := ne_of_none hx hl
      have naD : a ≠ D := fun z => by
        have := List.mem_of_getElem? hv
        rw [z] at this
        exact (List.nodup_cons.mp h2).1 this
      exact ⟨[], by rw [upd_ne naD, upd_ne nal]; exact hx, .nil⟩
    · have e : v = ls.length := by
        have := (List.getElem?_eq_some_iff.mp hv).1
        simp at this
        omega
      subst e
      rw [List.getElem?_append_right (Nat.le_refl _)] at hv
      simp at hv
      subst hv
      exact ⟨[], by rw [upd_ne nlD.symm, upd_same], .nil⟩
/-- lists[v].append(e) -/
theorem s_appT {a b v : Nat} (m : MakT X H0 D ls H n f) (hv : v < n) (hs : σ[a]? = some (some (.ref D))) (hb : σ[b]? = some (some (.int (v : Int)))) (h : Ev (X.addL (D :: ls)) te σ H (vD d)) (hz : (f v).length < 40000)
    (k : ∀ H1, MakT X H0 D ls H1 n (fun u => if u = v then f v ++ [d] else f u) → Wk (X.addL (D :: ls)) H (X.addL (D :: ls)) H1 → E.nx σ H1) : tDrop (tBM K "list" rAppend (tOp (rIxL K) (tVar a) (tVar b)) (tCons te tNil)) E σ H := by
  obtain ⟨i0, h1, h2, h3, s, h4, h5⟩ := m
  obtain ⟨l, hl⟩ : ∃ l, ls[v]? = some l := ⟨_, List.getElem?_eq_getElem (by omega)⟩
  obtain ⟨xs, hx, hd⟩ := h5 v l hl
  refine ⟨_, hs, _, hb, D, _, _, .ref l, rfl, rfl, SqL.of h4, atI_nat (by rw [List.getElem?_map, hl]; rfl), .inl ⟨rfl, _, SqL.of hx⟩, h.go s.inv fun y H2 e p => ?_⟩
  have np : ∀ a ∈ D :: ls, ¬ (X.addL (D :: ls)).V a := fun a ha z => i0.live a (X.subV _ z) (h3 a ha)
  have hlm : l ∈ D :: ls := by simp [List.mem_of_getElem? hl]
  have nD : D ∉ ls := (List.nodup_cons.mp h2).1
  have nlD : D ≠ l := fun z => nD (by rw [z]; exact List.mem_of_getElem? hl)
  refine ⟨l, xs, y, rfl, rfl, e.old _ _ (np l hlm) hx, by rw [hd.len]; exact Nat.lt_of_lt_of_le hz (by decide), k _ ⟨i0, h1, h2, h3, addL_put i0 (s.trans e) (h3 l hlm) (.inr (.inr hlm)), by rw [upd_ne nlD]; exact e.old _ _ (np D (by simp)) h4, fun u a hu => ?_⟩ ?_⟩
  rotate_left
  · refine ⟨rfl, fun _ z => z, fun _ z => .inl z, fun b u n q => ?_, (addL_put i0 (s.trans e) (h3 l hlm) (.inr (.inr hlm))).inv⟩
    rw [upd_ne fun (z : b = l) => n (.inr (by rw [z]; exact hlm))]
    exact e.wk.old b u n q
  rw [wo_putL hlm]
  by_cases huv : u = v
  · subst huv
    rw [hl] at hu
    cases hu
    rw [if_pos rfl]
    exact ⟨_, upd_same, (e.upA hd).app (.cons p .nil)⟩
  · rw [if_neg huv]
    obtain ⟨zs, hzs, hzd⟩ := h5 u a hu
    have nal : a ≠ l := fun z => by
      subst z
      have := (List.getElem?_inj (List.getElem?_eq_some_iff.mp hu).1 (List.nodup_cons.mp h2).2).mp (hu.trans hl.symm)
      exact huv this
    exact ⟨zs, by rw [upd_ne nal]; exact e.old _ _ (np a (by simp [List.mem_of_getElem? hu])) hzs, e.upA hzd⟩
theorem dx_lists {H : Hp} : ∀ {ls : List Addr} {fs : List (List PyData)}, ls.length = fs.length → (∀ (v : Nat) (l : Addr) (g : List PyData), ls[v]? = some l → fs[v]? = some g → Dx H (.ref l) (.list g)) → DxAll H (ls.map V.ref) (fs.map PyData.list)
  | [], [], _, _ => .nil
  | [], _ :: _, h, _ => by cases h
  | _ :: _, [], h, _ => by cases h
  | l :: ls, g :: fs, h, k => .cons (k 0 l g rfl rfl) (dx_lists (Nat.succ.inj h) fun v a b p q => k (v + 1) a b p q)
theorem MakT.done (m : MakT X H0 D ls H n f) : Ext X H0 H ∧ Dx (X.wo H) (.ref D) (dTies n f) := by
  obtain ⟨i0, h1, h2, h3, s, h4, h5⟩ := m
  have nS : ∀ a ∈ D :: ls, ¬ X.S a := fun a ha z => i0.live a z (h3 a ha)
  have le : Same ((X.addL (D :: ls)).wo H) (X.wo H) := fun b o hb => by
    obtain ⟨q1, q2⟩ := wo_some hb
    rw [wo_out fun z => q2 (.inl z)]
    exact q1
  refine ⟨⟨rfl, rfl, fun _ z => z, fun _ z => .inl z, s.old, ⟨fun a z => s.inv.live a (.inl z), s.inv.pl, s.inv.ti.less rfl fun _ z => .inl z⟩⟩, ?_⟩
  unfold dTies
  have e1 : ((List.range n).map fun v => PyData.list (f v)) = ((List.range n).map f).map PyData.list := by rw [List.map_map]; rfl
  rw [e1]
  refine .lst (by rw [wo_out (nS D (by simp))]; exact h4) (dx_lists (by rw [h1, List.length_map, List.length_range]) fun v l g hl hg => ?_)
  obtain ⟨xs, hx, hd⟩ := h5 v l hl
  have hv : v < n := by rw [← h1]; exact (List.getElem?_eq_some_iff.mp hl).1
  rw [List.getElem?_map, List.getElem?_range hv] at hg
  cases hg
  exact .lst (by rw [wo_out (nS l (by simp [List.mem_of_getElem? hl]))]; exact hx) (DxAll.same le _ _ hd)
/-! isinstance -/
def isTup : PyData → Bool
  | .tuple _ => true
  | _ => false
def isLst : PyData → Bool
  | .list _ => true
  | _ => false
theorem kit_tupD : ∀ d : PyData, PySem.W.kitOne K (tyD d) (.type "tuple") = some (isTup d)
  | .none => kit_ty (r := false) (by decide +kernel)
  | .bool _ => kit_ty (r := false) (by decide +kernel)
  | .int _ => kit_ty (r := false) (by decide +kernel)
  | .str _ => kit_ty (r := false) (by decide +kernel)
  | .list _ => kit_ty (r := false) (by decide +kernel)
  | .tuple _ => kit_ty (r := true) (by decide +kernel)
  | .dict _ => kit_ty (r := false) (by decide +kernel)
theorem kit_lstD : ∀ d : PyData, PySem.W.kitOne K (tyD d) (.type "list") = some (isLst d)
  | .none => kit_ty (r := false) (by decide +kernel)
  | .bool _ => kit_ty (r := false) (by decide +kernel)
  | .int _ => kit_ty (r := false) (by decide +kernel)
  | .str _ => kit_ty (r := false) (by decide +kernel)
  | .list _ => kit_ty (r := true) (by decide +kernel)
  | .tuple _ => kit_ty (r := false) (by decide +kernel)
  | .dict _ => kit_ty (r := false) (by decide +kernel)
theorem ev_isTup (h : Ev X te σ H (vD d)) : Ev X (tCB (rIsi K) (tCons te (tCons (tC (.ty "tuple")) tNil))) σ H (vB (isTup d)) := fun Y H1 e Q q => h Y H1 e _ fun v H2 e2 p2 =>
  ⟨v, _, _, _, _, rfl, .ty _, Dx.ty (Dx.same wo_le _ _ p2), kit_tupD d, q _ H2 e2 (.bl _)⟩
theorem ev_isLst (h : Ev X te σ H (vD d)) : Ev X (tCB (rIsi K) (tCons te (tCons (tC (.ty "list")) tNil))) σ H (vB (isLst d)) := fun Y H1 e Q q => h Y H1 e _ fun v H2 e2 p2 =>
  ⟨v, _, _, _, _, rfl, .ty _, Dx.ty (Dx.same wo_le _ _ p2), kit_lstD d, q _ H2 e2 (.bl _)⟩
/-! i, j = e -/
theorem q_unpack2 {D : Ends} {i j : Nat} (h : Ev X te σ H (vT [d, e])) (iv : X.I H) (k : ∀ v1 v2 H1, Ext X H H1 → Dx (X.wo H1) v1 d → Dx (X.wo H1) v2 e → tz D ((σ.set i (some v1)).set j (some v2)) H1) : tSeq (tAsg te (gTup K 2 (gCons (gName i) (gCons (gName j) gNil)))) tz D σ H := h.go iv fun v H1 e p => by
  cases p with
  | tup ea al =>
    cases al with
    | cons a t =>
      cases t with
      | cons b t =>
        cases t
        exact ⟨_, _, rfl, SqT.of (wo_le _ _ ea), rfl, _, _, rfl, _, _, rfl, rfl, k _ _ H1 e a b⟩
theorem s_unpack2 {D : Ends} {i j : Nat} (h : Ev X te σ H (vT [d, e])) (iv : X.I H) (k : ∀ v1 v2 H1, Ext X H H1 → Dx (X.wo H1) v1 d → Dx (X.wo H1) v2 e → D.nx ((σ.set i (some v1)).set j (some v2)) H1) : tAsg te (gTup K 2 (gCons (gName i) (gCons (gName j) gNil))) D σ H := h.go iv fun v H1 e p => by
  cases p with
  | tup ea al =>
    cases al with
    | cons a t =>
      cases t with
      | cons b t =>
        cases t
        exact ⟨_, _, rfl, SqT.of (wo_le _ _ ea), rfl, _, _, rfl, _, _, rfl, rfl, k _ _ H1 e a b⟩
theorem ev_varD {n : Nat} {v : V} (h : σ[n]? = some (some v)) (p : Dx (X.wo H) v d) : Ev X (tVar n) σ H (vD d) := ev_var h p
theorem ev_varW {n : Nat} {v : V} {C : Addr} {w : WD} (h : σ[n]? = some (some v)) (p : (vW C w).at_ (X.wo H) v) : Ev X (tVar n) σ H (vW C w) := ev_var h p
end
end Ee

namespace Ee
open PySem L2
/-! ## ways over ties, breadth first -/
abbrev Stp := Nat × Int
def dStp (s : Stp) : PyData := .tuple [dN s.1, .int s.2]
abbrev dSteps (l : List Stp) : PyData := .list (l.map dStp)
def dTie (t : Stp × Nat) : PyData := .tuple [dStp t.1, dN t.2]
def tieN (ps : List (Nat × Nat)) (k v : Nat) : List (Stp × Nat) :=
  (if (Wm.at2 ps k).1 = v then [((k, 1), (Wm.at2 ps k).2)] else []) ++ (if (Wm.at2 ps k).2 = v then [((k, -1), (Wm.at2 ps k).1)] else [])
def tiesN (ps : List (Nat × Nat)) (ks : List Nat) (v : Nat) : List (Stp × Nat) := ks.flatMap fun k => tieN ps k v
theorem tieOf_is (ps : List (Nat × Nat)) (k v : Nat) : tieOf ps k v = (tieN ps k v).map dTie := by
  unfold tieOf tieN
  rw [List.map_append]
  congr 1 <;> split <;> rfl
theorem tiesOf_is (ps : List (Nat × Nat)) : ∀ (ks : List Nat) (v : Nat), tiesOf ps ks v = (tiesN ps ks v).map dTie
  | [], _ => rfl
  | k :: ks, v => by
    have ih := tiesOf_is ps ks v
    unfold tiesOf tiesN at *
    rw [List.flatMap_cons, List.flatMap_cons, List.map_append, ih, tieOf_is]
abbrev Ws := List (Nat × List Stp)
def hasW (ws : Ws) (v : Nat) : Bool := ws.any fun p => decide (p.1 = v)
def getW (ws : Ws) (v : Nat) : Option (List Stp) := (ws.find? fun p => decide (p.1 = v)).map (·.2)
def scan1 (path : List Stp) (s : Ws × List Nat) (t : Stp × Nat) : Ws × List Nat := if hasW s.1 t.2 = true then s else (s.1 ++ [(t.2, path ++ [t.1])], s.2 ++ [t.2])
def scan (path : List Stp) (s : Ws × List Nat) (ts : List (Stp × Nat)) : Ws × List Nat := ts.foldl (scan1 path) s
def bfs (f : Nat → List (Stp × Nat)) : Nat → Ws × List Nat → Ws
  | 0, s => s.1
  | k + 1, (ws, q) => match q with
    | [] => ws
    | v :: q => bfs f k (scan ((getW ws v).getD []) (ws, q) (f v))
def ways (n : Nat) (f : Nat → List (Stp × Nat)) (a : Nat) : Ws := bfs f n ([(a, [])], [a])
theorem getW_has {ws : Ws} {v : Nat} : (getW ws v).isSome = hasW ws v := by
  unfold getW hasW
  rw [Option.isSome_map]
  induction ws with
  | nil => rfl
  | cons m ws ih =>
    rw [List.find?_cons, List.any_cons]
    cases decide (m.1 = v) with
    | true => rfl
    | false => rw [Bool.false_or]; exact ih
theorem getW_app {ws : Ws} {v : Nat} {m : Nat × List Stp} {p : List Stp} (h : getW ws v = some p) : getW (ws ++ [m]) v = some p := by
  unfold getW at *
  rw [List.find?_append]
  cases h2 : ws.find? (fun p => decide (p.1 = v)) with
  | none => rw [h2] at h; cases h
  | some x => rw [h2] at h; simpa using h
/-! the state's shape -/
structure Shp (n : Nat) (s : Ws × List Nat) : Prop where
  nd : (s.1.map (·.1)).Nodup
  lt : ∀ p ∈ s.1, p.1 < n
  pl : ∀ p ∈ s.1, p.2.length ≤ s.1.length
  qk : ∀ v ∈ s.2, hasW s.1 v = true
theorem nodup_le : ∀ {n : Nat} {l : List Nat}, l.Nodup → (∀ x ∈ l, x < n) → l.length ≤ n
  | 0, [], _, _ => Nat.le_refl _
  | 0, x :: _, _, lt => absurd (lt x (by simp)) (Nat.not_lt_zero _)
  | n + 1, l, nd, lt => by
    have ih := nodup_le (n := n) (l := l.erase n) (nd.erase n) fun x hx => by
      have h1 := (List.Nodup.mem_erase_iff nd).mp hx
      have h2 := lt x h1.2
      have h3 := h1.1
      omega
    rw [List.length_erase] at ih
    split at ih <;> omega
theorem Shp.le {n : Nat} {s : Ws × List Nat} (h : Shp n s) : s.1.length ≤ n := by
  have := nodup_le h.nd fun x hx => by
    obtain ⟨p, hp, rfl⟩ := List.mem_map.mp hx
    exact h.lt p hp
  rwa [List.length_map] at this
theorem hasW_mem {ws : Ws} {v : Nat} : hasW ws v = true ↔ v ∈ ws.map (·.1) := by
  unfold hasW
  rw [List.any_eq_true, List.mem_map]
  constructor
  · rintro ⟨p, hp, h⟩
    exact ⟨p, hp, of_decide_eq_true h⟩
  · rintro ⟨p, hp, h⟩
    exact ⟨p, hp, decide_eq_true h⟩
theorem hasW_app {ws : Ws} {v : Nat} {m : Nat × List Stp} (h : hasW ws v = true) : hasW (ws ++ [m]) v = true := by
  rw [hasW_mem] at *
  rw [List.map_append]
  exact List.mem_append_left _ h
theorem hasW_last {ws : Ws} {m : Nat × List Stp} : hasW (ws ++ [m]) m.1 = true := by
  rw [hasW_mem, List.map_append]
  exact List.mem_append_right _ (by simp)
theorem Shp.scan1 {n : Nat} {s : Ws × List Nat} {path : List Stp} {t : Stp × Nat} (h : Shp n s) (ht : t.2 < n) (hp : path.length ≤ s.1.length) : Shp n (scan1 path s t) ∧ path.length ≤ (scan1 path s t).1.length ∧ (scan1 path s t).1.length + s.2.length = s.1.length + (scan1 path s t).2.length := by
  unfold Ee.scan1
  by_cases hh : hasW s.1 t.2 = true
  · rw [if_pos hh]; exact ⟨h, hp, rfl⟩
  · rw [if_neg hh]
    refine ⟨⟨?_, fun p hp' => ?_, fun p hp' => ?_, fun v hv => ?_⟩, ?_, ?_⟩
    · rw [List.map_append, List.nodup_append]
      refine ⟨h.nd, by simp, fun a ha b hb => ?_⟩
      have e : b = t.2 := by simpa using hb
      rintro rfl
      subst e
      exact hh (hasW_mem.mpr ha)
    · rcases List.mem_append.mp hp' with hp' | hp'
      · exact h.lt p hp'
      · have e : p = (t.2, path ++ [t.1]) := by simpa using hp'
        rw [e]; exact ht
    · rw [List.length_append, List.length_singleton]
      rcases List.mem_append.mp hp' with hp' | hp'
      · exact Nat.le_succ_of_le (h.pl p hp')
      · have e : p = (t.2, path ++ [t.1]) := by simpa using hp'
        rw [e]
        show (path ++ [t.1]).length ≤ _
        rw [List.length_append, List.length_singleton]
        omega
    · rcases List.mem_append.mp hv with hv | hv
      · exact hasW_app (h.qk v hv)
      · have e : v = t.2 := by simpa using hv
        rw [e]; exact hasW_last (m := (t.2, path ++ [t.1]))
    · rw [List.length_append]; omega
    · rw [List.length_append, List.length_append]; simp; omega
/-! ### the dict and the list in a heap -/
def KvR (G : Hp) (kvs : List (Key × V)) (ws : Ws) : Prop := Paired (fun (kv : Key × V) (m : Nat × List Stp) => kv.1 = Sum.inl (m.1 : Int) ∧ Dx G kv.2 (dSteps m.2)) kvs ws
theorem KvR.same {G G' : Hp} (s : Same G G') : ∀ {kvs : List (Key × V)} {ws : Ws}, KvR G kvs ws → KvR G' kvs ws
  | _, _, .nil => .nil
  | _, _, .cons a t => .cons ⟨a.1, Dx.same s _ _ a.2⟩ (KvR.same s t)
theorem KvR.len {G : Hp} : ∀ {kvs : List (Key × V)} {ws : Ws}, KvR G kvs ws → kvs.length = ws.length
  | _, _, .nil => rfl
  | _, _, .cons _ t => congrArg Nat.succ (KvR.len t)
theorem KvR.app {G : Hp} {k : Nat} {x : V} {p : List Stp} (hx : Dx G x (dSteps p)) : ∀ {kvs : List (Key × V)} {ws : Ws}, KvR G kvs ws → KvR G (kvs ++ [(Sum.inl (k : Int), x)]) (ws ++ [(k, p)])
  | _, _, .nil => .cons ⟨rfl, hx⟩ .nil
  | _, _, .cons a t => .cons a (KvR.app hx t)
theorem KvR.val {G : Hp} (v : Nat) : ∀ {kvs : List (Key × V)} {ws : Ws}, KvR G kvs ws → match getW ws v with
    | none => valV kvs (Sum.inl (v : Int)) = none
    | some p => ∃ x, valV kvs (Sum.inl (v : Int)) = some x ∧ Dx G x (dSteps p)
  | _, _, .nil => rfl
  | kv :: kvs, m :: ws, .cons a t => by
    have ih := KvR.val v t
    unfold getW at ih ⊢
    rw [List.find?_cons]
    by_cases h : m.1 = v
    · rw [decide_eq_true h]
      exact ⟨kv.2, valV_pos (by rw [a.1, h]), a.2⟩
    · rw [decide_eq_false h]
      have e : valV (kv :: kvs) (Sum.inl (v : Int)) = valV kvs (Sum.inl (v : Int)) := valV_neg fun z => by
        rw [a.1] at z
        have := Sum.inl.inj z
        omega
      rw [e]
      exact ih
theorem KvR.put {G : Hp} {v : Nat} {x : V} {p : List Stp} {kvs : List (Key × V)} {ws : Ws} (h : KvR G kvs ws) (hn : hasW ws v = false) (hx : Dx G x (dSteps p)) : KvR G (putK kvs (Sum.inl (v : Int)) x) (ws ++ [(v, p)]) := by
  have e := h.val v
  have e2 : getW ws v = none := by
    have := getW_has (ws := ws) (v := v)
    rw [hn] at this
    simpa using this
  rw [e2] at e
  have e3 : (kvs.any fun kv => decide (kv.1 = Sum.inl (v : Int))) = false := by
    rw [valV_any, e]
    rfl
  unfold putK
  rw [e3, if_neg Bool.false_ne_true]
  exact h.app hx
def vWays (ws : Ws) : VP := ⟨fun H v => ∃ a kvs, v = .ref a ∧ H a = some (.dK kvs) ∧ KvR H kvs ws, fun s ⟨a, kvs, e, h, r⟩ => ⟨a, kvs, e, s _ _ h, r.same s⟩⟩
structure MakW (X : Vol) (H0 : Hp) (d l : Addr) (H : Hp) (s : Ws × List Nat) : Prop where
  i0 : X.I H0
  fd : H0 d = none
  fl : H0 l = none
  ne : d ≠ l
  sub : Sub X H0 (X.addL [d, l]) H
  hl : H l = some (.lst (s.2.map fun (v : Nat) => V.int (v : Int)))
  hd : ∃ kvs, H d = some (.dK kvs) ∧ KvR ((X.addL [d, l]).wo H) kvs s.1
section
variable {X Y : Vol} {σ : L2.St} {H H' H0 H1 : Hp} {s : Ws × List Nat} {d l : Addr}
theorem MakW.np (m : MakW X H0 d l H s) : ¬ (X.addL [d, l]).V d ∧ ¬ (X.addL [d, l]).V l := ⟨fun z => m.i0.live d (X.subV _ z) m.fd, fun z => m.i0.live l (X.subV _ z) m.fl⟩
theorem MakW.ext (m : MakW X H0 d l H s) (e : Ext (X.addL [d, l]) H H') : MakW X H0 d l H' s := by
  obtain ⟨kvs, h1, h2⟩ := m.hd
  exact ⟨m.i0, m.fd, m.fl, m.ne, m.sub.trans e, e.old _ _ m.np.2 m.hl, kvs, e.old _ _ m.np.1 h1, h2.same e.wo⟩
theorem MakW.setl {q : List Nat} (m : MakW X H0 d l H s) : MakW X H0 d l (upd H l (.lst (q.map fun (v : Nat) => V.int (v : Int)))) (s.1, q) := by
  obtain ⟨kvs, h1, h2⟩ := m.hd
  refine ⟨m.i0, m.fd, m.fl, m.ne, addL_put m.i0 m.sub m.fl, upd_same, kvs, by rw [upd_ne m.ne]; exact h1, ?_⟩
  rw [wo_putL (by simp)]
  exact h2
theorem MakW.setd {v : Nat} {x : V} {p : List Stp} (m : MakW X H0 d l H s) (hn : hasW s.1 v = false) (hx : Dx ((X.addL [d, l]).wo H) x (dSteps p)) (kvs : List (Key × V)) (hk : H d = some (.dK kvs)) : MakW X H0 d l (upd H d (.dK (putK kvs (Sum.inl (v : Int)) x))) (s.1 ++ [(v, p)], s.2) := by
  obtain ⟨kvs', h1, h2⟩ := m.hd
  rw [hk] at h1
  cases h1
  refine ⟨m.i0, m.fd, m.fl, m.ne, addL_put m.i0 m.sub m.fd, by rw [upd_ne m.ne.symm]; exact m.hl, _, upd_same, ?_⟩
  rw [wo_putL (by simp)]
  exact h2.put hn hx
theorem MakW.wk {o : HO} {a : Addr} (m : MakW X H0 d l H s) (ha : a = d ∨ a = l) (po : Pl o := by exact True.intro) : Wk (X.addL [d, l]) H (X.addL [d, l]) (upd H a o) := by
  have fa : H0 a = none := by rcases ha with rfl | rfl; exact m.fd; exact m.fl
  refine ⟨rfl, fun _ z => z, fun _ z => .inl z, fun b u n q => ?_, (addL_put m.i0 m.sub fa (.inr (.inr (by simpa using ha))) po).inv⟩
  rw [upd_ne]
  · exact q
  · rintro rfl
    exact n (.inr (by rcases ha with rfl | rfl <;> simp))
theorem MakW.done (m : MakW X H0 d l H s) : Ext X H0 H ∧ (vWays s.1).at_ (X.wo H) (.ref d) := by
  obtain ⟨kvs, h1, h2⟩ := m.hd
  have le : Same ((X.addL [d, l]).wo H) (X.wo H) := fun b o hb => by
    obtain ⟨q1, q2⟩ := wo_some hb
    rw [wo_out fun z => q2 (.inl z)]
    exact q1
  refine ⟨⟨rfl, rfl, fun _ z => z, fun _ z => .inl z, m.sub.old, ⟨fun a z => m.sub.inv.live a (.inl z), m.sub.inv.pl, m.sub.inv.ti.less rfl fun _ z => .inl z⟩⟩, d, kvs, rfl, ?_, h2.same le⟩
  rw [wo_out fun z => m.i0.live d z m.fd]
  exact h1
/-- d.get(v) -/
theorem ev_getW {td ty : TE} {ws : Ws} {v : Nat} (h : Ev X td σ H (vWays ws)) (h' : Ev X ty σ H (vI (v : Int))) : Ev X (tDGet1 td ty) σ H (vD (match getW ws v with
    | none => .none
    | some p => dSteps p)) := fun Y H1 e Q q => h Y H1 e _ fun x H2 e2 ⟨a, kvs, hx, ha, hr⟩ => by
  refine ⟨a, hx, .inl ⟨kvs, .inl (wo_le _ _ ha)⟩, h' Y H2 (e.trans e2) _ fun y H3 e3 p3 => ?_⟩
  cases p3
  have ha3 : H3 a = some (.dK kvs) := wo_le _ _ (e3.wo _ _ ha)
  refine ⟨_, DGet.k (k := Sum.inl (v : Int)) ha3, ?_⟩
  have hv := (hr.same e3.wo).val v
  revert hv q
  cases getW ws v with
  | none =>
    intro q hv
    have hv' : valV kvs (Sum.inl (v : Int)) = none := hv
    rw [hv']
    exact q _ H3 (e2.trans e3) .non
  | some p =>
    intro q hv
    obtain ⟨z, hz, hd⟩ := hv
    rw [hz]
    exact q _ H3 (e2.trans e3) hd
end
end Ee

namespace Ee
open PySem L2
/-! ## what ways are: found exactly where ties connect -/
inductive Lead (f : Nat → List (Stp × Nat)) (a : Nat) : List Stp → Nat → Prop
  | nil : Lead f a [] a
  | snoc {p : List Stp} {v : Nat} {t : Stp × Nat} : Lead f a p v → t ∈ f v → Lead f a (p ++ [t.1]) t.2
structure BInv (f : Nat → List (Stp × Nat)) (n a : Nat) (s : Ws × List Nat) : Prop where
  sh : Shp n s
  snd : ∀ p ∈ s.1, Lead f a p.2 p.1
  cl : ∀ v, hasW s.1 v = true → v ∈ s.2 ∨ ∀ t ∈ f v, hasW s.1 t.2 = true
  st : hasW s.1 a = true
theorem scan_inv {f : Nat → List (Stp × Nat)} {n a v : Nat} {path : List Stp} (hf : ∀ v t, t ∈ f v → t.2 < n) (hl : Lead f a path v) : ∀ (ts : List (Stp × Nat)) (s : Ws × List Nat), (∀ t ∈ ts, t ∈ f v) → Shp n s → (∀ p ∈ s.1, Lead f a p.2 p.1) → path.length ≤ s.1.length →
    (∀ u, hasW s.1 u = true → u = v ∨ u ∈ s.2 ∨ ∀ t ∈ f u, hasW s.1 t.2 = true) → 
    Shp n (scan path s ts) ∧ (∀ p ∈ (scan path s ts).1, Lead f a p.2 p.1) ∧ (∀ u, hasW s.1 u = true → hasW (scan path s ts).1 u = true) ∧ (∀ t ∈ ts, hasW (scan path s ts).1 t.2 = true) ∧
    (∀ u, hasW (scan path s ts).1 u = true → u = v ∨ u ∈ (scan path s ts).2 ∨ ∀ t ∈ f u, hasW (scan path s ts).1 t.2 = true) ∧ (scan path s ts).1.length + s.2.length = s.1.length + (scan path s ts).2.length
  | [], s, _, sh, sd, pl, cl => ⟨sh, sd, (fun _ h => h), (fun _ h => nomatch h), cl, rfl⟩
  | t :: ts, s, hts, sh, sd, pl, cl => by
    have ht := hts t (by simp)
    obtain ⟨sh1, pl1, ln1⟩ := sh.scan1 (t := t) (path := path) (hf v t ht) pl
    have sd1 : ∀ p ∈ (scan1 path s t).1, Lead f a p.2 p.1 := by
      unfold scan1
      by_cases hh : hasW s.1 t.2 = true
      · rw [if_pos hh]; exact sd
      · rw [if_neg hh]
        intro p hp
        rcases List.mem_append.mp hp with hp | hp
        · exact sd p hp
        · have e : p = (t.2, path ++ [t.1]) := by simpa using hp
          rw [e]
          exact .snoc hl ht
    have up1 : ∀ u, hasW s.1 u = true → hasW (scan1 path s t).1 u = true := by
      unfold scan1
      intro u hu
      by_cases hh : hasW s.1 t.2 = true
      · rw [if_pos hh]; exact hu
      · rw [if_neg hh]; exact hasW_app hu
    have ht1 : hasW (scan1 path s t).1 t.2 = true := by
      unfold scan1
      by_cases hh : hasW s.1 t.2 = true
      · rw [if_pos hh]; exact hh
      · rw [if_neg hh]; exact hasW_last (m := (t.2, path ++ [t.1]))
    have cl1 : ∀ u, hasW (scan1 path s t).1 u = true → u = v ∨ u ∈ (scan1 path s t).2 ∨ ∀ t' ∈ f u, hasW (scan1 path s t).1 t'.2 = true := by
      intro u hu
      unfold scan1 at hu ⊢
      by_cases hh : hasW s.1 t.2 = true
      · rw [if_pos hh] at hu ⊢; exact cl u hu
      · rw [if_neg hh] at hu ⊢
        by_cases hu2 : hasW s.1 u = true
        · rcases cl u hu2 with h | h | h
          · exact .inl h
          · exact .inr (.inl (List.mem_append_left _ h))
          · exact .inr (.inr fun t' ht' => hasW_app (h t' ht'))
        · right; left
          have := hasW_mem.mp hu
          rw [List.map_append] at this
          rcases List.mem_append.mp this with h | h
          · exact absurd (hasW_mem.mpr h) hu2
          · have e : u = t.2 := by simpa using h
            rw [e]
            exact List.mem_append_right _ (by simp)
    obtain ⟨r1, r2, r3, r4, r5, r6⟩ := scan_inv hf hl ts (scan1 path s t) (fun t' h => hts t' (by simp [h])) sh1 sd1 pl1 cl1
    have e : scan path s (t :: ts) = scan path (scan1 path s t) ts := rfl
    rw [e]
    refine ⟨r1, r2, fun u hu => r3 u (up1 u hu), fun t' h => ?_, r5, by omega⟩
    rcases List.mem_cons.mp h with rfl | h
    · exact r3 _ ht1
    · exact r4 t' h
theorem bfs_inv {f : Nat → List (Stp × Nat)} {n a : Nat} (hf : ∀ v t, t ∈ f v → t.2 < n) : ∀ (k : Nat) (s : Ws × List Nat), BInv f n a s → k + s.1.length = n + s.2.length →
    (bfs f k s).length ≤ n ∧ (∀ p ∈ bfs f k s, Lead f a p.2 p.1 ∧ p.2.length ≤ n) ∧ (∀ v, hasW (bfs f k s) v = true → ∀ t ∈ f v, hasW (bfs f k s) t.2 = true) ∧ hasW (bfs f k s) a = true
  | 0, s, b, hm => by
    have hle := b.sh.le
    have hq : s.2 = [] := List.eq_nil_of_length_eq_zero (by omega)
    refine ⟨hle, fun p hp => ⟨b.snd p hp, Nat.le_trans (b.sh.pl p hp) hle⟩, fun v hv t ht => ?_, b.st⟩
    rcases b.cl v hv with h | h
    · rw [hq] at h; cases h
    · exact h t ht
  | k + 1, (ws, []), b, hm => by
    have hle := b.sh.le
    refine ⟨hle, fun p hp => ⟨b.snd p hp, Nat.le_trans (b.sh.pl p hp) hle⟩, fun v hv t ht => ?_, b.st⟩
    rcases b.cl v hv with h | h
    · cases h
    · exact h t ht
  | k + 1, (ws, v :: q), b, hm => by
    have hv := b.sh.qk v (by simp)
    have hg : ∃ path, getW ws v = some path := by
      have h2 := getW_has (ws := ws) (v := v)
      have hv' : hasW ws v = true := hv
      rw [hv'] at h2
      exact Option.isSome_iff_exists.mp h2
    obtain ⟨path, hp⟩ := hg
    have hmem : (v, path) ∈ ws := by
      unfold getW at hp
      obtain ⟨p, h1, h2⟩ := Option.map_eq_some_iff.mp hp
      have h3 := List.mem_of_find?_eq_some h1
      have h4 : p.1 = v := by have := List.find?_some h1; simpa using this
      have e : p = (v, path) := by
        rw [← h2, ← h4]
      rw [e] at h3
      exact h3
    have hl : Lead f a path v := b.snd _ hmem
    have sh2 : Shp n (ws, q) := ⟨b.sh.nd, b.sh.lt, b.sh.pl, fun x hx => b.sh.qk x (by simp [hx])⟩
    obtain ⟨r1, r2, r3, r4, r5, r6⟩ := scan_inv hf hl (f v) (ws, q) (fun _ h => h) sh2 b.snd (b.sh.pl _ hmem) (fun u hu => by
      rcases b.cl u hu with h | h
      · rcases List.mem_cons.mp h with h | h
        · exact .inl h
        · exact .inr (.inl h)
      · exact .inr (.inr h))
    have e : bfs f (k + 1) (ws, v :: q) = bfs f k (scan path (ws, q) (f v)) := by
      show bfs f k (scan ((getW ws v).getD []) (ws, q) (f v)) = _
      rw [hp]
      rfl
    rw [e]
    refine bfs_inv hf k _ ⟨r1, r2, fun u hu => ?_, r3 a b.st⟩ ?_
    · rcases r5 u hu with h | h | h
      · right
        rw [h]
        exact r4
      · exact .inl h
      · exact .inr h
    · dsimp only at hm r6 ⊢
      rw [List.length_cons] at hm
      omega
theorem ways_inv {f : Nat → List (Stp × Nat)} {n a : Nat} (hf : ∀ v t, t ∈ f v → t.2 < n) (ha : a < n) :
    (ways n f a).length ≤ n ∧ (∀ p ∈ ways n f a, Lead f a p.2 p.1 ∧ p.2.length ≤ n) ∧ (∀ v, hasW (ways n f a) v = true → ∀ t ∈ f v, hasW (ways n f a) t.2 = true) ∧ hasW (ways n f a) a = true := by
  refine bfs_inv hf n _ ⟨⟨by simp, fun p hp => ?_, fun p hp => ?_, fun v hv => ?_⟩, fun p hp => ?_, fun v hv => ?_, hasW_mem.mpr (by simp)⟩ rfl
  · have e : p = (a, []) := by simpa using hp
    rw [e]; exact ha
  · have e : p = (a, []) := by simpa using hp
    rw [e]; exact Nat.zero_le _
  · have e : v = a := by simpa using hv
    rw [e]; exact hasW_mem.mpr (by simp)
  · have e : p = (a, []) := by simpa using hp
    rw [e]; exact .nil
  · left
    have := hasW_mem.mp hv
    simpa using this
/-! ### the forest connects what the edges connect -/
theorem nums_lt {ps : List (Nat × Nat)} {K k : Nat} (h : k ∈ Wm.nums ps K) : k < K := List.mem_range.mp (List.mem_filter.mp h).1
theorem nums_in {ps : List (Nat × Nat)} {K k : Nat} (h : k < K) : k ∈ Wm.nums ps K ↔ Wm.grows ps k = true := by
  unfold Wm.nums
  rw [List.mem_filter, List.mem_range]
  exact ⟨fun z => z.2, fun z => ⟨h, z⟩⟩
theorem forest_const {ps : List (Nat × Nat)} {g : Nat → Nat} (h : ∀ k ∈ Wm.nums ps ps.length, g (Wm.at2 ps k).1 = g (Wm.at2 ps k).2) : ∀ K, K ≤ ps.length → ∀ e ∈ ps.take K, g e.1 = g e.2
  | 0, _, e, he => by simp at he
  | K + 1, hK, e, he => by
    have ih := forest_const h K (by omega)
    have hat : ps[K]? = some (Wm.at2 ps K) := by
      rw [Wm.at2_get (List.getElem?_eq_getElem (show K < ps.length by omega))]
      exact List.getElem?_eq_getElem (by omega)
    rw [Wm.take_snoc hat] at he
    rcases List.mem_append.mp he with he | he
    · exact ih e he
    · have e1 : e = Wm.at2 ps K := by simpa using he
      rw [e1]
      by_cases hg : Wm.grows ps K = true
      · exact h K ((nums_in (show K < ps.length by omega)).mpr hg)
      · have hr := Wm.root_F K ps
        have h1 : Wm.F (ps.take K) (Wm.at2 ps K).1 = Wm.F (ps.take K) (Wm.at2 ps K).2 := by
          unfold Wm.grows at hg
          by_cases z : Wm.F (ps.take K) (Wm.at2 ps K).1 = Wm.F (ps.take K) (Wm.at2 ps K).2
          · exact z
          · exact absurd (decide_eq_true z) hg
        rw [← hr.conn g ih, ← hr.conn g ih (Wm.at2 ps K).2, h1]
theorem forest_class {ps : List (Nat × Nat)} {g : Nat → Nat} (h : ∀ k ∈ Wm.nums ps ps.length, g (Wm.at2 ps k).1 = g (Wm.at2 ps k).2) {u v : Nat} (e : Wm.F ps u = Wm.F ps v) : g u = g v := by
  have h2 := forest_const h ps.length (Nat.le_refl _)
  rw [List.take_length] at h2
  have r := Wm.rootF ps
  rw [← r.conn g h2 u, ← r.conn g h2 v, e]
/-! ### ways in a web -/
def tiesW (w : WD) (v : Nat) : List (Stp × Nat) := tiesN w.ps w.nums v
def WD.way (w : WD) (a b : Nat) : Option (List Stp) := getW (ways w.n (tiesW w) a) b
theorem mem_tieN {ps : List (Nat × Nat)} {k v : Nat} {t : Stp × Nat} (h : t ∈ tieN ps k v) : ((Wm.at2 ps k).1 = v ∧ t = ((k, 1), (Wm.at2 ps k).2)) ∨ ((Wm.at2 ps k).2 = v ∧ t = ((k, -1), (Wm.at2 ps k).1)) := by
  unfold tieN at h
  rcases List.mem_append.mp h with h | h
  · left
    by_cases z : (Wm.at2 ps k).1 = v
    · rw [if_pos z] at h
      exact ⟨z, by simpa using h⟩
    · rw [if_neg z] at h; cases h
  · right
    by_cases z : (Wm.at2 ps k).2 = v
    · rw [if_pos z] at h
      exact ⟨z, by simpa using h⟩
    · rw [if_neg z] at h; cases h
theorem tiesW_lt {w : WD} (ok : w.Ok) (v : Nat) (t : Stp × Nat) (h : t ∈ tiesW w v) : t.2 < w.n := by
  unfold tiesW tiesN at h
  obtain ⟨k, hk, ht⟩ := List.mem_flatMap.mp h
  have hkl := nums_lt hk
  have hw := ok.wi (Wm.at2 w.ps k) (by rw [Wm.at2_get (List.getElem?_eq_getElem hkl)]; exact List.getElem_mem hkl)
  rcases mem_tieN ht with ⟨_, rfl⟩ | ⟨_, rfl⟩
  · exact hw.2
  · exact hw.1
/-- a walk, step by step -/
def sFrom (ps : List (Nat × Nat)) (s : Stp) : Nat := if s.2 = 1 then (Wm.at2 ps s.1).1 else (Wm.at2 ps s.1).2
def sTo (ps : List (Nat × Nat)) (s : Stp) : Nat := if s.2 = 1 then (Wm.at2 ps s.1).2 else (Wm.at2 ps s.1).1
def Chain (ps : List (Nat × Nat)) : Nat → List Stp → Nat → Prop
  | a, [], b => a = b
  | a, s :: r, b => s.1 < ps.length ∧ (s.2 = 1 ∨ s.2 = -1) ∧ sFrom ps s = a ∧ Chain ps (sTo ps s) r b
theorem Chain.app {ps : List (Nat × Nat)} {c : Nat} {r : List Stp} : ∀ {p : List Stp} {a b : Nat}, Chain ps a p b → Chain ps b r c → Chain ps a (p ++ r) c
  | [], _, _, h, k => by
    have h' : _ = _ := h
    subst h'
    exact k
  | s :: p, _, _, h, k => ⟨h.1, h.2.1, h.2.2.1, Chain.app h.2.2.2 k⟩
theorem lead_chain {w : WD} {a : Nat} {p : List Stp} {v : Nat} (h : Lead (tiesW w) a p v) : Chain w.ps a p v ∧ ∀ s ∈ p, s.1 ∈ w.nums := by
  induction h with
  | nil => exact ⟨rfl, fun _ h => nomatch h⟩
  | @snoc p v t _ ht ih =>
    unfold tiesW tiesN at ht
    obtain ⟨k, hk, ht⟩ := List.mem_flatMap.mp ht
    have hkl := nums_lt hk
    refine ⟨ih.1.app ?_, fun s hs => ?_⟩
    · rcases mem_tieN ht with ⟨h1, rfl⟩ | ⟨h1, rfl⟩
      · exact ⟨hkl, .inl rfl, h1, rfl⟩
      · exact ⟨hkl, .inr rfl, h1, rfl⟩
    · rcases List.mem_append.mp hs with hs | hs
      · exact ih.2 s hs
      · have e : s = t.1 := by simpa using hs
        rw [e]
        rcases mem_tieN ht with ⟨_, rfl⟩ | ⟨_, rfl⟩ <;> exact hk
theorem lead_class {w : WD} {a : Nat} {p : List Stp} {v : Nat} (h : Lead (tiesW w) a p v) : Wm.F w.ps a = Wm.F w.ps v := by
  have r := Wm.rootF w.ps
  induction h with
  | nil => rfl
  | @snoc p v t _ ht ih =>
    unfold tiesW tiesN at ht
    obtain ⟨k, hk, ht⟩ := List.mem_flatMap.mp ht
    have hkl := nums_lt hk
    have he := r.edge (Wm.at2 w.ps k) (by rw [Wm.at2_get (List.getElem?_eq_getElem hkl)]; exact List.getElem_mem hkl)
    rcases mem_tieN ht with ⟨h1, rfl⟩ | ⟨h1, rfl⟩
    · rw [ih, ← h1, he]
    · rw [ih, ← h1, ← he]
/-- what way finds -/
theorem way_some {w : WD} (ok : w.Ok) {a b : Nat} (ha : a < w.n) (e : Wm.F w.ps a = Wm.F w.ps b) : ∃ p, w.way a b = some p ∧ Chain w.ps a p b ∧ (∀ s ∈ p, s.1 ∈ w.nums) ∧ p.length ≤ 30 := by
  obtain ⟨h1, h2, h3, h4⟩ := ways_inv (tiesW_lt ok) ha
  have hk : hasW (ways w.n (tiesW w) a) b = true := by
    have hc : ∀ k ∈ Wm.nums w.ps w.ps.length, (fun v => (hasW (ways w.n (tiesW w) a) v).toNat) (Wm.at2 w.ps k).1 = (fun v => (hasW (ways w.n (tiesW w) a) v).toNat) (Wm.at2 w.ps k).2 := fun k hk => by
      have t1 : (((k, 1), (Wm.at2 w.ps k).2) : Stp × Nat) ∈ tiesW w (Wm.at2 w.ps k).1 := List.mem_flatMap.mpr ⟨k, hk, by unfold tieN; rw [if_pos rfl]; simp⟩
      have t2 : (((k, -1), (Wm.at2 w.ps k).1) : Stp × Nat) ∈ tiesW w (Wm.at2 w.ps k).2 := List.mem_flatMap.mpr ⟨k, hk, by unfold tieN; rw [if_pos (c := (Wm.at2 w.ps k).2 = (Wm.at2 w.ps k).2) rfl]; simp⟩
      show (hasW _ _).toNat = (hasW _ _).toNat
      cases q1 : hasW (ways w.n (tiesW w) a) (Wm.at2 w.ps k).1 with
      | true => rw [h3 _ q1 _ t1]
      | false =>
        cases q2 : hasW (ways w.n (tiesW w) a) (Wm.at2 w.ps k).2 with
        | false => rfl
        | true =>
          have := h3 _ q2 _ t2
          rw [q1] at this
          cases this
    have := forest_class (g := fun v => (hasW (ways w.n (tiesW w) a) v).toNat) hc e
    rw [h4] at this
    cases q : hasW (ways w.n (tiesW w) a) b with
    | true => rfl
    | false => rw [q] at this; cases this
  have hs := getW_has (ws := ways w.n (tiesW w) a) (v := b)
  rw [hk] at hs
  obtain ⟨p, hp⟩ := Option.isSome_iff_exists.mp hs
  have hmem : (b, p) ∈ ways w.n (tiesW w) a := by
    unfold getW at hp
    obtain ⟨q, h5, h6⟩ := Option.map_eq_some_iff.mp hp
    have h7 := List.mem_of_find?_eq_some h5
    have h8 : q.1 = b := by have := List.find?_some h5; simpa using this
    have e : q = (b, p) := by rw [← h6, ← h8]
    rw [e] at h7
    exact h7
  obtain ⟨l, hl⟩ := h2 _ hmem
  obtain ⟨c1, c2⟩ := lead_chain l
  exact ⟨p, hp, c1, c2, Nat.le_trans hl ok.n30⟩
theorem way_none {w : WD} (ok : w.Ok) {a b : Nat} (ha : a < w.n) (e : Wm.F w.ps a ≠ Wm.F w.ps b) : w.way a b = none := by
  obtain ⟨h1, h2, h3, h4⟩ := ways_inv (tiesW_lt ok) ha
  cases h : w.way a b with
  | none => rfl
  | some p =>
    unfold WD.way getW at h
    obtain ⟨q, h5, h6⟩ := Option.map_eq_some_iff.mp h
    have h7 := List.mem_of_find?_eq_some h5
    have h8 : q.1 = b := by have := List.find?_some h5; simpa using this
    obtain ⟨l, _⟩ := h2 _ h7
    exact absurd (h8 ▸ lead_class l) e
def dWay : Option (List Stp) → PyData
  | none => .none
  | some p => dSteps p
def WD.cyc (w : WD) (k : Nat) : List Stp := (k, 1) :: (w.way (Wm.at2 w.ps k).2 (Wm.at2 w.ps k).1).getD []
def WD.rest (w : WD) : List Nat := (List.range w.ps.length).filter fun k => !decide (k ∈ w.nums)
def WD.cycs (w : WD) : List (List Stp) := w.rest.map w.cyc
theorem rest_class {w : WD} {k : Nat} (h : k < w.ps.length) : Wm.F w.ps (Wm.at2 w.ps k).2 = Wm.F w.ps (Wm.at2 w.ps k).1 :=
  ((Wm.rootF w.ps).edge (Wm.at2 w.ps k) (by rw [Wm.at2_get (List.getElem?_eq_getElem h)]; exact List.getElem_mem h)).symm
end Ee

namespace Ee
open PySem L2
/-! ## sums -/
def red (m z : Int) : Int := if m = 0 then z else z % m
theorem red_red (m z : Int) : red m (red m z) = red m z := by
  unfold red
  by_cases h : m = 0
  · rw [if_pos h, if_pos h]
  · rw [if_neg h, if_neg h]; exact Int.emod_emod_of_dvd z (Int.dvd_refl m)
theorem red_zero (m : Int) : red m 0 = 0 := by unfold red; split <;> simp
/-- numbers that differ by a multiple of the modulus -/
def Cg (m x y : Int) : Prop := ∃ k, x = y + m * k
theorem Cg.refl (m x : Int) : Cg m x x := ⟨0, by simp⟩
theorem Cg.symm {m x y : Int} (h : Cg m x y) : Cg m y x := by
  obtain ⟨k, rfl⟩ := h
  exact ⟨-k, by rw [Int.mul_neg]; omega⟩
theorem Cg.trans {m x y z : Int} (h : Cg m x y) (k : Cg m y z) : Cg m x z := by
  obtain ⟨a, rfl⟩ := h
  obtain ⟨b, rfl⟩ := k
  exact ⟨b + a, by rw [Int.mul_add]; omega⟩
theorem Cg.add {m x y u v : Int} (h : Cg m x y) (k : Cg m u v) : Cg m (x + u) (y + v) := by
  obtain ⟨a, rfl⟩ := h
  obtain ⟨b, rfl⟩ := k
  exact ⟨a + b, by rw [Int.mul_add]; omega⟩
theorem Cg.neg {m x y : Int} (h : Cg m x y) : Cg m (-x) (-y) := by
  obtain ⟨a, rfl⟩ := h
  exact ⟨-a, by rw [Int.mul_neg]; omega⟩
theorem Cg.sub {m x y u v : Int} (h : Cg m x y) (k : Cg m u v) : Cg m (x - u) (y - v) := by
  rw [Int.sub_eq_add_neg, Int.sub_eq_add_neg]
  exact h.add k.neg
theorem Cg.mul {m x y : Int} (c : Int) (h : Cg m x y) : Cg m (c * x) (c * y) := by
  obtain ⟨a, rfl⟩ := h
  exact ⟨c * a, by rw [Int.mul_add, ← Int.mul_assoc, ← Int.mul_assoc, Int.mul_comm m c]⟩
theorem red_cg (m z : Int) : Cg m (red m z) z := by
  unfold red
  by_cases h : m = 0
  · rw [if_pos h]; exact .refl m z
  · rw [if_neg h]
    refine ⟨-(z / m), ?_⟩
    have := Int.emod_def z m
    rw [Int.mul_neg]
    omega
theorem red_eq {m x y : Int} : red m x = red m y ↔ Cg m x y := by
  constructor
  · intro h
    have h1 := red_cg m x
    rw [h] at h1
    exact h1.symm.trans (red_cg m y)
  · rintro ⟨k, rfl⟩
    unfold red
    by_cases h : m = 0
    · rw [if_pos h, if_pos h, h]; simp
    · rw [if_neg h, if_neg h]
      exact Int.add_mul_emod_self_left y m k
abbrev gAt (g : List Int) (k : Nat) : Int := g.getD k 0
def sumS (g : List Int) (p : List Stp) : Int := (p.map fun s => s.2 * gAt g s.1).sum
theorem sumS_cons (g : List Int) (s : Stp) (p : List Stp) : sumS g (s :: p) = s.2 * gAt g s.1 + sumS g p := by simp [sumS]
theorem sumS_app (g : List Int) (p q : List Stp) : sumS g (p ++ q) = sumS g p + sumS g q := by simp [sumS]
/-- a level for each node that gives the gains of the forest's edges -/
theorem levels (g : List Int) (ps : List (Nat × Nat)) : ∀ K, K ≤ ps.length → ∃ h : Nat → Int, ∀ k ∈ Wm.nums ps K, gAt g k = h (Wm.at2 ps k).2 - h (Wm.at2 ps k).1
  | 0, _ => ⟨fun _ => 0, fun k hk => absurd (nums_lt hk) (Nat.not_lt_zero _)⟩
  | K + 1, hK => by
    obtain ⟨h, hh⟩ := levels g ps K (by omega)
    by_cases hg : Wm.grows ps K = true
    · have hne : Wm.F (ps.take K) (Wm.at2 ps K).1 ≠ Wm.F (ps.take K) (Wm.at2 ps K).2 := of_decide_eq_true hg
      have hr := Wm.root_F K ps
      refine ⟨fun v => if Wm.F (ps.take K) v = Wm.F (ps.take K) (Wm.at2 ps K).2 then h v + (gAt g K - (h (Wm.at2 ps K).2 - h (Wm.at2 ps K).1)) else h v, fun k hk => ?_⟩
      rw [Wm.nums_succ, if_pos hg] at hk
      rcases List.mem_append.mp hk with hk | hk
      · have hkK := nums_lt hk
        have he := hr.edge (Wm.at2 ps k) (by
          rw [Wm.at2_get (List.getElem?_eq_getElem (show k < ps.length by omega))]
          exact List.mem_take_iff_getElem.mpr ⟨k, by omega, rfl⟩)
        have hk2 := hh k hk
        dsimp only
        by_cases hc : Wm.F (ps.take K) (Wm.at2 ps k).1 = Wm.F (ps.take K) (Wm.at2 ps K).2
        · rw [if_pos hc, if_pos (he ▸ hc)]; omega
        · rw [if_neg hc, if_neg (he ▸ hc)]; exact hk2
      · have e : k = K := by simpa using hk
        subst e
        dsimp only
        rw [if_pos rfl, if_neg hne]
        omega
    · refine ⟨h, fun k hk => hh k ?_⟩
      rw [Wm.nums_succ, if_neg hg] at hk
      exact hk
/-- what is over at an edge, measured by levels -/
def over (g : List Int) (ps : List (Nat × Nat)) (h : Nat → Int) (k : Nat) : Int := gAt g k - (h (Wm.at2 ps k).2 - h (Wm.at2 ps k).1)
theorem chain_sum (g : List Int) (ps : List (Nat × Nat)) (h : Nat → Int) : ∀ (p : List Stp) (a b : Nat), Chain ps a p b → sumS g p = (p.map fun s => s.2 * over g ps h s.1).sum + (h b - h a)
  | [], a, b, c => by
    have c' : a = b := c
    subst c'
    simp [sumS]
  | s :: p, a, b, c => by
    obtain ⟨_, hy, hf, hc⟩ := c
    have ih := chain_sum g ps h p _ b hc
    rw [sumS_cons, ih, List.map_cons, List.sum_cons]
    have e : s.2 * gAt g s.1 = s.2 * over g ps h s.1 + (h (sTo ps s) - h a) := by
      rw [← hf]
      unfold over sTo sFrom
      rcases hy with hy | hy
      · rw [hy]; simp
      · rw [hy]; simp; omega
    omega
theorem over_forest {g : List Int} {ps : List (Nat × Nat)} {h : Nat → Int} {k : Nat} (hh : gAt g k = h (Wm.at2 ps k).2 - h (Wm.at2 ps k).1) : over g ps h k = 0 := by unfold over; omega
/-- along the forest the levels tell the sum -/
theorem forest_sum {w : WD} {g : List Int} {h : Nat → Int} (hh : ∀ k ∈ w.nums, gAt g k = h (Wm.at2 w.ps k).2 - h (Wm.at2 w.ps k).1) {a b : Nat} {p : List Stp} (c : Chain w.ps a p b) (hf : ∀ s ∈ p, s.1 ∈ w.nums) : sumS g p = h b - h a := by
  rw [chain_sum g w.ps h p a b c]
  have e : (p.map fun s => s.2 * over g w.ps h s.1) = p.map fun _ => (0 : Int) := List.map_congr_left fun s hs => by rw [over_forest (hh s.1 (hf s hs)), Int.mul_zero]
  rw [e]
  have z : ∀ q : List Stp, (q.map fun _ => (0 : Int)).sum = 0 := by
    intro q
    induction q with
    | nil => rfl
    | cons s q ih => rw [List.map_cons, List.sum_cons, ih]; rfl
  rw [z]
  omega
theorem at_in {w : WD} (ok : w.Ok) {k : Nat} (h : k < w.ps.length) : (Wm.at2 w.ps k).1 < w.n ∧ (Wm.at2 w.ps k).2 < w.n := ok.wi (Wm.at2 w.ps k) (by rw [Wm.at2_get (List.getElem?_eq_getElem h)]; exact List.getElem_mem h)
/-- the cycle of an edge -/
theorem cyc_is {w : WD} (ok : w.Ok) {k : Nat} (hk : k < w.ps.length) : ∃ p, w.cyc k = (k, 1) :: p ∧ Chain w.ps (Wm.at2 w.ps k).2 p (Wm.at2 w.ps k).1 ∧ (∀ s ∈ p, s.1 ∈ w.nums) ∧ p.length ≤ 30 := by
  obtain ⟨p, h1, h2, h3, h4⟩ := way_some ok (at_in ok hk).2 (rest_class hk)
  exact ⟨p, by unfold WD.cyc; rw [h1]; rfl, h2, h3, h4⟩
theorem cyc_sum {w : WD} (ok : w.Ok) {g : List Int} {h : Nat → Int} (hh : ∀ k ∈ w.nums, gAt g k = h (Wm.at2 w.ps k).2 - h (Wm.at2 w.ps k).1) {k : Nat} (hk : k < w.ps.length) : sumS g (w.cyc k) = over g w.ps h k := by
  obtain ⟨p, h1, h2, h3, _⟩ := cyc_is ok hk
  rw [h1, sumS_cons, forest_sum hh h2 h3]
  unfold over
  simp
  omega
theorem cyc_chain {w : WD} (ok : w.Ok) {k : Nat} (hk : k < w.ps.length) : Chain w.ps (Wm.at2 w.ps k).1 (w.cyc k) (Wm.at2 w.ps k).1 ∧ (w.cyc k).length ≤ 31 ∧ w.cyc k ≠ [] := by
  obtain ⟨p, h1, h2, h3, h4⟩ := cyc_is ok hk
  rw [h1]
  exact ⟨⟨hk, .inl rfl, rfl, h2⟩, by rw [List.length_cons]; omega, by simp⟩
/-- a closed walk's sum by the cycles -/
theorem closed_sum {w : WD} (ok : w.Ok) (g : List Int) {a : Nat} {p : List Stp} (c : Chain w.ps a p a) : sumS g p = ((p.filter fun s => !decide (s.1 ∈ w.nums)).map fun s => s.2 * sumS g (w.cyc s.1)).sum := by
  obtain ⟨h, hh⟩ := levels g w.ps w.ps.length (Nat.le_refl _)
  have hh' : ∀ k ∈ w.nums, gAt g k = h (Wm.at2 w.ps k).2 - h (Wm.at2 w.ps k).1 := hh
  rw [chain_sum g w.ps h p a a c]
  have go : ∀ (p : List Stp) (a b : Nat), Chain w.ps a p b → (p.map fun s => s.2 * over g w.ps h s.1).sum = ((p.filter fun s => !decide (s.1 ∈ w.nums)).map fun s => s.2 * sumS g (w.cyc s.1)).sum := by
    intro p
    induction p with
    | nil => intro _ _ _; rfl
    | cons s p ih =>
      intro a b c
      have ih' := ih _ _ c.2.2.2
      rw [List.map_cons, List.sum_cons, ih', List.filter_cons]
      by_cases hs : s.1 ∈ w.nums
      · rw [over_forest (hh' s.1 hs)]; simp [hs]
      · rw [← cyc_sum ok hh' c.1]; simp [hs]
  rw [go p a a c]
  omega
end Ee

namespace Ee
open PySem L2
section
variable {X Y : Vol} {σ : L2.St} {H H' H0 H1 : Hp} {ta tb tc te tl ti : TE} {t u : TT} {P P' : VP} {K : Fr} {i j k : Int} {d e : PyData} {ds es : List PyData} {l p : Addr} {D : Ends} {tz ty tw : TS}
theorem q_drop (h : Ev X te σ H P) (i : X.I H) (k : ∀ H1, Ext X H H1 → tz D σ H1) : tSeq (tDrop te) tz D σ H := h.go i fun _ H1 e _ => k H1 e
theorem s_drop (h : Ev X te σ H P) (i : X.I H) (k : ∀ H1, Ext X H H1 → D.nx σ H1) : tDrop te D σ H := h.go i fun _ H1 e _ => k H1 e
/-- [z] * n -/
theorem en_rep1 {z : Int} (ha : Ev X ta σ H (vL [.int z])) (hb : Ev X tb σ H (vI i)) (h0 : 0 ≤ i) (h1 : i ≤ 40000) : EvN X (tOp rRep ta tb) σ H (.list ((List.replicate i.toNat z).map PyData.int)) := fun Y H1 e Q q =>
  ha Y H1 e _ fun x H2 e2 p2 => hb Y H2 (e.trans e2) _ fun y H3 e3 p3 => by
    cases p3
    cases e3.upP p2 with
    | lst ea al =>
      have hv := DxAll.ints (l := [z]) al
      subst hv
      refine ⟨_, i, _, rfl, rfl, wo_le _ _ ea, by omega, by omega, ?_, laid e3.inv ?_ fun l H4 n e4 p4 => q l H4 (free_of e2 (free_of e3 n)) ((e2.trans e3).trans e4) p4⟩
      · rw [List.length_map, List.length_singleton, Nat.one_mul]
        exact Nat.le_trans (by omega) (show 40000 ≤ sizeLine by decide)
      · have e5 : (List.replicate i.toNat ([z].map V.int)).flatten = (List.replicate i.toNat z).map V.int := by
          rw [List.map_replicate]
          exact List.flatten_replicate_singleton
        first
          | exact dx_ints _
          | (rw [e5]; exact dx_ints _)
/-- an item of a list that is being made -/
theorem ev_ixM {n : Nat} (m : Mak X H0 l H ds) (hs : σ[n]? = some (some (.ref l))) (hi : Ev (X.add l) ti σ H (vI i)) (ha : atI ds i = some d) : Ev (X.add l) (tOp (rIxL K) (tVar n) ti) σ H (vD d) := fun Y H1 e Q q =>
  ⟨_, hs, hi Y H1 e _ fun v H2 e2 p2 => by
    cases p2
    obtain ⟨acc, h1, h2⟩ := m.ex
    obtain ⟨v, hv, hd⟩ := atI_dx h2 ha
    have np : ¬ (X.add l).V l := fun z => m.i0.live l (X.subV _ z) m.fr
    exact ⟨l, acc, i, v, rfl, rfl, SqL.of ((e.trans e2).old _ _ np h1), hv, q _ H2 e2 ((e.trans e2).upD hd)⟩⟩
/-! ### promises of defs that draw: the pool is their first argument -/
def spD {α : Type} (pre : α → Prop) (Ps : α → List VP) (P : α → VP) : Sp := fun vs H Q _ => ∃ (a : α) (X : Vol) (p : Addr) (r : List V), vs = .ref p :: r ∧ X.pool = some p ∧ X.I H ∧ pre a ∧ AllP (X.wo H) (Ps a) r ∧ ∀ v H', Ext X H H' → (P a).at_ (X.wo H') v → Q v H'
theorem spD_len {α : Type} {pre : α → Prop} {Ps : α → List VP} {P : α → VP} {vs : List V} {Q : VK} {E : XK} {n : Nat} (h : spD pre Ps P vs H Q E) (hn : ∀ a, (Ps a).length = n) : vs.length = n + 1 := by
  obtain ⟨a, X, p, r, rfl, _, _, _, h, _⟩ := h
  rw [List.length_cons, ← hn a, Paired.length h]
theorem ev_draw {α : Type} {pre : α → Prop} {Ps : α → List VP} {P : α → VP} {E : XK} {tr : TA} {n : Nat} (a : α) (hs : σ[n]? = some (some (.ref p))) (hp : X.pool = some p) (h : EvA X tr σ H (Ps a)) (ha : pre a) : Ev X (tCall (spD pre Ps P) [] E (tCons (tVar n) tr)) σ H (P a) := fun Y H1 e Q q =>
  ⟨_, hs, h Y H1 e _ fun vs H2 e2 p2 => by
    show spD pre Ps P ((.ref p :: vs) ++ []) H2 Q E
    rw [List.append_nil]
    exact ⟨a, Y, p, vs, rfl, e.pool.trans hp, e2.inv, ha, p2, fun v H' s r => q v H' (e2.trans s) r⟩⟩
/-- .. and hand back a new list -/
def spDN {α : Type} (pre : α → Prop) (Ps : α → List VP) (R : α → PyData → Prop) : Sp := fun vs H Q _ => ∃ (a : α) (X : Vol) (p : Addr) (r : List V), vs = .ref p :: r ∧ X.pool = some p ∧ X.I H ∧ pre a ∧ AllP (X.wo H) (Ps a) r ∧ ∀ l H' d, Ext X H H' → H l = none → R a d → Dx (X.wo H') (.ref l) d → Q (.ref l) H'
theorem spDN_len {α : Type} {pre : α → Prop} {Ps : α → List VP} {R : α → PyData → Prop} {vs : List V} {Q : VK} {E : XK} {n : Nat} (h : spDN pre Ps R vs H Q E) (hn : ∀ a, (Ps a).length = n) : vs.length = n + 1 := by
  obtain ⟨a, X, p, r, rfl, _, _, _, h, _⟩ := h
  rw [List.length_cons, ← hn a, Paired.length h]
/-- an expression that draws, by what comes of it -/
def EvR (X : Vol) (te : TE) (σ : L2.St) (H : Hp) (R : PyData → Prop) : Prop := ∀ (Y : Vol) (H1 : Hp), Sub X H Y H1 → ∀ Q : VK, (∀ l H2 d, H1 l = none → Ext Y H1 H2 → R d → Dx (Y.wo H2) (.ref l) d → Q (.ref l) H2) → te σ H1 Q
theorem EvR.ev {R : PyData → Prop} (h : EvR X te σ H R) : Ev X te σ H (vX R) := fun Y H1 e Q q => h Y H1 e Q fun l H2 d _ e2 r p => q _ H2 e2 ⟨d, r, p⟩
theorem er_draw {α : Type} {pre : α → Prop} {Ps : α → List VP} {R : α → PyData → Prop} {E : XK} {tr : TA} {n : Nat} (a : α) (hs : σ[n]? = some (some (.ref p))) (hp : X.pool = some p) (h : EvA X tr σ H (Ps a)) (ha : pre a) : EvR X (tCall (spDN pre Ps R) [] E (tCons (tVar n) tr)) σ H (R a) := fun Y H1 e Q q =>
  ⟨_, hs, h Y H1 e _ fun vs H2 e2 p2 => by
    show spDN pre Ps R ((.ref p :: vs) ++ []) H2 Q E
    rw [List.append_nil]
    exact ⟨a, Y, p, vs, rfl, e.pool.trans hp, e2.inv, ha, p2, fun l H' d s n r x => q l H' d (free_of e2 n) (e2.trans s) r x⟩⟩
theorem q_asgR {R : PyData → Prop} {n : Nat} (h : EvR X te σ H R) (i : X.I H) (k : ∀ l H1 d, H l = none → Ext X H H1 → R d → Dx (X.wo H1) (.ref l) d → tz D (σ.set n (some (.ref l))) H1) : tSeq (tAsg te (gName n)) tz D σ H := h X H (.refl i) _ k
theorem q_asgX {R : PyData → Prop} {n : Nat} (h : Ev X te σ H (vX R)) (i : X.I H) (k : ∀ v H1 d, Ext X H H1 → R d → Dx (X.wo H1) v d → tz D (σ.set n (some v)) H1) : tSeq (tAsg te (gName n)) tz D σ H := h.go i fun v H1 e ⟨d, r, p⟩ => k v H1 d e r p
/-- an operand that is drawn -/
theorem ev_I0x {g : Int → Int → Int} {R : PyData → Prop} {p : Int → Prop} (ha : Ev X ta σ H (vI i)) (hb : Ev X tb σ H (vX fun d => ∃ r, d = .int r ∧ p r)) : Ev X (tOp (rI0 fun i j => .int (g i j)) ta tb) σ H (vX fun d => ∃ r, d = .int (g i r) ∧ p r) := ev_op2 ha hb fun Y x y H1 e px py Q q => by
  cases px
  obtain ⟨_, ⟨r, rfl, hr⟩, hy⟩ := py
  cases hy
  exact ⟨i, r, rfl, rfl, q _ H1 (.refl e.inv) ⟨_, ⟨r, rfl, hr⟩, .int _⟩⟩
theorem ev_I0y {g : Int → Int → Int} {p : Int → Prop} (ha : Ev X ta σ H (vX fun d => ∃ r, d = .int r ∧ p r)) (hb : Ev X tb σ H (vI i)) : Ev X (tOp (rI0 fun i j => .int (g i j)) ta tb) σ H (vX fun d => ∃ r, d = .int (g r i) ∧ p r) := ev_op2 ha hb fun Y x y H1 e px py Q q => by
  cases py
  obtain ⟨_, ⟨r, rfl, hr⟩, hy⟩ := px
  cases hy
  exact ⟨r, i, rfl, rfl, q _ H1 (.refl e.inv) ⟨_, ⟨r, rfl, hr⟩, .int _⟩⟩
/-- an item at a drawn place -/
theorem ev_ixLx {p : Int → Prop} {R : PyData → Prop} (ha : Ev X ta σ H (vL ds)) (hb : Ev X tb σ H (vX fun d => ∃ r, d = .int r ∧ p r)) (hi : ∀ r, p r → ∃ d, atI ds r = some d ∧ R d) : Ev X (tOp (rIxL K) ta tb) σ H (vX R) := ev_op2 ha hb fun Y x y H1 e px py Q q => by
  obtain ⟨_, ⟨r, rfl, hr⟩, hy⟩ := py
  cases hy
  obtain ⟨d, hd, hR⟩ := hi r hr
  cases px with
  | lst ea al =>
    obtain ⟨v, hv, hdv⟩ := atI_dx al hd
    exact ⟨_, _, r, v, rfl, rfl, SqL.of (wo_le _ _ ea), hv, q _ H1 (.refl e.inv) ⟨d, hR, hdv⟩⟩
theorem Ev.toX (h : Ev X te σ H (vD d)) {R : PyData → Prop} (r : R d) : Ev X te σ H (vX R) := h.weak fun _ _ p => ⟨d, r, p⟩
theorem Ev.weakX {R S : PyData → Prop} (h : Ev X te σ H (vX R)) (w : ∀ d, R d → S d) : Ev X te σ H (vX S) := h.weak fun _ _ ⟨d, r, p⟩ => ⟨d, w d r, p⟩
/-- the law's own pool -/
def volP (p : Addr) : Vol := ⟨some p, fun a => a = p, fun q h => (Option.some.inj h).symm, [], fun _ h => (nomatch h)⟩
theorem volP_I (h : PoolAt H p) : (volP p).I H := by
  refine ⟨fun a ha => ?_, fun q hq => ?_, .nil0 rfl⟩
  · have ha' : a = p := ha
    obtain ⟨_, _, e, _⟩ := h
    rw [ha', e]
    exact fun z => nomatch z
  · have e : p = q := Option.some.inj hq
    rw [← e]
    exact h
end
end Ee

namespace Ee
open PySem L2
abbrev RR : List (PyData → Prop) → List PyData → Prop := Paired fun R e => R e
def EvAx (X : Vol) (ta : TA) (σ : L2.St) (H : Hp) (Rs : List (PyData → Prop)) : Prop := ∀ (Y : Vol) (H1 : Hp), Sub X H Y H1 → ∀ Q : List V → Hp → Prop, (∀ vs ds H2, Ext Y H1 H2 → RR Rs ds → DxAll (Y.wo H2) vs ds → Q vs H2) → ta σ H1 Q
section
variable {X Y : Vol} {σ : L2.St} {H H' H0 H1 : Hp} {ta tb tc te tl ti : TE} {t u : TT} {P P' : VP} {K : Fr} {i j k : Int} {d e : PyData} {ds es : List PyData} {l p : Addr} {D : Ends} {tz ty tw : TS} {R R' : PyData → Prop} {Rs : List (PyData → Prop)}
theorem ex_nil : EvAx X tNil σ H [] := fun Y H1 e Q q => q _ _ H1 (.refl e.inv) .nil .nil
theorem ex_cons {tr : TA} (h : Ev X ta σ H (vX R)) (hr : EvAx X tr σ H Rs) : EvAx X (tCons ta tr) σ H (R :: Rs) := fun Y H1 e Q q =>
  h Y H1 e _ fun v H2 e2 ⟨d, hd, p2⟩ => hr Y H2 (e.trans e2) _ fun vs ds H3 e3 r p3 => q _ _ H3 (e2.trans e3) (.cons hd r) (.cons (e3.upD p2) p3)
theorem RR.len : ∀ {Rs : List (PyData → Prop)} {ds : List PyData}, RR Rs ds → Rs.length = ds.length := fun h => Paired.length h
theorem ev_lstX {tr : TA} (h : EvAx X tr σ H Rs) (hl : Rs.length ≤ 40000) : Ev X (tLst tr) σ H (vX fun d => ∃ ds, d = .list ds ∧ RR Rs ds) := fun Y H1 e Q q =>
  h Y H1 e _ fun vs ds H2 e2 r p2 => ⟨by rw [p2.len, ← RR.len r]; exact Nat.le_trans hl (by decide), fun p hp => by
    have x := Sub.new (X := Y) (o := .lst vs) e2.inv hp
    exact q _ _ (e2.trans x) ⟨_, ⟨ds, rfl, r⟩, .lst (wo_new e2.inv hp) (x.upA p2)⟩⟩
theorem ev_tupX {tr : TA} (h : EvAx X tr σ H Rs) (hl : Rs.length ≤ 40000) : Ev X (tTup tr) σ H (vX fun d => ∃ ds, d = .tuple ds ∧ RR Rs ds) := fun Y H1 e Q q =>
  h Y H1 e _ fun vs ds H2 e2 r p2 => ⟨by rw [p2.len, ← RR.len r]; exact Nat.le_trans hl (by decide), fun p hp => by
    have x := Sub.new (X := Y) (o := .tup vs) e2.inv hp
    exact q _ _ (e2.trans x) ⟨_, ⟨ds, rfl, r⟩, .tup (wo_new e2.inv hp) (x.upA p2)⟩⟩
theorem ev_ixXX {p : Int → Prop} (ha : Ev X ta σ H (vX R)) (hb : Ev X tb σ H (vX fun d => ∃ r, d = .int r ∧ p r)) (hi : ∀ d r, R d → p r → ∃ ds e, d = .list ds ∧ atI ds r = some e ∧ R' e) : Ev X (tOp (rIxL K) ta tb) σ H (vX R') := ev_op2 ha hb fun Y x y H1 e px py Q q => by
  obtain ⟨_, ⟨r, rfl, hr⟩, hy⟩ := py
  cases hy
  obtain ⟨d, hd, hx⟩ := px
  obtain ⟨ds, e', rfl, he, hR⟩ := hi d r hd hr
  cases hx with
  | lst ea al =>
    obtain ⟨v, hv, hdv⟩ := atI_dx al he
    exact ⟨_, _, r, v, rfl, rfl, SqL.of (wo_le _ _ ea), hv, q _ H1 (.refl e.inv) ⟨e', hR, hdv⟩⟩
theorem ev_Ix {C : Int → Int → Prop} {g : Int → Int → Int} {p : Int → Prop} (ha : Ev X ta σ H (vX fun d => ∃ r, d = .int r ∧ p r)) (hb : Ev X tb σ H (vI i)) (hc : ∀ r, p r → C r i) : Ev X (tOp (rI C fun i j => .int (g i j)) ta tb) σ H (vX fun d => ∃ r, d = .int (g r i) ∧ p r) := ev_op2 ha hb fun Y x y H1 e px py Q q => by
  cases py
  obtain ⟨_, ⟨r, rfl, hr⟩, hy⟩ := px
  cases hy
  exact ⟨r, i, rfl, rfl, hc r hr, q _ H1 (.refl e.inv) ⟨_, ⟨r, rfl, hr⟩, .int _⟩⟩
theorem q_retX (h : Ev X te σ H (vX R)) (i : X.I H) (k : ∀ v H1 d, Ext X H H1 → R d → Dx (X.wo H1) v d → D.rt v H1) : tRet te D σ H := h.go i fun v H1 e ⟨d, r, p⟩ => k v H1 d e r p
/-- range over a drawn number -/
theorem q_forX {g : TG} {tb : TS} {p : Int → Prop} (h : Ev X te σ H (vX fun d => ∃ r, d = .int r ∧ p r)) (hp : ∀ r, p r → 0 ≤ r ∧ r ≤ 40000) (i : X.I H)
    (k : ∀ H1 r, Ext X H H1 → p r → ∃ (Inv : Nat → L2.St → Hp → Prop), Inv 0 σ H1 ∧ (∀ i σ' H', i < r.toNat → Inv i σ' H' → g (.int (i : Int)) σ' H' fun σ2 H3 => tb { D with nx := Inv (i + 1), ct := Inv (i + 1), bk := tz D } σ2 H3) ∧ ∀ σ' H', Inv r.toNat σ' H' → tz D σ' H') : tSeq (tFor (iRng1 (tCons te tNil)) g tb) tz D σ H := h.go i fun v H1 e hvx => by
  obtain ⟨_, ⟨r, rfl, hr⟩, hv⟩ := hvx
  cases hv
  obtain ⟨h0, h1⟩ := hp r hr
  obtain ⟨Inv, a, b, c⟩ := k H1 r e hr
  exact ⟨r, rfl, by omega, by omega, for_range (lo := 0) (n := r.toNat) Inv a (fun i σ H hi p => by rw [Int.zero_add]; exact b i σ H hi p) c⟩
def toI : PyData → Int
  | .int z => z
  | _ => 0
theorem ints_of : ∀ {es : List PyData}, (∀ e ∈ es, ∃ z, e = .int z) → (es.map toI).map PyData.int = es
  | [], _ => rfl
  | e :: es, h => by
    obtain ⟨z, rfl⟩ := h e (by simp)
    rw [List.map_cons, List.map_cons, ints_of fun e he => h e (by simp [he])]
    rfl
end
end Ee

namespace Ee
open PySem L2
/-! ## a dict of ways that is being made -/
structure MakD (X : Vol) (H0 : Hp) (d : Addr) (H : Hp) (ws : Ws) : Prop where
  i0 : X.I H0
  fr : H0 d = none
  sub : Sub X H0 (X.add d) H
  ex : ∃ kvs, H d = some (.dK kvs) ∧ KvR ((X.add d).wo H) kvs ws
section
variable {X Y : Vol} {σ : L2.St} {H H' H0 H1 : Hp} {ws : Ws} {d l : Addr} {te td ty tv : TE} {v : Nat} {D : Ends} {tz : TS} {p : List Stp}
theorem MakD.np (m : MakD X H0 d H ws) : ¬ (X.add d).V d := fun z => m.i0.live d (X.subV _ z) m.fr
theorem MakD.ext (m : MakD X H0 d H ws) (e : Ext (X.add d) H H') : MakD X H0 d H' ws := by
  obtain ⟨kvs, h1, h2⟩ := m.ex
  exact ⟨m.i0, m.fr, m.sub.trans e, kvs, e.old _ _ m.np h1, h2.same e.wo⟩
theorem MakD.wk {o : HO} (m : MakD X H0 d H ws) (p : Pl o := by exact True.intro) : Wk (X.add d) H (X.add d) (upd H d o) := by
  refine ⟨rfl, fun _ z => z, fun _ z => .inl z, fun b u n q => ?_, (m.sub.put m.i0 m.fr p).inv⟩
  rw [upd_ne fun z => n (.inr z)]
  exact q
theorem MakD.done (m : MakD X H0 d H ws) : Ext X H0 H ∧ (vWays ws).at_ (X.wo H) (.ref d) := by
  obtain ⟨kvs, h1, h2⟩ := m.ex
  refine ⟨m.sub.drop, d, kvs, rfl, ?_, h2.same wo_add⟩
  rw [wo_out fun z => m.i0.live d z m.fr]
  exact h1
theorem isSome_val {G : Hp} {kvs : List (Key × V)} {v : Nat} (h : KvR G kvs ws) : (valV kvs (Sum.inl (v : Int))).isSome = hasW ws v := by
  have hval := h.val v
  rw [← getW_has]
  revert hval
  cases getW ws v with
  | none => intro h; rw [show valV kvs (Sum.inl (v : Int)) = none from h]; rfl
  | some p => rintro ⟨x, h, _⟩; rw [h]; rfl
theorem ev_inD {n : Nat} (m : MakD X H0 d H ws) (hs : σ[n]? = some (some (.ref d))) (h : Ev (X.add d) ty σ H (vI (v : Int))) : Ev (X.add d) (tDIn ty (tVar n)) σ H (vB (hasW ws v)) := fun Y H1 e Q q => h Y H1 e _ fun x H2 e2 p2 => by
  cases p2
  obtain ⟨kvs, h1, h2⟩ := m.ex
  refine ⟨_, hs, d, _, rfl, DGet.k (k := Sum.inl (v : Int)) ((e.trans e2).old _ _ m.np h1), ?_⟩
  rw [isSome_val h2]
  exact q _ H2 e2 (.bl _)
theorem ev_niD {n : Nat} (m : MakD X H0 d H ws) (hs : σ[n]? = some (some (.ref d))) (h : Ev (X.add d) ty σ H (vI (v : Int))) : Ev (X.add d) (tDNotIn ty (tVar n)) σ H (vB (!hasW ws v)) := fun Y H1 e Q q => h Y H1 e _ fun x H2 e2 p2 => by
  cases p2
  obtain ⟨kvs, h1, h2⟩ := m.ex
  refine ⟨_, hs, d, _, rfl, DGet.k (k := Sum.inl (v : Int)) ((e.trans e2).old _ _ m.np h1), ?_⟩
  rw [isSome_val h2]
  exact q _ H2 e2 (.bl _)
theorem ev_atD {n : Nat} (m : MakD X H0 d H ws) (hs : σ[n]? = some (some (.ref d))) (h : Ev (X.add d) ty σ H (vI (v : Int))) (hp : getW ws v = some p) : Ev (X.add d) (tDGet (tVar n) ty) σ H (vD (dSteps p)) := fun Y H1 e Q q =>
  ⟨_, hs, h Y H1 e _ fun x H2 e2 p2 => by
    cases p2
    obtain ⟨kvs, h1, h2⟩ := m.ex
    have hv := h2.val v
    rw [hp] at hv
    obtain ⟨x, hx, hd⟩ := hv
    exact ⟨d, x, rfl, (by rw [← hx]; exact DGet.k (k := Sum.inl (v : Int)) ((e.trans e2).old _ _ m.np h1)), q _ H2 e2 ((e.trans e2).upD hd)⟩⟩
/-- the same of a dict that is made -/
theorem ev_inW (h : Ev X ty σ H (vI (v : Int))) (hd : Ev X td σ H (vWays ws)) : Ev X (tDIn ty td) σ H (vB (hasW ws v)) := fun Y H1 e Q q => h Y H1 e _ fun x H2 e2 p2 => hd Y H2 (e.trans e2) _ fun y H3 e3 ⟨a, kvs, hy, ha, hr⟩ => by
  cases p2
  refine ⟨a, _, hy, DGet.k (k := Sum.inl (v : Int)) (wo_le _ _ ha), ?_⟩
  rw [isSome_val hr]
  exact q _ H3 (e2.trans e3) (.bl _)
theorem ev_atW (hd : Ev X td σ H (vWays ws)) (h : Ev X ty σ H (vI (v : Int))) (hp : getW ws v = some p) : Ev X (tDGet td ty) σ H (vD (dSteps p)) := fun Y H1 e Q q => hd Y H1 e _ fun y H2 e2 ⟨a, kvs, hy, ha, hr⟩ => h Y H2 (e.trans e2) _ fun x H3 e3 p3 => by
  cases p3
  have hv := hr.val v
  rw [hp] at hv
  obtain ⟨x, hx, hd⟩ := hv
  exact ⟨a, x, hy, (by rw [← hx]; exact DGet.k (k := Sum.inl (v : Int)) (wo_le _ _ (e3.wo _ _ ha))), q _ H3 (e2.trans e3) (e3.upD hd)⟩
theorem ev_varK {n : Nat} {v : V} (h : σ[n]? = some (some v)) (p : (vWays ws).at_ (X.wo H) v) : Ev X (tVar n) σ H (vWays ws) := ev_var h p
/-- d[k] = e -/
theorem q_putD {n : Nat} (m : MakD X H0 d H ws) (hs : σ[n]? = some (some (.ref d))) (h : Ev (X.add d) te σ H (vD (dSteps p))) (hk : Ev (X.add d) ty σ H (vI (v : Int))) (hn : hasW ws v = false) (hl : ws.length ≤ 1000)
    (k : ∀ H1, MakD X H0 d H1 (ws ++ [(v, p)]) → Wk (X.add d) H (X.add d) H1 → D.nx σ H1) : sDPut (tVar n) ty te D σ H := h.go m.sub.inv fun x H1 e1 px => by
  refine ⟨_, hs, (hk.mono e1).go e1.inv fun y H2 e2 py => ?_⟩
  cases py
  have m2 := m.ext (e1.trans e2)
  obtain ⟨kvs, h1, h2⟩ := m2.ex
  refine ⟨d, _, rfl, DPut.k (k := Sum.inl (v : Int)) h1 (by rw [h2.len]; exact small1000 hl), k _ ⟨m2.i0, m2.fr, m2.sub.put m2.i0 m2.fr, _, upd_same, ?_⟩ ((e1.trans e2).wk.trans m2.wk)⟩
  rw [wo_put]
  exact h2.put hn (e2.upD px)
end
/-! ### ways over all edges, sweep by sweep -/
def swp1 (ps : List (Nat × Nat)) (ws : Ws) (k : Nat) : Ws := if (hasW ws (Wm.at2 ps k).1 && !hasW ws (Wm.at2 ps k).2) = true then ws ++ [((Wm.at2 ps k).2, (getW ws (Wm.at2 ps k).1).getD [] ++ [(k, 1)])] else ws
def swp2 (ps : List (Nat × Nat)) (ws : Ws) (k : Nat) : Ws := if (hasW ws (Wm.at2 ps k).2 && !hasW ws (Wm.at2 ps k).1) = true then ws ++ [((Wm.at2 ps k).1, (getW ws (Wm.at2 ps k).2).getD [] ++ [(k, -1)])] else ws
def swp (ps : List (Nat × Nat)) (ws : Ws) (k : Nat) : Ws := swp2 ps (swp1 ps ws k) k
def swps (ps : List (Nat × Nat)) (ws : Ws) (i : Nat) : Ws := (List.range i).foldl (swp ps) ws
def rnds (ps : List (Nat × Nat)) (a : Nat) : Nat → Ws
  | 0 => [(a, [])]
  | i + 1 => swps ps (rnds ps a i) ps.length
structure WInv (ps : List (Nat × Nat)) (n a : Nat) (ws : Ws) : Prop where
  nd : (ws.map (·.1)).Nodup
  lt : ∀ p ∈ ws, p.1 < n
  ch : ∀ p ∈ ws, Chain ps a p.2 p.1 ∧ p.2.length ≤ ws.length
  st : hasW ws a = true
theorem getW_mem {ws : Ws} {v : Nat} {p : List Stp} (h : getW ws v = some p) : (v, p) ∈ ws := by
  unfold getW at h
  obtain ⟨q, h1, h2⟩ := Option.map_eq_some_iff.mp h
  have h3 := List.mem_of_find?_eq_some h1
  have h4 : q.1 = v := by have := List.find?_some h1; simpa using this
  have e : q = (v, p) := by rw [← h2, ← h4]
  rw [e] at h3
  exact h3
theorem getW_of {ws : Ws} {v : Nat} (h : hasW ws v = true) : ∃ p, getW ws v = some p := by
  have h2 := getW_has (ws := ws) (v := v)
  rw [h] at h2
  exact Option.isSome_iff_exists.mp h2
theorem WInv.le {ps : List (Nat × Nat)} {n a : Nat} {ws : Ws} (h : WInv ps n a ws) : ws.length ≤ n := by
  have := nodup_le h.nd fun x hx => by
    obtain ⟨p, hp, rfl⟩ := List.mem_map.mp hx
    exact h.lt p hp
  rwa [List.length_map] at this
theorem WInv.more {ps : List (Nat × Nat)} {n a : Nat} {ws : Ws} (h : WInv ps n a ws) {u v : Nat} {s : Stp} (hu : hasW ws u = true) (hv : hasW ws v = false) (vn : v < n) (hs : s.1 < ps.length) (hy : s.2 = 1 ∨ s.2 = -1) (hf : sFrom ps s = u) (ht : sTo ps s = v) : WInv ps n a (ws ++ [(v, (getW ws u).getD [] ++ [s])]) := by
  obtain ⟨p, hp⟩ := getW_of hu
  rw [hp]
  obtain ⟨c, l⟩ := h.ch _ (getW_mem hp)
  refine ⟨?_, fun q hq => ?_, fun q hq => ?_, hasW_app h.st⟩
  · rw [List.map_append, List.nodup_append]
    refine ⟨h.nd, by simp, fun a ha b hb => ?_⟩
    have e : b = v := by simpa using hb
    rintro rfl
    rw [e] at ha
    rw [hasW_mem.mpr ha] at hv
    cases hv
  · rcases List.mem_append.mp hq with hq | hq
    · exact h.lt q hq
    · have e : q = (v, (some p).getD [] ++ [s]) := by simpa using hq
      rw [e]; exact vn
  · rw [List.length_append, List.length_singleton]
    rcases List.mem_append.mp hq with hq | hq
    · exact ⟨(h.ch q hq).1, Nat.le_succ_of_le (h.ch q hq).2⟩
    · have e : q = (v, p ++ [s]) := by simpa using hq
      rw [e]
      refine ⟨c.app ⟨hs, hy, hf, ht⟩, ?_⟩
      show (p ++ [s]).length ≤ _
      rw [List.length_append, List.length_singleton]
      exact Nat.succ_le_succ l
section
variable {ps : List (Nat × Nat)} {n a : Nat} {ws : Ws} {k : Nat}
theorem WInv.s1 (h : WInv ps n a ws) (hk : k < ps.length) (wi : Within n ps) : WInv ps n a (swp1 ps ws k) := by
  have he := wi (Wm.at2 ps k) (by rw [Wm.at2_get (List.getElem?_eq_getElem hk)]; exact List.getElem_mem hk)
  unfold swp1
  split
  · rename_i c
    simp only [Bool.and_eq_true, Bool.not_eq_true'] at c
    exact h.more c.1 c.2 he.2 hk (.inl rfl) rfl rfl
  · exact h
theorem WInv.s2 (h : WInv ps n a ws) (hk : k < ps.length) (wi : Within n ps) : WInv ps n a (swp2 ps ws k) := by
  have he := wi (Wm.at2 ps k) (by rw [Wm.at2_get (List.getElem?_eq_getElem hk)]; exact List.getElem_mem hk)
  unfold swp2
  split
  · rename_i c
    simp only [Bool.and_eq_true, Bool.not_eq_true'] at c
    exact h.more c.1 c.2 he.1 hk (.inr rfl) rfl rfl
  · exact h
theorem swp1_up {v : Nat} (h : hasW ws v = true) : hasW (swp1 ps ws k) v = true := by
  unfold swp1; split
  · exact hasW_app h
  · exact h
theorem swp2_up {v : Nat} (h : hasW ws v = true) : hasW (swp2 ps ws k) v = true := by
  unfold swp2; split
  · exact hasW_app h
  · exact h
theorem swp1_len : ws.length ≤ (swp1 ps ws k).length := by
  unfold swp1; split
  · rw [List.length_append]; omega
  · exact Nat.le_refl _
theorem swp2_len : ws.length ≤ (swp2 ps ws k).length := by
  unfold swp2; split
  · rw [List.length_append]; omega
  · exact Nat.le_refl _
theorem swp_bal : hasW (swp ps ws k) (Wm.at2 ps k).1 = hasW (swp ps ws k) (Wm.at2 ps k).2 := by
  have go1 : hasW ws (Wm.at2 ps k).1 = true → hasW (swp ps ws k) (Wm.at2 ps k).2 = true := fun h => by
    refine swp2_up ?_
    unfold swp1
    split
    · exact hasW_last (m := ((Wm.at2 ps k).2, _))
    · rename_i c
      rw [h] at c
      simpa using c
  by_cases h1 : hasW (swp1 ps ws k) (Wm.at2 ps k).2 = true
  · have h2 : hasW (swp ps ws k) (Wm.at2 ps k).2 = true := swp2_up h1
    rw [h2]
    show hasW (swp2 ps (swp1 ps ws k) k) _ = true
    unfold swp2
    split
    · exact hasW_last (m := ((Wm.at2 ps k).1, _))
    · rename_i c
      rw [h1] at c
      simpa using c
  · have h1' : hasW (swp1 ps ws k) (Wm.at2 ps k).2 = false := by simpa using h1
    have e : swp ps ws k = swp1 ps ws k := by
      show swp2 ps (swp1 ps ws k) k = _
      unfold swp2
      rw [h1', Bool.false_and, if_neg Bool.false_ne_true]
    rw [e, h1']
    have h3 : hasW ws (Wm.at2 ps k).1 = false := by
      cases q : hasW ws (Wm.at2 ps k).1 with
      | false => rfl
      | true =>
        have := go1 q
        rw [e, h1'] at this
        cases this
    have e2 : swp1 ps ws k = ws := by
      unfold swp1
      rw [h3, Bool.false_and, if_neg Bool.false_ne_true]
    rw [e2]
    exact h3
theorem swp_stay (h : hasW ws (Wm.at2 ps k).1 = hasW ws (Wm.at2 ps k).2) : swp ps ws k = ws := by
  have e1 : swp1 ps ws k = ws := by
    unfold swp1
    rw [h]
    cases hasW ws (Wm.at2 ps k).2 <;> rfl
  show swp2 ps (swp1 ps ws k) k = ws
  rw [e1]
  unfold swp2
  rw [h]
  cases hasW ws (Wm.at2 ps k).2 <;> rfl
theorem swps_succ (i : Nat) : swps ps ws (i + 1) = swp ps (swps ps ws i) i := by
  unfold swps
  rw [List.range_succ, List.foldl_append]
  rfl
theorem swps_inv (h : WInv ps n a ws) (wi : Within n ps) : ∀ i, i ≤ ps.length → WInv ps n a (swps ps ws i)
  | 0, _ => h
  | i + 1, hi => by
    rw [swps_succ]
    exact ((swps_inv h wi i (by omega)).s1 hi wi).s2 hi wi
theorem swp_len : ws.length ≤ (swp ps ws k).length := Nat.le_trans swp1_len swp2_len
theorem swps_len : ∀ i, ws.length ≤ (swps ps ws i).length
  | 0 => Nat.le_refl _
  | i + 1 => by rw [swps_succ]; exact Nat.le_trans (swps_len i) swp_len
theorem swps_len_mono {i j : Nat} (h : i ≤ j) : (swps ps ws i).length ≤ (swps ps ws j).length := by
  induction h with
  | refl => exact Nat.le_refl _
  | step _ ih => rw [swps_succ]; exact Nat.le_trans ih swp_len
/-- a sweep that adds nothing changes nothing -/
theorem swp1_eq (h : (swp1 ps ws k).length = ws.length) : swp1 ps ws k = ws := by
  unfold swp1 at h ⊢
  split
  · rename_i q; rw [if_pos q, List.length_append] at h; simp at h
  · rfl
theorem swp2_eq (h : (swp2 ps ws k).length = ws.length) : swp2 ps ws k = ws := by
  unfold swp2 at h ⊢
  split
  · rename_i q; rw [if_pos q, List.length_append] at h; simp at h
  · rfl
theorem swp_eq_of_len (h : (swp ps ws k).length = ws.length) : swp ps ws k = ws := by
  have a := @swp1_len ps ws k
  have b := @swp2_len ps (swp1 ps ws k) k
  have c : (swp2 ps (swp1 ps ws k) k).length = ws.length := h
  have e1 : swp1 ps ws k = ws := swp1_eq (by omega)
  show swp2 ps (swp1 ps ws k) k = ws
  rw [e1] at c ⊢
  exact swp2_eq c
def Bal (ps : List (Nat × Nat)) (ws : Ws) : Prop := ∀ k, k < ps.length → hasW ws (Wm.at2 ps k).1 = hasW ws (Wm.at2 ps k).2
theorem swps_bal (h : Bal ps ws) : ∀ i, i ≤ ps.length → swps ps ws i = ws
  | 0, _ => rfl
  | i + 1, hi => by rw [swps_succ, swps_bal h i (by omega), swp_stay (h i hi)]
theorem swps_grow : Bal ps ws ∨ ws.length < (swps ps ws ps.length).length := by
  by_cases hl : ws.length < (swps ps ws ps.length).length
  · exact .inr hl
  · left
    have eq : ∀ i, i ≤ ps.length → swps ps ws i = ws := fun i => by
      induction i with
      | zero => intro _; rfl
      | succ i ih =>
        intro hi
        have h1 := @swps_len_mono ps ws (i + 1) ps.length hi
        rw [swps_succ, ih (by omega)] at h1 ⊢
        exact swp_eq_of_len (by have := @swp_len ps ws i; omega)
    intro k hk
    have h1 := eq (k + 1) hk
    rw [swps_succ, eq k (by omega)] at h1
    have h2 := @swp_bal ps ws k
    rw [h1] at h2
    exact h2
theorem rnds_inv (ha : a < n) (wi : Within n ps) : ∀ i, WInv ps n a (rnds ps a i) ∧ (Bal ps (rnds ps a i) ∨ i + 1 ≤ (rnds ps a i).length)
  | 0 => by
    refine ⟨⟨by simp [rnds], fun p hp => ?_, fun p hp => ?_, hasW_mem.mpr (by simp [rnds])⟩, .inr (Nat.le_refl _)⟩
    · have e : p = (a, []) := by simpa [rnds] using hp
      rw [e]; exact ha
    · have e : p = (a, []) := by simpa [rnds] using hp
      rw [e]; exact ⟨rfl, Nat.zero_le _⟩
  | i + 1 => by
    obtain ⟨h1, h2⟩ := rnds_inv ha wi i
    refine ⟨swps_inv h1 wi _ (Nat.le_refl _), ?_⟩
    rcases h2 with h2 | h2
    · left
      show Bal ps (swps ps (rnds ps a i) ps.length)
      rw [swps_bal h2 _ (Nat.le_refl _)]
      exact h2
    · rcases @swps_grow ps (rnds ps a i) with h3 | h3
      · left
        show Bal ps (swps ps (rnds ps a i) ps.length)
        rw [swps_bal h3 _ (Nat.le_refl _)]
        exact h3
      · right
        show i + 1 + 1 ≤ (swps ps (rnds ps a i) ps.length).length
        omega
theorem rnds_end (ha : a < n) (wi : Within n ps) : WInv ps n a (rnds ps a n) ∧ Bal ps (rnds ps a n) := by
  obtain ⟨h1, h2⟩ := rnds_inv ha wi n
  refine ⟨h1, ?_⟩
  rcases h2 with h2 | h2
  · exact h2
  · have := h1.le
    omega
end
end Ee

namespace Ee
open PySem L2
section
variable {X Y : Vol} {σ : L2.St} {H H' H0 H1 : Hp} {ta tb tc te tl ti tel : TE} {t u : TT} {P P' : VP} {K : Fr} {i j k : Int} {b : Bool} {d e : PyData} {ds es : List PyData} {l p : Addr} {D : Ends} {tz ty tw : TS} {R R' : PyData → Prop} {Rs : List (PyData → Prop)}
theorem ev_lenM {n : Nat} (m : Mak X H0 l H ds) (hs : σ[n]? = some (some (.ref l))) : Ev (X.add l) (tCB (fun xs H Q => ∃ p ys, xs = [V.ref p] ∧ (SqL K H p ys ∨ SqT K H p ys) ∧ Q (.int ys.length) H) (tCons (tVar n) tNil)) σ H (vI ds.length) := fun Y H1 e Q q => by
  obtain ⟨acc, h1, h2⟩ := m.ex
  have np : ¬ (X.add l).V l := fun z => m.i0.live l (X.subV _ z) m.fr
  refine ⟨_, hs, l, acc, rfl, .inl (SqL.of (e.old _ _ np h1)), ?_⟩
  rw [h2.len]
  exact q _ H1 (.refl e.inv) (.int _)
/-- l.insert(i, e) -/
theorem s_ins {n : Nat} {B : Int} (m : Mak X H0 l H ds) (hs : σ[n]? = some (some (.ref l))) (hi : Ev (X.add l) ti σ H (vX fun d => ∃ r, d = .int r ∧ 0 ≤ r ∧ r < B)) (hB : B ≤ 40000) (h : Ev (X.add l) te σ H (vD d)) (hz : ds.length < 40000)
    (k : ∀ r H1, Mak X H0 l H1 (ds.take r ++ [d] ++ ds.drop r) → Wk (X.add l) H (X.add l) H1 → D.nx σ H1) :
    tDrop (tBM K "list" (fun x vs H Q => ∃ (l : Addr) (xs : List V) (i : Int) (y : V), x = .ref l ∧ vs = [.int i, y] ∧ H l = some (.lst xs) ∧ xs.length < sizeLine ∧ 0 ≤ i ∧ i < 2 ^ 63 ∧ Q .non (upd H l (.lst (xs.take i.toNat ++ [y] ++ xs.drop i.toNat)))) (tVar n) (tCons ti (tCons te tNil))) D σ H := by
  obtain ⟨acc, h1, h2⟩ := m.ex
  refine ⟨_, hs, .inl ⟨rfl, _, SqL.of h1⟩, hi.go m.inv fun v H1 e hv => ?_⟩
  obtain ⟨_, ⟨r, rfl, r0, r1⟩, hv⟩ := hv
  cases hv
  refine (h.mono e).go e.inv fun y H2 e2 py => ?_
  have m2 := m.ext (e.trans e2)
  obtain ⟨acc', h1', h2'⟩ := m2.ex
  refine ⟨l, acc', r, y, rfl, rfl, h1', by rw [h2'.len]; exact Nat.lt_of_lt_of_le hz (by decide), r0, by omega, k r.toNat _ (m2.put (((h2'.take _).app (.cons py .nil)).app (h2'.drop _))) ((e.trans e2).wk.trans m2.wkput)⟩
theorem q_unpack2X {R1 R2 : PyData → Prop} {i j : Nat} (h : Ev X te σ H (vX fun d => ∃ ds, d = .tuple ds ∧ RR [R1, R2] ds)) (iv : X.I H) (k : ∀ v1 v2 d1 d2 H1, Ext X H H1 → R1 d1 → R2 d2 → Dx (X.wo H1) v1 d1 → Dx (X.wo H1) v2 d2 → tz D ((σ.set i (some v1)).set j (some v2)) H1) : tSeq (tAsg te (gTup K 2 (gCons (gName i) (gCons (gName j) gNil)))) tz D σ H := h.go iv fun v H1 e hv => by
  obtain ⟨_, ⟨ds, rfl, rr⟩, p⟩ := hv
  match ds, rr with
  | [a, b], .cons ra (.cons rb .nil) =>
    cases p with
    | tup ea al =>
      cases al with
      | cons a t =>
        cases t with
        | cons b t =>
          cases t
          exact ⟨_, _, rfl, SqT.of (wo_le _ _ ea), rfl, _, _, rfl, _, _, rfl, rfl, k _ _ _ _ H1 e ra rb a b⟩
theorem q_ifK {Mid : L2.St → Hp → Prop} (h : EvT X t σ H b) (i : X.I H) (h1 : b = true → ∀ H1, Ext X H H1 → (∀ σ' H', Mid σ' H' → tz D σ' H') → ty { D with nx := tz D } σ H1) (h2 : b = false → ∀ H1, Ext X H H1 → Mid σ H1) (k : ∀ σ' H', Mid σ' H' → tz D σ' H') : tSeq (tIfS t ty tNext) tz D σ H := h.go i fun H1 e => by
  cases b with
  | true => exact iteT (h1 rfl H1 e k)
  | false => exact iteF (k _ _ (h2 rfl H1 e))
theorem en_rev (h : Ev X te σ H (vL ds)) : EvN X (tRevL K te) σ H (.list ds.reverse) := fun Y H1 e Q q => h Y H1 e _ fun v H2 e2 p2 => by
  cases p2 with
  | lst ea al => exact ⟨_, _, rfl, SqL.of (wo_le _ _ ea), laid e2.inv al.rev fun l H3 n e3 p3 => q l H3 (free_of e2 n) (e2.trans e3) p3⟩
/-- a walked list that stands there -/
theorem es_at (h : Dx (X.wo H) (.ref p) (.list ds)) : EvS X (fun _ H R => R (Itl K p) H) σ H ds := fun Y H1 e R r => by
  cases e.upD h with
  | lst ea al =>
    rename_i xs
    have at_ : ∀ Z H2, Wk Y H1 Z H2 → SqL K H2 p xs := fun Z H s => SqL.of (wo_le _ _ (s.wo _ _ ea))
    refine r _ H1 (.refl e.inv) ⟨fun Z H i s hi => ?_, fun Z H s => ⟨xs, at_ Z H s, Nat.le_of_eq al.len⟩, fun Z H i x H' s hi y => ?_⟩
    · exact ⟨xs, xs[i]'(by rw [al.len]; exact hi), at_ Z H s, List.getElem?_eq_getElem _⟩
    · obtain ⟨rfl, y⟩ := y
      obtain ⟨d, hd, hx⟩ := al.getv (y xs (at_ Z _ s))
      exact ⟨d, hd, .refl s.inv, s.upD hx⟩
theorem es_to (n : Nat) : EvS X (fun _ H R => R (Itr 0 n) H) σ H (dRange 0 n) := fun Y H1 e R r => r _ H1 (.refl e.inv) sq_rng
/-- [e for x in range(drawn)], items drawn -/
theorem ev_drawnX {g : TG} {vs : List Nat} {pr : Int → Prop} (p : Nat → PyData → Prop) (hb : Ev X te σ H (vX fun d => ∃ r, d = .int r ∧ pr r)) (hp : ∀ r, pr r → 0 ≤ r ∧ r ≤ 40000)
    (step : ∀ (Y : Vol) (i : Nat) (d : PyData) (v : V) (H1 : Hp), Sub X H Y H1 → Dx (Y.wo H1) v d → Tgt g v (wipe σ vs) H1 fun σ2 H2 => H2 = H1 ∧ wipe σ2 vs = wipe σ vs ∧ Ev Y tel σ2 H1 (vX (p i))) :
    EvR X (tLc (iRng1 (tCons te tNil)) g tYes tel vs) σ H (fun d => ∃ es r, d = .list es ∧ pr r ∧ es.length = r.toNat ∧ ∀ i e, es[i]? = some e → p i e) := fun Y H1 e Q q => hb Y H1 e _ fun v H2 e2 hv => by
  obtain ⟨_, ⟨r, rfl, hr⟩, hv⟩ := hv
  cases hv
  obtain ⟨r0, r1⟩ := hp r hr
  refine ⟨r, rfl, by omega, by omega, ?_⟩
  exact ev_drawn (X := Y) (te := tel) (wi := fun _ H R => R (Itr 0 r.toNat) H) (ds := dRange 0 r.toNat) p (es_to _) (by rw [dRange_len]; omega) (fun Z i d v H3 _ s hv => step Z i d v H3 ((e.trans e2).trans s) hv) Y H2 (.refl e2.inv) Q fun l H3 es n e3 hl hR hd => q l H3 _ (free_of e2 n) (e2.trans e3) ⟨es, r, rfl, hr, by rw [hl, dRange_len], hR⟩ hd
/-- [x for x in drawn list if ..] -/
theorem er_fil {g : TG} {tt : TT} {vs : List Nat} (pb : PyData → Bool) (f : PyData → PyData) (h : EvR X tl σ H R) (hR : ∀ d, R d → ∃ ds, d = .list ds ∧ ds.length ≤ 40000)
    (step : ∀ (Y : Vol) (ds : List PyData) (i : Nat) (d : PyData) (v : V) (H1 : Hp), R (.list ds) → ds[i]? = some d → Sub X H Y H1 → Dx (Y.wo H1) v d → Tgt g v (wipe σ vs) H1 fun σ2 H2 => H2 = H1 ∧ wipe σ2 vs = wipe σ vs ∧ EvT Y tt σ2 H1 (pb d) ∧ (pb d = true → Ev Y tel σ2 H1 (vD (f d)))) :
    EvR X (tLc (iList K tl) g tt tel vs) σ H (fun d => ∃ ds, R (.list ds) ∧ d = .list ((ds.filter pb).map f)) := fun Y H1 e Q q => h Y H1 e _ fun l H2 d n e2 hd p2 => by
  obtain ⟨ds, rfl, hl⟩ := hR d hd
  have h2 : ∃ xs, SqL K H2 l xs := by
    cases p2 with
    | lst ea al => exact ⟨_, SqL.of (wo_le _ _ ea)⟩
  refine ⟨l, rfl, h2, ?_⟩
  exact en_fil (X := Y) (te := tel) (tt := tt) (wi := fun _ H R => R (Itl K l) H) pb f (es_at p2) hl (fun Z i d v H3 hdi s hv => step Z ds i d v H3 hd hdi ((e.trans e2).trans s) hv) Y H2 (.refl e2.inv) Q fun l' H3 n' e3 p3 => q l' H3 _ (free_of e2 n') (e2.trans e3) ⟨ds, hd, rfl⟩ p3
/-- for x in a drawn list -/
theorem q_forLX {g : TG} {tb : TS} (h : Ev X tl σ H (vX R)) (hR : ∀ d, R d → ∃ ds, d = .list ds) (i : X.I H) (k : ∀ H1 ds, Ext X H H1 → R (.list ds) → ∃ (Inv : Nat → L2.St → Hp → Prop), Inv 0 σ H1 ∧ (∀ i σ' H', Inv i σ' H' → Wk X H1 X H') ∧
      (∀ i d x σ' H' H'', Inv i σ' H' → Wk X H1 X H' → Ext X H' H'' → ds[i]? = some d → Dx (X.wo H'') x d → g x σ' H'' fun σ2 H3 => tb { D with nx := Inv (i + 1), ct := Inv (i + 1), bk := tz D } σ2 H3) ∧ ∀ σ' H', Inv ds.length σ' H' → Wk X H1 X H' → tz D σ' H') : tSeq (tFor (iList K tl) g tb) tz D σ H := h.go i fun v H1 e hv => by
  obtain ⟨d, hd, p⟩ := hv
  obtain ⟨ds, rfl⟩ := hR d hd
  cases p with
  | lst ea al =>
    rename_i a xs
    refine ⟨a, rfl, ⟨xs, SqL.of (wo_le _ _ ea)⟩, ?_⟩
    exact s_for (X := X) (D := { D with nx := tz D }) (wi := fun _ H R => R (Itl K a) H) (ds := ds) (es_at (.lst ea al)) e.inv fun H2 e2 => k H2 ds (e.trans e2) hd
end
/-! ### shapes of numbers -/
theorem lay_ints : ∀ g : List Int, PyData.canLayAll0 (g.map PyData.int) = true ∧ PyData.depthAll (g.map PyData.int) = 0
  | [] => ⟨by simp [PyData.canLayAll0], by simp [PyData.depthAll]⟩
  | v :: g => by
    have ih := lay_ints g
    rw [List.map_cons]
    refine ⟨?_, ?_⟩
    · rw [PyData.canLayAll0, ih.1]; simp [PyData.canLay0]
    · rw [PyData.depthAll, ih.2]; simp [PyData.depth]
theorem shaped_ints (g : List Int) : SeqAt.shaped (.list (g.map PyData.int)) = true := by
  have h := lay_ints g
  unfold SeqAt.shaped
  have h1 : (PyData.list (g.map PyData.int)).canLay0 = true := by rw [PyData.canLay0]; exact h.1
  have h2 : (PyData.list (g.map PyData.int)).depth ≤ 64 := by rw [PyData.depth, h.2]; decide
  rw [h1, decide_eq_true h2]
  rfl
theorem eqv_ints (g : List Int) : PyData.eqv (.list (g.map PyData.int)) (.list (g.map PyData.int)) = true := SeqAt.eqv_refl _ (by rw [PyData.canLay0]; exact (lay_ints g).1)
/-! ### reversed walks -/
def revS (p : List Stp) : List Stp := p.reverse.map fun s => (s.1, 0 - s.2)
theorem chain_rev {ps : List (Nat × Nat)} : ∀ {p : List Stp} {a b : Nat}, Chain ps a p b → Chain ps b (revS p) a
  | [], a, b, h => by
    have h' : a = b := h
    exact h'.symm
  | s :: p, a, b, ⟨h1, h2, h3, h4⟩ => by
    have ih := chain_rev h4
    unfold revS at *
    rw [List.reverse_cons, List.map_append]
    refine ih.app ⟨h1, ?_, ?_, ?_⟩
    · rcases h2 with h2 | h2
      · right; show 0 - s.2 = -1; omega
      · left; show 0 - s.2 = 1; omega
    · show sFrom ps (s.1, 0 - s.2) = sTo ps s
      unfold sFrom sTo
      rcases h2 with h2 | h2
      · rw [if_neg (show ¬ (0 - s.2) = 1 by omega), if_pos h2]
      · rw [if_pos (show (0 - s.2) = 1 by omega), if_neg (show ¬ s.2 = 1 by omega)]
    · show sTo ps (s.1, 0 - s.2) = a
      rw [← h3]
      unfold sFrom sTo
      rcases h2 with h2 | h2
      · rw [if_neg (show ¬ (0 - s.2) = 1 by omega), if_pos h2]
      · rw [if_pos (show (0 - s.2) = 1 by omega), if_neg (show ¬ s.2 = 1 by omega)]
/-- a sum of differences along a walk -/
theorem tele {ps : List (Nat × Nat)} (h : Nat → Int) : ∀ (p : List Stp) (a b : Nat), Chain ps a p b → (p.map fun s => s.2 * (h (Wm.at2 ps s.1).2 - h (Wm.at2 ps s.1).1)).sum = h b - h a
  | [], a, b, c => by
    have c' : a = b := c
    subst c'
    simp
  | s :: p, a, b, ⟨_, hy, hf, hc⟩ => by
    have ih := tele h p _ b hc
    rw [List.map_cons, List.sum_cons, ih, ← hf]
    unfold sTo sFrom
    rcases hy with hy | hy
    · rw [hy]; simp; omega
    · rw [hy]; simp; omega
theorem cg_sum {m : Int} {f g : Stp → Int} : ∀ (p : List Stp), (∀ s ∈ p, Cg m (f s) (g s)) → Cg m (p.map f).sum (p.map g).sum
  | [], _ => .refl m 0
  | s :: p, h => by
    rw [List.map_cons, List.map_cons, List.sum_cons, List.sum_cons]
    exact (h s (by simp)).add (cg_sum p fun s hs => h s (by simp [hs]))
end Ee

namespace Ee
open PySem L2
/-! ### len(set(t)), t a tuple of different numbers -/
def tLenSetT (K : PySem.W.Frag) (tt : TE) : TE := fun σ H Q => tt σ H fun y G => ∃ (t : Addr) (ks : List Int), y = .ref t ∧ SqT K G t (ks.map V.int) ∧ ks.Nodup ∧ ks.length ≤ 1000 ∧ Q (.int (ks.length : Int)) G
theorem size_of_keys {ks ls : List Int} (h1 : ks.Nodup) (h2 : ls.Nodup) (h : ∀ k, decide (k ∈ ks) = true ↔ k ∈ ls) : ls.length = ks.length := by
  refine ((List.perm_ext_iff_of_nodup h2 h1).mpr fun k => ?_).length_eq
  rw [← h k, decide_eq_true_eq]
section
open PySem.Spec PyProof.Rows
theorem pe_lenSetT {X : Cx} {a : Expr} {tt : TE} {pa pb pc pd : Pos} (g1 : Gl X "len") (n1 : X.mg "len" = none) (g2 : Gl X "set") (n2 : X.mg "set" = none) (hx : PE X a tt) (calm : X.calm = true := by rfl)
    (ns : starEach [a] X.env = (false, eval a X.env) :: starEach [] X.env := by rfl) : PE X (.Call (.Name "len" pa) [.Call (.Name "set" pb) [a] [] pc] [] pd) (tLenSetT X.K tt) := by
  refine ⟨fun pins s0 σ G Q I h => ?_⟩
  refine Call_ (ld_blt I g1 n1 boot_len ?_)
  refine PyProof.Rows.callWith_builtin1 (PyProof.Rows.args_cons ?_ (by rfl)) rfl (by rfl)
  refine Call_ (ld_blt I g2 n2 boot_set ?_)
  refine PyProof.Rows.callWith_type1 (PyProof.Rows.args_cons (thn (hx.run pins s0 σ G _ I h) fun u s2 ⟨y, G2, J, ry, hy⟩ => PyProof.Rows.args_nil ?_) ns) ns (by rfl)
  obtain ⟨t, ks, rfl, hq, nd, hl, q⟩ := hy
  cases ry
  obtain ⟨its, r, tp, _⟩ := J.tuple hq
  refine call_set_tupI ks (J.ok.hd calm) ?_ (by simpa using RZ.intsAre_vals r) (by unfold scanBound; omega) fun h2 tk c hR _ kp => PyProof.Rows.args_nil ?_
  · exact tp
  obtain ⟨o, es, ep, st, e1, e2, e3, _, dk, me, _, ft, ec, _⟩ := hR
  have el : es.size = ks.length := by
    have z := size_of_keys nd dk me
    rwa [List.length_map, Array.length_toList] at z
  have J2 : L2.Inv X pins σ G2 { s2 with heap := h2, toks := tk } := J.kept fun b ob z => kp b ob z
  exact call_len_set e1 e2 e3 ft (by rw [el]; omega) ⟨.int (ks.length : Int), G2, J2.tok _, ⟨_, by rw [el]⟩, q⟩
end
section
variable {X : Vol} {σ : L2.St} {H : Hp} {te : TE} {K : Fr} {ds : List PyData} {l : List Nat}
theorem ev_lenSetT (h : Ev X te σ H (vT (l.map dN))) (nd : l.Nodup) (hl : l.length ≤ 1000) : Ev X (tLenSetT K te) σ H (vI (l.length : Int)) := fun Y H1 e Q q => h Y H1 e _ fun v H2 e2 p2 => by
  have en : l.map dN = (l.map fun (k : Nat) => (k : Int)).map PyData.int := by rw [List.map_map]; rfl
  cases p2 with
  | tup ea al =>
    rw [en] at al
    have hv := DxAll.ints al
    subst hv
    refine ⟨_, l.map fun (k : Nat) => (k : Int), rfl, SqT.of (wo_le _ _ ea), ?_, by rw [List.length_map]; exact hl, ?_⟩
    · exact List.Pairwise.map _ (fun a b z c => z (Int.ofNat.inj c)) nd
    · rw [List.length_map]
      exact q _ H2 e2 (.int _)
/-- isinstance(t, (list, tuple)), t a tuple, a list -/
theorem ev_isLTT (h : Ev X te σ H (vT ds)) : Ev X (tCB (rIsiT K) (tCons te (tCons (tTup (tCons (tC (.ty "list")) (tCons (tC (.ty "tuple")) tNil))) tNil))) σ H (vB true) := fun Y H1 e Q q => h Y H1 e _ fun v H2 e2 p2 => by
  cases p2 with
  | tup ea al =>
    refine ⟨(by show 2 ≤ sizeLine; decide), fun tp htp => ?_⟩
    have x := Sub.new (X := Y) (o := .tup [.ty "list", .ty "tuple"]) e2.inv htp
    exact ⟨_, tp, _, _, _, true, rfl, upd_same, .cons (.ty _) (.cons (.ty _) .nil), .base (.tup (by rw [upd_ne (ne_of_none (wo_le _ _ ea) htp)]; exact wo_le _ _ ea)), kitAny_cons (b := false) (kit_ty (by decide +kernel)) (fun _ => kitAny_cons (b := true) (kit_ty (by decide +kernel)) (fun z => nomatch z) (fun _ => rfl)) (fun z => nomatch z), q _ _ (e2.trans x) (.bl true)⟩
theorem ev_isLTL (h : Ev X te σ H (vL ds)) : Ev X (tCB (rIsiT K) (tCons te (tCons (tTup (tCons (tC (.ty "list")) (tCons (tC (.ty "tuple")) tNil))) tNil))) σ H (vB true) := fun Y H1 e Q q => h Y H1 e _ fun v H2 e2 p2 => by
  cases p2 with
  | lst ea al =>
    refine ⟨(by show 2 ≤ sizeLine; decide), fun tp htp => ?_⟩
    have x := Sub.new (X := Y) (o := .tup [.ty "list", .ty "tuple"]) e2.inv htp
    exact ⟨_, tp, _, _, _, true, rfl, upd_same, .cons (.ty _) (.cons (.ty _) .nil), .base (.lst (by rw [upd_ne (ne_of_none (wo_le _ _ ea) htp)]; exact wo_le _ _ ea)), kitAny_cons (b := true) (kit_ty (by decide +kernel)) (fun z => nomatch z) (fun _ => rfl), q _ _ (e2.trans x) (.bl true)⟩
end
end Ee

/-! ## list(zip(xs, ys)), dict(list of pairs) -/
namespace Zl
open PySem PySem.Spec PyProof.Rows L2
open Sem (wp)
/-- a zip object over two lists at its turn i, the tuple that it gave out last still there -/
def At (S z TI TO p q l m : Addr) (us vs : Array Value) (i : Nat) (h : Heap) : Prop :=
  IsPair h TI (.ref p) (.ref q) ∧ h.IsListIter p l i ∧ h.IsListIter q m i ∧ h.IsList l us ∧ h.IsList m vs ∧
    ((IsZip h z TI TO .none ∧ ∃ a b, IsPair h TO a b) ∨ ∃ T f o, IsZipHeld h z TI TO T f ∧ h.get? T = some o ∧ T ≠ z ∧ T ≠ p ∧ T ≠ q ∧ T ≠ S)
structure Off (S z TI TO p q l m : Addr) : Prop where
  a1 : z ≠ S
  a2 : TI ≠ S
  a3 : TO ≠ S
  a4 : p ≠ S
  a5 : q ≠ S
  a6 : l ≠ S
  a7 : m ≠ S
theorem At.frame {S z TI TO p q l m : Addr} {us vs : Array Value} {i : Nat} {h h' : Heap} (O : Off S z TI TO p q l m) (st : At S z TI TO p q l m us vs i h) (k : ∀ b o, b ≠ S → h.get? b = some o → h'.get? b = some o) : At S z TI TO p q l m us vs i h' := by
  obtain ⟨c1, c2, c3, c4, c5, c6⟩ := st
  refine ⟨k _ _ O.a2 c1, c2.at fun o e => k _ o O.a4 e, c3.at fun o e => k _ o O.a5 e, c4.at fun o e => k _ o O.a6 e, c5.at fun o e => k _ o O.a7 e, ?_⟩
  rcases c6 with ⟨c6, a, b, c7⟩ | ⟨T, f, o, c6, c7, r1, r2, r3, r4⟩
  · exact .inl ⟨k _ _ O.a1 c6, a, b, k _ _ O.a3 c7⟩
  · exact .inr ⟨T, f, o, k _ _ O.a1 c6, k _ _ r4 c7, r1, r2, r3, r4⟩
section
variable {prog : Program} {w : World} {A : Around} {S z TI TO p q l m : Addr} {us vs : Array Value}
theorem At.next {i : Nat} {s : Shared} {Q : Option Value → Shared → Prop} {E : Value → Shared → Prop} (D : ZipApart z TI TO p q l m) (st : At S z TI TO p q l m us vs i s.heap) (hu : i < us.size) (hv : i < vs.size) (hS : S < s.heap.objs.size)
    (K : ∀ h', At S z TI TO p q l m us vs (i + 1) h' → IsPair h' s.heap.objs.size us[i] vs[i] → h'.objs.size = s.heap.objs.size + 1 → (∀ c o, c ≠ z → c ≠ TO → c ≠ p → c ≠ q → s.heap.get? c = some o → h'.get? c = some o) → Q (some (.ref s.heap.objs.size)) { s with heap := h' }) :
    wpAny (model prog w) A (pyNext (.ref z)) Q E s := by
  obtain ⟨c1, c2, c3, c4, c5, c6⟩ := st
  have new : ∀ {c : Addr} {o : Obj}, s.heap.get? c = some o → s.heap.objs.size ≠ c := fun e => Nat.ne_of_gt (Heap.lt_size e)
  have np : s.heap.objs.size ≠ p := let ⟨_, e, _⟩ := c2; new e
  have nq : s.heap.objs.size ≠ q := let ⟨_, e, _⟩ := c3; new e
  have eu := Array.getElem?_eq_getElem hu
  have ev := Array.getElem?_eq_getElem hv
  rcases c6 with ⟨c6, a, b, c7⟩ | ⟨T, f, o, c6, c7, r1, r2, r3, r4⟩
  · refine wpAny_pyNext_zip_item D c6 c1 c7 c2 c3 c4 c5 eu ev fun h' d1 d2 d3 d4 d5 d6 k => K h' ⟨k _ _ D.TIz D.TITO D.TIi1 D.TIi2 c1, d3, d4, c4.at fun o e => k _ o D.l1z D.l1TO D.l1i1 D.l1i2 e, c5.at fun o e => k _ o D.l2z D.l2TO D.l2i1 D.l2i2 e, ?_⟩ d5 d6 k
    exact .inr ⟨s.heap.objs.size, false, _, d1, d5, new c6, np, nq, Nat.ne_of_gt hS⟩
  · refine wpAny_pyNext_zip_item_held D c6 c7 c1 c2 c3 c4 c5 eu ev fun h' d1 d3 d4 d5 d6 k => K h' ⟨k _ _ D.TIz D.TIi1 D.TIi2 c1, d3, d4, c4.at fun o e => k _ o D.l1z D.l1i1 D.l1i2 e, c5.at fun o e => k _ o D.l2z D.l2i1 D.l2i2 e, ?_⟩ d5 d6 fun c o n1 _ n3 n4 e => k c o n1 n3 n4 e
    exact .inr ⟨T, true, o, d1, k _ _ r1 r2 r3 c7, r1, r2, r3, r4⟩
theorem At.stop {s : Shared} {Q : Option Value → Shared → Prop} {E : Value → Shared → Prop} (hh : A.handled = none) (D : ZipApart z TI TO p q l m) (st : At S z TI TO p q l m us vs (min us.size vs.size) s.heap)
    (K : ∀ h', (∀ c o, c ≠ z → c ≠ TO → c ≠ p → c ≠ q → s.heap.get? c = some o → h'.get? c = some o) → Q none { s with heap := h' }) : wpAny (model prog w) A (pyNext (.ref z)) Q E s := by
  obtain ⟨c1, c2, c3, c4, c5, c6⟩ := st
  have fin : us[min us.size vs.size]? = none ∨ vs[min us.size vs.size]? = none := by
    rcases Nat.le_total us.size vs.size with x | x
    · left; rw [Array.getElem?_eq_none]; omega
    · right; rw [Array.getElem?_eq_none]; omega
  rcases c6 with ⟨c6, a, b, c7⟩ | ⟨T, f, o, c6, c7, r1, r2, r3, r4⟩
  · exact wpAny_pyNext_zip_end hh D c6 c1 c7 c2 c3 c4 c5 fin fun h' k => K h' k
  · exact wpAny_pyNext_zip_end_held hh D c6 c7 c1 c2 c3 c4 c5 fin fun h' k => K h' fun c o n1 _ n3 n4 e => k c o n1 n3 n4 e
/-- the pairs that were made -/
structure Got (B : Nat) (us vs : Array Value) (ts : List Addr) (h : Heap) : Prop where
  nd : ts.Nodup
  at_ : ∀ (j : Nat) (t : Addr), ts[j]? = some t → B ≤ t ∧ ∃ x y, us[j]? = some x ∧ vs[j]? = some y ∧ IsPair h t x y
theorem Got.snoc {B : Nat} {ts : List Addr} {h h' : Heap} {x y : Value} (g : Got B us vs ts h) (hB : B ≤ h.objs.size) (hu : us[ts.length]? = some x) (hv : vs[ts.length]? = some y) (hp : IsPair h' h.objs.size x y) (k : ∀ c o, B ≤ c → h.get? c = some o → h'.get? c = some o) :
    Got B us vs (ts ++ [h.objs.size]) h' := by
  refine ⟨?_, fun j t e => ?_⟩
  · rw [List.nodup_append]
    refine ⟨g.nd, by simp, fun a ha b hb c => ?_⟩
    have e : b = h.objs.size := by simpa using hb
    obtain ⟨j, hj, rfl⟩ := List.getElem_of_mem ha
    obtain ⟨_, _, _, _, _, e3⟩ := g.at_ j _ (List.getElem?_eq_getElem hj)
    have l3 := Heap.lt_size e3
    rw [c, e] at l3
    exact Nat.lt_irrefl _ l3
  · by_cases hj : j < ts.length
    · rw [List.getElem?_append_left hj] at e
      obtain ⟨b1, a, b, e1, e2, e3⟩ := g.at_ j t e
      exact ⟨b1, a, b, e1, e2, k _ _ b1 e3⟩
    · have ej : j = ts.length := by
        have := (List.getElem?_eq_some_iff.mp e).1
        rw [List.length_append, List.length_singleton] at this
        omega
      subst ej
      rw [List.getElem?_append_right (Nat.le_refl _)] at e
      have et : h.objs.size = t := by simpa using e
      subst et
      exact ⟨hB, x, y, hu, hv, hp⟩
theorem Got.keep {B : Nat} {ts : List Addr} {h h' : Heap} (g : Got B us vs ts h) (k : ∀ c o, B ≤ c → h.get? c = some o → h'.get? c = some o) : Got B us vs ts h' :=
  ⟨g.nd, fun j t e => let ⟨b1, x, y, e1, e2, e3⟩ := g.at_ j t e; ⟨b1, x, y, e1, e2, k _ _ b1 e3⟩⟩
abbrev IsL (h : Heap) (S : Addr) (ts : List Addr) : Prop := ∃ c, h.get? S = some { cls := .type "list", dict := none, data := .seq (ts.map Value.ref).toArray c, slots := #[] }
/-- the loop that fills a new list -/
theorem fill {B : Nat} {R : Result → Shared → Prop} {res : Value} (hh : A.handled = none) (D : ZipApart z TI TO p q l m) (O : Off S z TI TO p q l m) (bz : z < B) (bT : TO < B) (bp : p < B) (bq : q < B) (bS : S < B) (hn : min us.size vs.size ≤ 40000) :
    ∀ (k : Nat) (s : Shared) (ts : List Addr), min us.size vs.size - ts.length = k → ts.length ≤ min us.size vs.size → B ≤ s.heap.objs.size → At S z TI TO p q l m us vs ts.length s.heap → Got B us vs ts s.heap → IsL s.heap S ts →
    (∀ h' ts', ts'.length = min us.size vs.size → Got B us vs ts' h' → IsL h' S ts' → (∀ c o, c ≠ S → c ≠ z → c ≠ TO → c ≠ p → c ≠ q → s.heap.get? c = some o → h'.get? c = some o) → R (.ok (.ret res)) { s with heap := h' }) →
    codeAny (model prog w) A (.builtin "list.extend.loop" ⟨[.ref S, .ref z, res], []⟩) R s
  | 0, s, ts, hk, hi, hB, st, g, ⟨c, hS⟩, K => by
    have e : ts.length = min us.size vs.size := by omega
    refine codeAny_builtin F.entry_extend_loop ?_; rw [Around.under_plainId F.plain_extend_loop _]
    show wpAny _ A.in1 (pyNext (.ref z) >>= _) _ _ s; refine wpAny_bind ((e ▸ st).stop (A := A.in1) hh D fun h' k => ?_)
    exact wpAny_pure (K h' ts e (g.keep fun c o b e => k c o (Nat.ne_of_gt (Nat.lt_of_lt_of_le bz b)) (Nat.ne_of_gt (Nat.lt_of_lt_of_le bT b)) (Nat.ne_of_gt (Nat.lt_of_lt_of_le bp b)) (Nat.ne_of_gt (Nat.lt_of_lt_of_le bq b)) e) ⟨c, k S _ (Ne.symm O.a1) (Ne.symm O.a3) (Ne.symm O.a4) (Ne.symm O.a5) hS⟩ fun c o _ n1 n2 n3 n4 e => k c o n1 n2 n3 n4 e)
  | k + 1, s, ts, hk, hi, hB, st, g, ⟨c, hS⟩, K => by
    have hlt : ts.length < min us.size vs.size := by omega
    have hu : ts.length < us.size := by omega
    have hv : ts.length < vs.size := by omega
    refine codeAny_builtin F.entry_extend_loop ?_; rw [Around.under_plainId F.plain_extend_loop _]
    show wpAny _ A.in1 (pyNext (.ref z) >>= _) _ _ s; refine wpAny_bind (st.next (A := A.in1) D hu hv (Nat.lt_of_lt_of_le bS hB) fun h' st' hp hz k' => ?_)
    have hS' := k' S _ (Ne.symm O.a1) (Ne.symm O.a3) (Ne.symm O.a4) (Ne.symm O.a5) hS
    have g' : Got B us vs (ts ++ [s.heap.objs.size]) h' := g.snoc hB (Array.getElem?_eq_getElem hu) (Array.getElem?_eq_getElem hv) hp fun c o b e => k' c o (Nat.ne_of_gt (Nat.lt_of_lt_of_le bz b)) (Nat.ne_of_gt (Nat.lt_of_lt_of_le bT b)) (Nat.ne_of_gt (Nat.lt_of_lt_of_le bp b)) (Nat.ne_of_gt (Nat.lt_of_lt_of_le bq b)) e
    have sb := Heap.SameBut.update h' S (Obj.mapSeq (·.push (Value.ref s.heap.objs.size)))
    have l1 : (ts ++ [s.heap.objs.size]).length = ts.length + 1 := by rw [List.length_append]; rfl
    have nt : (ts.map Value.ref).toArray.size = ts.length := by simp
    show wpAny _ A.in1 (updateSeq S (·.push (.ref s.heap.objs.size)) >>= _) _ _ _
    refine wpAny_bind (wpAny_updateSeq hS' rfl (wpAny_pure ⟨plainId_quiet F.plain_extend_loop _, fill hh D O bz bT bp bq bS hn k _ (ts ++ [s.heap.objs.size]) (by omega) (by omega) ?_ ?_ ?_ ?_ ?_⟩) ?_ ?_)
    · show B ≤ (h'.update S _).objs.size
      rw [sb.1]; omega
    · rw [l1]; exact st'.frame O fun b o n e => sb.extBut _ _ n e
    · exact g'.keep fun c o b e => sb.extBut _ _ (Nat.ne_of_gt (Nat.lt_of_lt_of_le bS b)) e
    · refine ⟨c + 1, (Heap.get?_update_self _ hS' rfl).trans ?_⟩
      simp [Obj.mapSeq]
    · intro h'' ts' e1 e2 e3 k''
      exact K h'' ts' e1 e2 e3 fun c o n0 n1 n2 n3 n4 e => k'' c o n0 n1 n2 n3 n4 (sb.extBut _ _ n0 (k' c o n1 n2 n3 n4 e))
    · rw [nt, sizeLine_eq]; omega
    · rw [Array.size_push, nt, sizeLine_eq]; omega
theorem zip_no_len : typeLookup (.type "zip") "__len__" = pure none := am_miss_of_fast (by decide +kernel)
theorem zip_no_hint : typeLookup (.type "zip") "__length_hint__" = pure none := am_miss_of_fast (by decide +kernel)
/-- list(z), z a new zip of two lists -/
theorem call_list_zip {E : Value → Shared → Prop} {Q : Value → Shared → Prop} {s : Shared} (hh : A.handled = none) (D : ZipApart z TI TO p q l m) (hn : min us.size vs.size ≤ 40000)
    (c1 : IsZip s.heap z TI TO .none) (c2 : IsPair s.heap TI (.ref p) (.ref q)) (c3 : ∃ a b, IsPair s.heap TO a b) (c4 : s.heap.IsListIter p l 0) (c5 : s.heap.IsListIter q m 0) (c6 : s.heap.IsList l us) (c7 : s.heap.IsList m vs)
    (K : ∀ h' ts, ts.length = min us.size vs.size → Got (s.heap.objs.size + 1) us vs ts h' → IsL h' s.heap.objs.size ts → (∀ c o, c ≠ z → c ≠ TO → c ≠ p → c ≠ q → s.heap.get? c = some o → h'.get? c = some o) → Q (.ref s.heap.objs.size) { s with heap := h' }) :
    wpAny (model prog w) A (call (.type "list") [.ref z]) Q E s := by
  refine callType_codes (Q₁ := fun v t => v = .ref s.heap.objs.size ∧ t = { s with heap := s.heap.push { cls := .type "list", data := .seq #[] } }) F.called_list (F.typeCall_list_1 _) F.entry_list_init (code_list_new _ ⟨rfl, rfl⟩) fun v t ⟨e1, e2⟩ => ?_
  subst e1 e2
  have up : ∀ c o, s.heap.get? c = some o → (s.heap.push { cls := .type "list", data := .seq #[] }).get? c = some o := fun c o e => Heap.get?_push_of_some _ e
  have hS : (s.heap.push { cls := .type "list", data := .seq #[] }).get? s.heap.objs.size = some { cls := .type "list", data := .seq #[] } := Heap.get?_push_size _ rfl
  have szP : (s.heap.push { cls := .type "list", data := .seq #[] }).objs.size = s.heap.objs.size + 1 := Heap.size_push ..
  have old : ∀ {c : Addr} {o : Obj}, s.heap.get? c = some o → c < s.heap.objs.size := fun e => Heap.lt_size e
  obtain ⟨a, b, c3⟩ := c3
  have o1 := old c1
  have o2 := old c2
  have o3 := old c3
  have o4 : p < s.heap.objs.size := let ⟨_, e, _⟩ := c4; old e
  have o5 : q < s.heap.objs.size := let ⟨_, e, _⟩ := c5; old e
  have o6 : l < s.heap.objs.size := let ⟨_, e, _⟩ := c6; old e
  have o7 : m < s.heap.objs.size := let ⟨_, e, _⟩ := c7; old e
  have O : Off s.heap.objs.size z TI TO p q l m := ⟨Nat.ne_of_lt o1, Nat.ne_of_lt o2, Nat.ne_of_lt o3, Nat.ne_of_lt o4, Nat.ne_of_lt o5, Nat.ne_of_lt o6, Nat.ne_of_lt o7⟩
  have st0 : At s.heap.objs.size z TI TO p q l m us vs 0 (s.heap.push { cls := .type "list", data := .seq #[] }) := ⟨up _ _ c2, c4.at fun o e => up _ o e, c5.at fun o e => up _ o e, c6.at fun o e => up _ o e, c7.at fun o e => up _ o e, .inl ⟨up _ _ c1, a, b, up _ _ c3⟩⟩
  refine ⟨⟨_, hS, rfl⟩, F.args_list_init_2 _ _, ?_⟩
  generalize hP : s.heap.push { cls := .type "list", data := .seq #[] } = hp at *
  show wpAny _ _ (do let old ← Builtin.List.listItems (.ref s.heap.objs.size); Builtin.List.listUpdate (.ref s.heap.objs.size) (fun _ => #[]); letGo old.toList.reverse; Builtin.List.listExtendWith (.ref s.heap.objs.size) (.ref z) .none) _ _ _
  unfold Builtin.List.listItems
  refine wpAny_bind (wpAny_bind (wpAny_seqItems hS rfl (wpAny_pure ?_)))
  show wpAny _ _ (updateSeq s.heap.objs.size (fun _ => #[]) >>= fun _ => letGo (#[] : Array Value).toList.reverse >>= fun _ => Builtin.List.listExtendWith (.ref s.heap.objs.size) (.ref z) .none) _ _ _
  refine wpAny_bind (wpAny_updateSeq hS rfl (wpAny_bind (wpAny_letGo ?_)))
  have s1 := Heap.SameBut.update hp s.heap.objs.size (Obj.mapSeq (fun _ => (#[] : Array Value)))
  have e1 := Heap.get?_update_self (Obj.mapSeq (fun _ => (#[] : Array Value))) hS rfl
  generalize hp.update s.heap.objs.size (Obj.mapSeq (fun _ => (#[] : Array Value))) = h1 at *
  have st1 := st0.frame O fun b o n e => s1.extBut _ _ n e
  have z1 : IsZip h1 z TI TO .none := s1.extBut _ _ O.a1 (by rw [← hP]; exact Heap.get?_push_of_some _ c1)
  unfold Builtin.List.listExtendWith
  refine wpAny_bind (wpAny_typeOf (T := "zip") ⟨_, z1, rfl⟩ ?_)
  have n1 : Builtin.List.listSameRef (.ref s.heap.objs.size) (.ref z) = false := by simp [Builtin.List.listSameRef, Ne.symm O.a1]
  have n2 : (Value.type "zip" == Value.type "list") = false := by decide
  have n3 : (Value.type "zip" == Value.type "tuple") = false := by decide
  simp only [n1, n2, n3, Bool.or_false, Bool.false_eq_true, if_false]
  refine wpAny_bind (wpAny_pyIter_zip z1 (wpAny_bind (wpAny_holding ?_)))
  unfold Builtin.List.listLengthHint
  refine wpAny_bind (wpAny_specialOf (T := "zip") ⟨_, z1, rfl⟩ zip_no_len ?_)
  show wpAny _ _ (specialOf (Value.ref z) (Str.ofString "__length_hint__") >>= _) _ _ _; refine wpAny_bind (wpAny_specialOf (T := "zip") ⟨_, z1, rfl⟩ zip_no_hint (wpAny_pure ?_))
  show wpAny _ _ (rule "list.extend.makes-room" >>= fun _ => Builtin.List.listTouch (.ref s.heap.objs.size) >>= fun _ => again (.builtin "list.extend.loop" ⟨[.ref s.heap.objs.size, .ref z, .none], []⟩)) _ _ _
  refine wpAny_bind (wpAny_rule (wpAny_bind ?_))
  show wpAny _ _ (updateSeq s.heap.objs.size (·.push .none) >>= fun _ => updateSeq s.heap.objs.size (·.pop)) _ _ _
  refine wpAny_bind (wpAny_updateSeq e1 rfl ?_)
  have s2 := Heap.SameBut.update h1 s.heap.objs.size (Obj.mapSeq (·.push Value.none))
  have e2 := Heap.get?_update_self (Obj.mapSeq (·.push Value.none)) e1 rfl
  generalize h1.update s.heap.objs.size (Obj.mapSeq (·.push Value.none)) = h2 at *
  refine wpAny_updateSeq (hz := by seq_fits) e2 rfl ?_
  have s3 := Heap.SameBut.update h2 s.heap.objs.size (Obj.mapSeq (·.pop))
  have e3 := Heap.get?_update_self (Obj.mapSeq (·.pop)) e2 rfl
  generalize h2.update s.heap.objs.size (Obj.mapSeq (·.pop)) = h3 at *
  have st3 := (st1.frame O fun b o n e => s2.extBut _ _ n e).frame O fun b o n e => s3.extBut _ _ n e
  refine wpAny_pure ⟨plainId_quiet F.plain_extend_loop _, fill (prog := prog) (w := w) (A := A.in1) (res := .none) (B := s.heap.objs.size + 1) hh D O (Nat.lt_succ_of_lt o1) (Nat.lt_succ_of_lt o3) (Nat.lt_succ_of_lt o4) (Nat.lt_succ_of_lt o5) (Nat.lt_succ_self _) hn _ _ [] rfl (Nat.zero_le _) ?_ st3 ⟨List.nodup_nil, fun j t e => (nomatch e)⟩ (show IsL h3 s.heap.objs.size [] from ⟨_, e3⟩) fun h' ts x1 x2 x3 x4 => ⟨rfl, ?_⟩⟩
  · show s.heap.objs.size + 1 ≤ h3.objs.size
    rw [s3.1, s2.1, s1.1, szP]
    exact Nat.le_refl _
  · refine K h' ts x1 x2 x3 fun c o n1 n2 n3 n4 e => x4 c o (Nat.ne_of_lt (old e)) n1 n2 n3 n4 ?_
    have nc := Nat.ne_of_lt (old e)
    exact s3.extBut _ _ nc (s2.extBut _ _ nc (s1.extBut _ _ nc (by rw [← hP]; exact Heap.get?_push_of_some _ e)))
end
end Zl
namespace L2
open PySem PySem.Spec PyProof.Rows
/-- what is below n as H says, what is above as G says -/
def jn (n : Nat) (H G : Hp) : Hp := fun b => if b < n then H b else G b
theorem jn_lo {n : Nat} {H G : Hp} {b : Addr} (h : b < n) : jn n H G b = H b := if_pos h
theorem jn_hi {n : Nat} {H G : Hp} {b : Addr} (h : n ≤ b) : jn n H G b = G b := if_neg (Nat.not_lt.mpr h)
theorem Inv.more {X : Cx} {pins : List (Addr × Obj)} {σ : St} {H G : Hp} {s : Shared} {h' : Heap} {t' : Nat} (I : Inv X pins σ H s) (k : ∀ b u, s.heap.get? b = some u → h'.get? b = some u)
    (new : ∀ b o, G b = some o → s.heap.objs.size ≤ b → ObjOk X.prog X.w (jn s.heap.objs.size H G) h' b o) : Inv X pins σ (jn s.heap.objs.size H G) { s with heap := h', toks := t' } := by
  have up : ∀ c o, H c = some o → jn s.heap.objs.size H G c = some o := fun c o e => by rw [jn_lo (I.hok.lt e)]; exact e
  refine I.un ⟨fun b u q _ _ _ => k b u q, fun b u q _ _ _ => ⟨u.slots, k b u q⟩, fun b u q n _ => ?_, fun b u q _ => ⟨u, k b u q⟩, fun b xs q => up b _ q, fun b u xs q => up b _ q, fun b ps q => ⟨#[], ?_⟩⟩ fun b u e => ?_
  · rw [jn_lo (Heap.lt_size q)]; exact n
  · rw [up b _ q]; simp
  · by_cases hb : b < s.heap.objs.size
    · rw [jn_lo hb] at e
      exact (I.hok b u e).stay (fun c v _ q => k c v q) (fun c q => up c _ q) fun c xs q => up c _ q
    · have hb' : s.heap.objs.size ≤ b := Nat.not_lt.mp hb
      rw [jn_hi hb'] at e
      exact new b u e hb'
open Classical in
noncomputable def zG (p : Addr) (ts : List Addr) (xs ys : List V) : Hp := fun b =>
  if b = p then some (.lst (ts.map V.ref)) else if h : ∃ j, ts[j]? = some b then some (.tup [xs.getD h.choose .non, ys.getD h.choose .non]) else none
theorem zG_at {p : Addr} {ts : List Addr} {xs ys : List V} {j : Nat} {t : Addr} (nd : ts.Nodup) (hp : p ∉ ts) (h : ts[j]? = some t) : zG p ts xs ys t = some (.tup [xs.getD j .non, ys.getD j .non]) := by
  have ht : t ≠ p := fun z => hp (z ▸ List.mem_of_getElem? h)
  have hx : ∃ j, ts[j]? = some t := ⟨j, h⟩
  unfold zG
  rw [if_neg ht, dif_pos hx]
  have e : hx.choose = j := (List.getElem?_inj (List.getElem?_eq_some_iff.mp hx.choose_spec).1 nd).mp (hx.choose_spec.trans h.symm)
  rw [e]
/-- list(zip(xs, ys)) -/
def tLstZip (K : PySem.W.Frag) (ta : TA) : TE := fun σ H Q => ta σ H fun vs H1 => ∃ a b xs ys, vs = [.ref a, .ref b] ∧ SqL K H1 a xs ∧ SqL K H1 b ys ∧ min xs.length ys.length ≤ 40000 ∧
  ∀ (H2 : Hp) (p : Addr) (ts : List Addr), Same H1 H2 → H1 p = none → H2 p = some (.lst (ts.map V.ref)) → ts.length = min xs.length ys.length → (∀ (j : Nat) (t : Addr), ts[j]? = some t → H1 t = none ∧ ∃ x y, xs[j]? = some x ∧ ys[j]? = some y ∧ H2 t = some (.tup [x, y])) → Q (.ref p) H2
theorem pe_lstZip {X : Cx} {e e2 : Expr} {ta : TA} {pl pz cz cl : Pos} (gl : Gl X "list") (ml : X.mg "list" = none) (gz : Gl X "zip") (mz : X.mg "zip" = none) (ha : PA X [e, e2] ta) (calm : X.calm = true := by rfl)
    (hs : starEach [e, e2] X.env = (false, eval e X.env) :: starEach [e2] X.env := by rfl) (hp : (backTo cz (starEach [e2] X.env)).any (·.1) = false := by rfl)
    (ns : starEach [.Call (.Name "zip" pz) [e, e2] [] cz] X.env = (false, eval (.Call (.Name "zip" pz) [e, e2] [] cz) X.env) :: starEach [] X.env := by rfl) :
    PE X (.Call (.Name "list" pl) [.Call (.Name "zip" pz) [e, e2] [] cz] [] cl) (tLstZip X.K ta) := by
  refine ⟨fun pins s σ H Q I h => ?_⟩
  refine Call_ (ld_blt I gl ml boot_list (PyProof.Rows.callWith_type1 (PyProof.Rows.args_cons ?_ ns) ns))
  refine Call_ (ld_blt I gz mz PyProof.Rows.boot_zip (PyProof.Rows.callWith_type1 (thn (ha.run cz pins s σ H _ I h) fun us s1 ⟨vs, H1, I1, r1, q1⟩ => ?_) hs hp))
  obtain ⟨a, b, xs, ys, rfl, hx, hy, hn, q⟩ := q1
  cases r1 with
  | cons ra rr =>
    cases rr with
    | cons rb rr =>
      cases rr
      cases ra
      cases rb
      obtain ⟨is, ri, pi, _⟩ := I1.list hx
      obtain ⟨js, rj, pj, _⟩ := I1.list hy
      have li := ri.length
      have lj := rj.length
      refine call_zip_2 pi.isList pj.isList fun h' c1 c2 c3 c4 c5 c6 k => PyProof.Rows.args_nil ?_
      refine Zl.call_list_zip (us := is.toArray) (vs := js.toArray) (I1.ok.hd calm) (PySem.W.ktu_apart s1.heap.objs.size a b pi.lt pj.lt) (by simp only [List.size_toArray]; omega) c1 c2 ⟨_, _, c3⟩ c4 c5 (pi.isList.at fun o e => k _ o e) (pj.isList.at fun o e => k _ o e) fun h'' ts d1 d2 d3 k2 => ?_
      have kk : ∀ c o, s1.heap.get? c = some o → h''.get? c = some o := fun c o e => by
        have lt := Heap.lt_size e
        exact k2 c o (Nat.ne_of_lt (Nat.lt_add_right 4 lt)) (Nat.ne_of_lt (Nat.lt_add_right 3 lt)) (Nat.ne_of_lt lt) (Nat.ne_of_lt (Nat.lt_add_right 1 lt)) (k c o e)
      have hge : ∀ t ∈ ts, s1.heap.objs.size ≤ t := fun t ht => by
        obtain ⟨j, hj, rfl⟩ := List.getElem_of_mem ht
        have := (d2.at_ j _ (List.getElem?_eq_getElem hj)).1
        have c6' : h'.objs.size = s1.heap.objs.size + 5 := c6
        show s1.heap.objs.size ≤ ts[j]
        have : h'.objs.size + 1 ≤ ts[j] := this
        omega
      have hpn : h'.objs.size ∉ ts := fun ht => by
        obtain ⟨j, hj, e⟩ := List.getElem_of_mem ht
        have : h'.objs.size + 1 ≤ ts[j] := (d2.at_ j _ (List.getElem?_eq_getElem hj)).1
        omega
      have hps : s1.heap.objs.size ≤ h'.objs.size := by
        have c6' : h'.objs.size = s1.heap.objs.size + 5 := c6
        omega
      have lts : ts.length = min xs.length ys.length := by
        rw [d1]; simp only [List.size_toArray]; rw [li, lj]
      have ats : ∀ (j : Nat) (t : Addr), ts[j]? = some t → ∃ x y u v, xs[j]? = some x ∧ ys[j]? = some y ∧ RelV x u ∧ RelV y v ∧ IsPair h'' t u v := fun j t e => by
        obtain ⟨_, u, v, e1, e2, e3⟩ := d2.at_ j t e
        have hj : j < ts.length := (List.getElem?_eq_some_iff.mp e).1
        obtain ⟨x, hx'⟩ : ∃ x, xs[j]? = some x := ⟨_, List.getElem?_eq_getElem (by omega)⟩
        obtain ⟨y, hy'⟩ : ∃ y, ys[j]? = some y := ⟨_, List.getElem?_eq_getElem (by omega)⟩
        obtain ⟨u', hu', ru⟩ := ri.get hx'
        obtain ⟨v', hv', rv⟩ := rj.get hy'
        have eu : u' = u := by
          have e1' : is[j]? = some u := by simpa using e1
          rw [hu'] at e1'; exact Option.some.inj e1'
        have ev : v' = v := by
          have e2' : js[j]? = some v := by simpa using e2
          rw [hv'] at e2'; exact Option.some.inj e2'
        exact ⟨x, y, u, v, hx', hy', eu ▸ ru, ev ▸ rv, e3⟩
      have fr : ∀ t, s1.heap.objs.size ≤ t → H1 t = none := fun t ht => I1.hok.fresh ht
      have I2 : Inv X pins σ (jn s1.heap.objs.size H1 (zG h'.objs.size ts xs ys)) { s1 with heap := h'' } := I1.more (t' := s1.toks) kk fun t o e ht => by
        by_cases ep : t = h'.objs.size
        · subst ep
          unfold zG at e
          rw [if_pos rfl] at e
          cases e
          obtain ⟨c, d3⟩ := d3
          refine ⟨by rw [List.length_map, lts, sizeLine_eq]; omega, ts.map Value.ref, c, ?_, d3⟩
          clear d1 d2 d3 hge hpn lts ats
          induction ts with
          | nil => exact .nil
          | cons t ts ih => exact .cons rfl ih
        · have hm : ∃ j : Nat, ts[j]? = some t := by
            unfold zG at e
            rw [if_neg ep] at e
            by_cases hm : ∃ j : Nat, ts[j]? = some t
            · exact hm
            · rw [dif_neg hm] at e; cases e
          obtain ⟨j, hj⟩ := hm
          rw [zG_at d2.nd hpn hj] at e
          cases e
          obtain ⟨x, y, u, v, hx', hy', ru, rv, hp⟩ := ats j t hj
          rw [List.getD_eq_getElem?_getD, List.getD_eq_getElem?_getD, hx', hy']
          exact ⟨by show 2 ≤ sizeLine; decide, [u, v], .cons ru (.cons rv .nil), ⟨_, hp, rfl, _, rfl⟩⟩
      refine ⟨.ref h'.objs.size, _, I2, rfl, q _ _ ts (fun c o e => ?_) (fr _ hps) ?_ lts fun (j : Nat) (t : Addr) (e : ts[j]? = some t) => ⟨fr _ (hge t (List.mem_of_getElem? e)), ?_⟩⟩
      · rw [jn_lo (I1.hok.lt e)]; exact e
      · rw [jn_hi hps]; unfold zG; rw [if_pos rfl]
      · obtain ⟨x, y, u, v, hx', hy', _⟩ := ats j t e
        refine ⟨x, y, hx', hy', ?_⟩
        rw [jn_hi (hge t (List.mem_of_getElem? e)), zG_at d2.nd hpn e, List.getD_eq_getElem?_getD, List.getD_eq_getElem?_getD, hx', hy']
        rfl
end L2

namespace Ee
open PySem L2
/-! ### dicts from numbers to data -/
abbrev Mp := List (Int × PyData)
abbrev KvM (H : Hp) : List (Key × V) → Mp → Prop := Paired fun a b => a.1 = Sum.inl b.1 ∧ Dx H a.2 b.2
def getM (ms : Mp) (i : Int) : Option PyData := (ms.find? fun p => decide (p.1 = i)).map (·.2)
theorem KvM.same {H H' : Hp} (s : Same H H') : ∀ {kv : List (Key × V)} {ms : Mp}, KvM H kv ms → KvM H' kv ms
  | _, _, .nil => .nil
  | _, _, .cons a t => .cons ⟨a.1, Dx.same s _ _ a.2⟩ (KvM.same s t)
def vM (ms : Mp) : VP := ⟨fun H v => ∃ d kv, v = .ref d ∧ H d = some (.dK kv) ∧ KvM H kv ms, fun s ⟨d, kv, e, h, r⟩ => ⟨d, kv, e, s _ _ h, r.same s⟩⟩
theorem KvM.val {H : Hp} (i : Int) : ∀ {kv : List (Key × V)} {ms : Mp}, KvM H kv ms → (match getM ms i with | some d => ∃ v, valV kv (Sum.inl i) = some v ∧ Dx H v d | none => valV kv (Sum.inl i) = none)
  | _, _, .nil => rfl
  | _, _, .cons (a := a) (b := b) (l₁ := kv) (l₂ := ms) h t => by
    have ih := KvM.val i t
    by_cases e : b.1 = i
    · have e1 : getM (b :: ms) i = some b.2 := by unfold getM; rw [List.find?_cons, decide_eq_true e]; rfl
      rw [e1]
      exact ⟨a.2, valV_pos (by rw [h.1, e]), h.2⟩
    · have e1 : getM (b :: ms) i = getM ms i := by unfold getM; rw [List.find?_cons, decide_eq_false e]
      rw [e1]
      have e2 : valV (a :: kv) (Sum.inl i) = valV kv (Sum.inl i) := valV_neg (by rw [h.1]; exact fun z => e (Sum.inl.inj z))
      rw [e2]
      exact ih
theorem KvM.len {H : Hp} {kv : List (Key × V)} {ms : Mp} (h : KvM H kv ms) : kv.length = ms.length := Paired.length h
theorem isSomeM {H : Hp} {kv : List (Key × V)} {ms : Mp} {i : Int} (h : KvM H kv ms) : (valV kv (Sum.inl i)).isSome = (getM ms i).isSome := by
  have hv := h.val i
  revert hv
  cases getM ms i with
  | none => intro h; rw [show valV kv (Sum.inl i) = none from h]; rfl
  | some p => rintro ⟨x, h, _⟩; rw [h]; rfl
theorem mem_getM {ms : Mp} (nd : (ms.map (·.1)).Nodup) {i : Int} {d : PyData} (h : (i, d) ∈ ms) : getM ms i = some d := by
  induction ms with
  | nil => cases h
  | cons p ms ih =>
    rw [List.map_cons, List.nodup_cons] at nd
    unfold getM at *
    rw [List.find?_cons]
    rcases List.mem_cons.mp h with rfl | h
    · simp
    · have ne : ¬ p.1 = i := fun z => nd.1 (by rw [z]; exact List.mem_map.mpr ⟨_, h, rfl⟩)
      rw [decide_eq_false ne]
      exact ih nd.2 h
theorem none_getM {ms : Mp} {i : Int} (h : i ∉ ms.map (·.1)) : getM ms i = none := by
  unfold getM
  rw [Option.map_eq_none_iff, List.find?_eq_none]
  intro p hp
  simp only [decide_eq_true_eq]
  exact fun z => h (List.mem_map.mpr ⟨p, hp, z⟩)
theorem mergeK_new : ∀ (more acc : List (Key × V)), ((acc ++ more).map (·.1)).Nodup → mergeK acc more = acc ++ more
  | [], acc, _ => by rw [List.append_nil]; rfl
  | p :: more, acc, h => by
    have h1 : putK acc p.1 p.2 = acc ++ [p] := by
      unfold putK
      rw [if_neg]
      simp only [List.any_eq_true, decide_eq_true_eq, not_exists, not_and]
      intro q hq e
      rw [List.map_append, List.nodup_append] at h
      exact h.2.2 q.1 (List.mem_map.mpr ⟨q, hq, rfl⟩) p.1 (by simp) e
    show mergeK (putK acc p.1 p.2) more = _
    rw [h1, mergeK_new more (acc ++ [p]) (by rw [List.append_assoc]; exact h), List.append_assoc]
    rfl
def dPr (p : Int × PyData) : PyData := .tuple [.int p.1, p.2]
section
variable {X Y : Vol} {σ : L2.St} {H H' H0 H1 : Hp} {ta tb tc te tl ti td ty : TE} {t u : TT} {P P' : VP} {K : Fr} {i j k : Int} {d e : PyData} {ds es : List PyData} {l p : Addr} {D : Ends} {tz tw : TS} {ms : Mp}
theorem ev_varM {n : Nat} {v : V} (h : σ[n]? = some (some v)) (p : (vM ms).at_ (X.wo H) v) : Ev X (tVar n) σ H (vM ms) := ev_var h p
theorem ev_inM (h : Ev X ty σ H (vI i)) (hd : Ev X td σ H (vM ms)) : Ev X (tDIn ty td) σ H (vB (getM ms i).isSome) := fun Y H1 e Q q => h Y H1 e _ fun x H2 e2 p2 => hd Y H2 (e.trans e2) _ fun y H3 e3 ⟨a, kv, hy, ha, hr⟩ => by
  cases p2
  refine ⟨a, _, hy, DGet.k (k := Sum.inl i) (wo_le _ _ ha), ?_⟩
  rw [isSomeM hr]
  exact q _ H3 (e2.trans e3) (.bl _)
theorem ev_niM (h : Ev X ty σ H (vI i)) (hd : Ev X td σ H (vM ms)) : Ev X (tDNotIn ty td) σ H (vB (!(getM ms i).isSome)) := fun Y H1 e Q q => h Y H1 e _ fun x H2 e2 p2 => hd Y H2 (e.trans e2) _ fun y H3 e3 ⟨a, kv, hy, ha, hr⟩ => by
  cases p2
  refine ⟨a, _, hy, DGet.k (k := Sum.inl i) (wo_le _ _ ha), ?_⟩
  rw [isSomeM hr]
  exact q _ H3 (e2.trans e3) (.bl _)
theorem ev_atM (hd : Ev X td σ H (vM ms)) (h : Ev X ty σ H (vI i)) (hp : getM ms i = some d) : Ev X (tDGet td ty) σ H (vD d) := fun Y H1 e Q q => hd Y H1 e _ fun y H2 e2 ⟨a, kv, hy, ha, hr⟩ => h Y H2 (e.trans e2) _ fun x H3 e3 p3 => by
  cases p3
  have hv := hr.val i
  rw [hp] at hv
  obtain ⟨x, hx, hd⟩ := hv
  exact ⟨a, x, hy, (by rw [← hx]; exact DGet.k (k := Sum.inl i) (wo_le _ _ (e3.wo _ _ ha))), q _ H3 (e2.trans e3) (e3.upD hd)⟩
/-- pairs in a heap -/
theorem pairs_dx {G : Hp} (s : Same G H) : ∀ {vs : List V} {ms : Mp}, DxAll G vs (ms.map dPr) → ∃ (ps : List Addr) (kv : List (Key × V)), vs = ps.map V.ref ∧ Paired (fun p kv => SqT K H p [kV kv.1, kv.2]) ps kv ∧ KvM G kv ms
  | _, [], h => by cases h; exact ⟨[], [], rfl, .nil, .nil⟩
  | _, m :: ms, h => by
    cases h with
    | cons a t =>
      obtain ⟨ps, kv, rfl, h1, h2⟩ := pairs_dx s t
      cases a with
      | tup ea al =>
        rename_i p xs
        cases al with
        | cons a t =>
          cases t with
          | cons b t =>
            cases t
            cases a
            exact ⟨p :: ps, (Sum.inl m.1, _) :: kv, rfl, .cons (SqT.of (s _ _ ea)) h1, .cons ⟨rfl, b⟩ h2⟩
theorem keys_nd {G : Hp} {kv : List (Key × V)} {ms : Mp} (h : KvM G kv ms) (nd : (ms.map (·.1)).Nodup) : (kv.map (·.1)).Nodup := by
  have e : kv.map (·.1) = (ms.map (·.1)).map Sum.inl := by
    clear nd
    induction h with
    | nil => rfl
    | cons a _ ih => rw [List.map_cons, List.map_cons, List.map_cons, a.1, ih]
  rw [e]
  exact List.Pairwise.map _ (fun a b z c => z (Sum.inl.inj c)) nd
theorem ev_dictP (h : Ev X te σ H (vL (ms.map dPr))) (nd : (ms.map (·.1)).Nodup) : Ev X (tCB (fun xs H Q => ∃ (a : Addr) (ps : List Addr) (kvs : List (Key × V)), xs = [.ref a] ∧ SqL K H a (ps.map V.ref) ∧ Paired (fun p kv => SqT K H p [kV kv.1, kv.2]) ps kvs ∧ ∀ p, H p = none → Q (.ref p) (upd H p (.dK (mergeK [] kvs)))) (tCons te tNil)) σ H (vM ms) := fun Y H1 e Q q => h Y H1 e _ fun v H2 e2 p2 => by
  cases p2 with
  | lst ea al =>
    obtain ⟨ps, kv, rfl, h1, h2⟩ := pairs_dx (K := K) wo_le al
    refine ⟨_, ps, kv, rfl, SqL.of (wo_le _ _ ea), h1, fun p hp => ?_⟩
    have x := Sub.new (X := Y) (o := .dK (mergeK [] kv)) e2.inv hp
    refine q _ _ (e2.trans x) ⟨p, kv, rfl, ?_, h2.same x.wo⟩
    rw [wo_new e2.inv hp, mergeK_new kv [] (keys_nd h2 nd)]
    rfl
theorem dxall_get : ∀ {vs : List V} {ds : List PyData}, vs.length = ds.length → (∀ (j : Nat) (v : V) (d : PyData), vs[j]? = some v → ds[j]? = some d → Dx H v d) → DxAll H vs ds
  | [], [], _, _ => .nil
  | [], _ :: _, h, _ => by cases h
  | _ :: _, [], h, _ => by cases h
  | v :: vs, d :: ds, h, k => .cons (k 0 v d rfl rfl) (dxall_get (Nat.succ.inj h) fun j a b p q => k (j + 1) a b p q)
theorem en_lstZip (ha : Ev X ta σ H (vL ds)) (hb : Ev X tb σ H (vL es)) (hl : min ds.length es.length ≤ 40000) : EvN X (tLstZip K (tCons ta (tCons tb tNil))) σ H (.list (dZip ds es)) := fun Y H1 e Q q => ha Y H1 e _ fun v H2 e2 p2 => hb Y H2 (e.trans e2) _ fun w H3 e3 p3 => by
  cases e3.upP p2 with
  | lst ea al =>
    cases p3 with
    | lst eb bl =>
      rename_i a xs b ys
      refine ⟨a, b, xs, ys, rfl, SqL.of (wo_le _ _ ea), SqL.of (wo_le _ _ eb), by rw [al.len, bl.len]; exact hl, fun H4 p ts s hp h4 hlt hts => ?_⟩
      have x : Ext Y H3 H4 := .same s e3.inv
      refine q p H4 (free_of e2 (free_of e3 hp)) ((e2.trans e3).trans x) (.lst (by rw [wo_out (fresh_out e3.inv hp)]; exact h4) (dxall_get (by rw [List.length_map, hlt, dZip_len, al.len, bl.len]) fun j v d hv hd => ?_))
      rw [List.getElem?_map] at hv
      obtain ⟨t, ht, rfl⟩ := Option.map_eq_some_iff.mp hv
      obtain ⟨fr, y1, y2, hy1, hy2, h5⟩ := hts j t ht
      obtain ⟨d1, hd1, g1⟩ := al.getv hy1
      obtain ⟨d2, hd2, g2⟩ := bl.getv hy2
      rw [dZip_get hd1 hd2] at hd
      cases hd
      exact .tup (by rw [wo_out (fresh_out e3.inv fr)]; exact h5) (.cons (x.upD g1) (.cons (x.upD g2) .nil))
end
end Ee

namespace Ee
open PySem L2
section
variable {X Y : Vol} {σ : L2.St} {H H' H0 H1 : Hp} {ta tb tc te tl ti td ty : TE} {t u : TT} {P P' : VP} {K : Fr} {i j k : Int} {b : Bool} {d e : PyData} {ds es : List PyData} {l p : Addr} {D : Ends} {tz tw : TS} {R : PyData → Prop}
/-- int(test) -/
theorem ev_intB (h : Ev X te σ H (vB b)) : Ev X (tCB (fun xs H Q => (∃ i, xs = [V.int i] ∧ Q (.int i) H) ∨ ∃ k, xs = [V.bl k] ∧ Q (.int (if k then 1 else 0)) H) (tCons te tNil)) σ H (vI (if b then 1 else 0)) := fun Y H1 e Q q => h Y H1 e _ fun v H2 e2 p2 => by
  cases p2
  exact .inr ⟨b, rfl, q _ H2 e2 (.int _)⟩
/-- l.append(e), e drawn -/
theorem s_appX {n : Nat} (m : Mak X H0 l H ds) (hs : σ[n]? = some (some (.ref l))) (h : Ev (X.add l) te σ H (vX R)) (hz : ds.length < 40000) (k : ∀ d H1, R d → Mak X H0 l H1 (ds ++ [d]) → Wk (X.add l) H (X.add l) H1 → D.nx σ H1) :
    tDrop (tBM K "list" rAppend (tVar n) (tCons te tNil)) D σ H := by
  obtain ⟨acc, h1, h2⟩ := m.ex
  refine ⟨_, hs, .inl ⟨rfl, _, SqL.of h1⟩, h.go m.inv fun v H1 e ⟨d, r, p⟩ => ?_⟩
  obtain ⟨acc', h1', h2'⟩ := (m.ext e).ex
  refine ⟨l, acc', v, rfl, rfl, h1', ?_, ?_⟩
  · rw [h2'.len]
    exact Nat.lt_of_lt_of_le hz (by decide)
  · exact k d _ r ((m.ext e).put (h2'.app (.cons p .nil))) (e.wk.trans ((m.ext e).wkput))
theorem q_appX {n : Nat} (m : Mak X H0 l H ds) (hs : σ[n]? = some (some (.ref l))) (h : Ev (X.add l) te σ H (vX R)) (hz : ds.length < 40000) (k : ∀ d H1, R d → Mak X H0 l H1 (ds ++ [d]) → Wk (X.add l) H (X.add l) H1 → tz D σ H1) :
    tSeq (tDrop (tBM K "list" rAppend (tVar n) (tCons te tNil))) tz D σ H := s_appX (D := { D with nx := tz D }) m hs h hz k
/-- i, l = e, [] -/
theorem q_parL {m n : Nat} (h : Ev X ta σ H (vI i)) (iv : X.I H) (k : ∀ l H1, Mak X H l H1 [] → tz D ((σ.set m (some (.int i))).set n (some (.ref l))) H1) : tSeq (tAsg (tTup (tCons ta (tCons (tLst tNil) tNil))) (gTup K 2 (gCons (gName m) (gCons (gName n) gNil)))) tz D σ H := h.go iv fun v H1 e p => by
  cases p
  refine ⟨Nat.zero_le _, fun l hl => ⟨by show 2 ≤ sizeLine; decide, fun t ht => ?_⟩⟩
  have m1 := Mak.start (X := X) e.inv hl
  have m2 := m1.ext (.new (o := .tup [.int i, .ref l]) m1.inv ht)
  exact ⟨_, _, rfl, SqT.of upd_same, rfl, _, _, rfl, _, _, rfl, rfl, k l _ (m2.back e iv)⟩
/-- i, j = e, f -/
theorem q_par2X {m n : Nat} {tr : TA} {R1 R2 : PyData → Prop} (h : EvAx X tr σ H [R1, R2]) (iv : X.I H) (k : ∀ v1 v2 d1 d2 H1, Ext X H H1 → R1 d1 → R2 d2 → Dx (X.wo H1) v1 d1 → Dx (X.wo H1) v2 d2 → tz D ((σ.set m (some v1)).set n (some v2)) H1) : tSeq (tPar m n tr) tz D σ H := h X H (.refl iv) _ fun vs ds H1 e r p => by
  match ds, r with
  | [a, b], .cons ra (.cons rb .nil) =>
    cases p with
    | cons pa t =>
      cases t with
      | cons pb t =>
        cases t
        exact ⟨_, _, rfl, k _ _ _ _ H1 e ra rb pa pb⟩
theorem q_par2 {m n : Nat} {tr : TA} (h : EvA X tr σ H [P, P']) (iv : X.I H) (k : ∀ v1 v2 H1, Ext X H H1 → P.at_ (X.wo H1) v1 → P'.at_ (X.wo H1) v2 → tz D ((σ.set m (some v1)).set n (some v2)) H1) : tSeq (tPar m n tr) tz D σ H := h X H (.refl iv) _ fun vs H1 e p => by
  match vs, p with
  | [a, b], .cons pa (.cons pb .nil) => exact ⟨_, _, rfl, k _ _ H1 e pa pb⟩
/-- x or y, x a list -/
theorem ev_orL (h : Ev X ta σ H (vL ds)) (hb : ds = [] → Ev X tb σ H (vL es)) : Ev X (tOrT K ta tb) σ H (vL (if ds = [] then es else ds)) := fun Y H1 e Q q => h Y H1 e _ fun v H2 e2 p2 => by
  by_cases h0 : ds = []
  · rw [if_pos h0] at q
    have p3 := p2
    cases p2 with
    | lst ea al =>
      refine ⟨false, ?_, by rw [if_neg Bool.false_ne_true]; exact hb h0 Y H2 (e.trans e2) Q fun v H3 e3 p => q v H3 (e2.trans e3) p⟩
      subst h0
      cases al
      first
        | exact ⟨_, SqL.of (wo_le _ _ ea), rfl⟩
        | exact .inl ⟨_, SqL.of (wo_le _ _ ea), rfl⟩
        | exact ⟨_, .inl (SqL.of (wo_le _ _ ea)), rfl⟩
  · rw [if_neg h0] at q
    have p3 := p2
    cases p2 with
    | lst ea al =>
      refine ⟨true, ?_, by rw [if_pos rfl]; exact q _ H2 e2 p3⟩
      cases al with
      | nil => exact absurd rfl h0
      | cons a t =>
        first
          | exact ⟨_, SqL.of (wo_le _ _ ea), rfl⟩
          | exact .inl ⟨_, SqL.of (wo_le _ _ ea), rfl⟩
          | exact ⟨_, .inl (SqL.of (wo_le _ _ ea)), rfl⟩
end
end Ee

/-! ## a list or tuple, also one that the program's top holds -/
namespace L2
open PySem PySem.Spec PyProof.Rows
def iSq (K : PySem.W.Frag) (tl : TE) : TI := fun σ H R => tl σ H fun x H1 => ∃ a, x = .ref a ∧ (((∃ xs, SqL K H1 a xs) ∧ R (Itl K a) H1) ∨ ((∃ xs, SqT K H1 a xs) ∧ R (Itt K a) H1))
theorem pi_sq {X : Cx} {tg l : Expr} {tl : TE} (hl : PE X l tl) : PI X tg l (iSq X.K tl) := by
  refine ⟨fun pins s σ H R I h => thn (hl.run pins s σ H _ I h) fun v s1 ⟨x, H1, I1, r1, a, e, q1⟩ => ?_⟩
  subst e
  cases r1
  rcases q1 with ⟨⟨xs, hq⟩, q⟩ | ⟨⟨xs, hq⟩, q⟩
  · obtain ⟨its, rv, p, hz⟩ := I1.list hq
    refine wpAny_pyIter_list p.isList ⟨s1.heap.objs.size, [s1.heap.objs.size], _, _, H1, rfl, I1.kept (t' := s1.toks) (fun b o e => Heap.get?_push_of_some _ e), turn_list a _, ⟨_, Heap.get?_push_size _ rfl, rfl, rfl⟩, fun b hb => ?_, q⟩
    rw [show b = s1.heap.objs.size by simpa using hb]; exact I1.fpOk (Nat.le_refl _) (I1.hok.fresh (Nat.le_refl _))
  · obtain ⟨its, rv, p, hz⟩ := I1.tuple hq
    refine wpAny_pyIter_tuple (show s1.heap.IsTuple a its.toArray from p) ⟨s1.heap.objs.size, [s1.heap.objs.size], _, _, H1, rfl, I1.kept (t' := s1.toks) (fun b o e => Heap.get?_push_of_some _ e), turn_tuple a _, ⟨_, Heap.get?_push_size _ rfl, rfl, rfl⟩, fun b hb => ?_, q⟩
    rw [show b = s1.heap.objs.size by simpa using hb]; exact I1.fpOk (Nat.le_refl _) (I1.hok.fresh (Nat.le_refl _))
end L2
namespace Ee
open PySem L2
def tLenSetS (K : PySem.W.Frag) (tt : TE) : TE := fun σ H Q => tt σ H fun y G => ∃ (t : Addr) (ks : List Int), y = .ref t ∧ (SqL K G t (ks.map V.int) ∨ SqT K G t (ks.map V.int)) ∧ ks.Nodup ∧ ks.length ≤ 1000 ∧ Q (.int (ks.length : Int)) G
section
open PySem.Spec PyProof.Rows
theorem pe_lenSetS {X : Cx} {a : Expr} {tt : TE} {pa pb pc pd : Pos} (g1 : Gl X "len") (n1 : X.mg "len" = none) (g2 : Gl X "set") (n2 : X.mg "set" = none) (hx : PE X a tt) (calm : X.calm = true := by rfl)
    (ns : starEach [a] X.env = (false, eval a X.env) :: starEach [] X.env := by rfl) : PE X (.Call (.Name "len" pa) [.Call (.Name "set" pb) [a] [] pc] [] pd) (tLenSetS X.K tt) := by
  refine ⟨fun pins s0 σ G Q I h => Call_ (ld_blt I g1 n1 boot_len (PyProof.Rows.callWith_builtin1 (PyProof.Rows.args_cons ?_ (by rfl)) rfl (by rfl)))⟩
  refine Call_ (ld_blt I g2 n2 boot_set (PyProof.Rows.callWith_type1 (PyProof.Rows.args_cons (thn (hx.run pins s0 σ G _ I h) fun u s2 ⟨y, G2, J, ry, hy⟩ => PyProof.Rows.args_nil ?_) ns) ns (by rfl)))
  obtain ⟨t, ks, rfl, hq, nd, hl, q⟩ := hy
  cases ry
  rcases hq with hq | hq
  · obtain ⟨its, r, tp, _⟩ := J.list hq
    have z1 : its.toArray.size = ks.length := by rw [List.size_toArray, ← r.length, List.length_map]
    refine call_set_list (J.ok.hd calm) tp.isList (by simpa using RZ.intsAre_vals r) (by rw [z1]; unfold scanBound; omega) fun h2 tk hS kp => PyProof.Rows.args_nil ?_
    rw [z1, RZ.firstMet_nodup nd ks.length (Nat.le_refl _), List.take_length] at hS
    obtain ⟨o, es, ep, st, e1, e2, e3, _, _, _, ft, ec⟩ := hS
    have J2 : L2.Inv X pins σ G2 { s2 with heap := h2, toks := tk } := J.kept fun b ob z => kp b ob (Heap.lt_size z) z
    exact call_len_set e1 e2 e3 ft (by rw [ec] <;> omega) ⟨.int (ks.length : Int), G2, J2.tok _, ⟨_, by rw [ec]⟩, q⟩
  · obtain ⟨its, r, tp, _⟩ := J.tuple hq
    refine call_set_tupI ks (J.ok.hd calm) tp (by simpa using RZ.intsAre_vals r) (by unfold scanBound; omega) fun h2 tk c hR _ kp => PyProof.Rows.args_nil ?_
    obtain ⟨o, es, ep, st, e1, e2, e3, _, dk, me, _, ft, ec, _⟩ := hR
    have el : es.size = ks.length := by
      have z := size_of_keys nd dk me
      rwa [List.length_map, Array.length_toList] at z
    have J2 : L2.Inv X pins σ G2 { s2 with heap := h2, toks := tk } := J.kept fun b ob z => kp b ob z
    exact call_len_set e1 e2 e3 ft (by rw [el]; omega) ⟨.int (ks.length : Int), G2, J2.tok _, ⟨_, by rw [el]⟩, q⟩
end
/-- an empty tuple of the program's top -/
def KT (K : Fr) (a : Addr) : Prop := ∃ (o : Obj) (n : Nat), K.lookup a = some o ∧ o.cls = .type "tuple" ∧ o.data = .seq #[] n
theorem KT.sq {K : Fr} {a : Addr} (h : KT K a) {H : Hp} : SqT K H a [] := by
  obtain ⟨o, n, h1, h2, h3⟩ := h
  exact .inr ⟨o, #[], n, h1, h2, h3, Nat.zero_le _, .nil⟩
def vSq (K : Fr) (ds : List PyData) : VP := ⟨fun H v => ∃ a xs, v = .ref a ∧ (H a = some (.lst xs) ∨ H a = some (.tup xs) ∨ (xs = [] ∧ KT K a)) ∧ DxAll H xs ds,
  fun s ⟨a, xs, e, h, al⟩ => ⟨a, xs, e, h.elim (fun h => .inl (s _ _ h)) fun h => .inr (h.elim (fun h => .inl (s _ _ h)) .inr), DxAll.same s _ _ al⟩⟩
theorem sq_or {K : Fr} {H : Hp} {a : Addr} {xs : List V} (h : H a = some (.lst xs) ∨ H a = some (.tup xs) ∨ (xs = [] ∧ KT K a)) {H' : Hp} (s : Same H H') : SqL K H' a xs ∨ SqT K H' a xs := by
  rcases h with h | h | ⟨rfl, h⟩
  · exact .inl (SqL.of (s _ _ h))
  · exact .inr (SqT.of (s _ _ h))
  · exact .inr h.sq
section
variable {X Y : Vol} {σ : L2.St} {H H' H0 H1 : Hp} {ta tb tc te tl ti td ty : TE} {t u : TT} {P P' : VP} {K : Fr} {i j k : Int} {b : Bool} {d e : PyData} {ds es : List PyData} {l p : Addr} {D : Ends} {tz tw : TS}
theorem ev_varS {n : Nat} {v : V} (h : σ[n]? = some (some v)) (p : (vSq K ds).at_ (X.wo H) v) : Ev X (tVar n) σ H (vSq K ds) := ev_var h p
theorem sqT_of {G : Hp} {v : V} (h : Dx G v (.tuple ds)) : (vSq K ds).at_ G v := by
  cases h with
  | tup ea al => exact ⟨_, _, rfl, .inr (.inl ea), al⟩
theorem sqL_of {G : Hp} {v : V} (h : Dx G v (.list ds)) : (vSq K ds).at_ G v := by
  cases h with
  | lst ea al => exact ⟨_, _, rfl, .inl ea, al⟩
theorem sqK_of {G : Hp} {a : Addr} (h : KT K a) : (vSq K []).at_ G (.ref a) := ⟨a, [], rfl, .inr (.inr ⟨rfl, h⟩), .nil⟩
theorem Ev.sqT (h : Ev X te σ H (vT ds)) : Ev X te σ H (vSq K ds) := h.weak fun _ _ p => sqT_of p
theorem Ev.sqL (h : Ev X te σ H (vL ds)) : Ev X te σ H (vSq K ds) := h.weak fun _ _ p => sqL_of p
theorem ev_lenS (h : Ev X te σ H (vSq K ds)) : Ev X (tCB (fun xs H Q => ∃ p ys, xs = [V.ref p] ∧ (SqL K H p ys ∨ SqT K H p ys) ∧ Q (.int ys.length) H) (tCons te tNil)) σ H (vI ds.length) := ev_cb (ea_cons h ea_nil) fun Y vs H1 e p Q q => by
  cases p with
  | cons a t =>
    cases t
    obtain ⟨a, xs, rfl, h1, al⟩ := a
    exact ⟨a, xs, rfl, sq_or h1 wo_le, by rw [al.len]; exact q _ H1 (.refl e.inv) (.int _)⟩
theorem ev_inS {l : List Int} (ha : Ev X ta σ H (vI i)) (hb : Ev X tb σ H (vSq K (l.map PyData.int))) : Ev X (tOp (rIn K false) ta tb) σ H (vB (decide (i ∈ l))) := ev_op2 ha hb fun Y x y H1 e px py Q q => by
  cases px
  obtain ⟨a, xs, rfl, h1, al⟩ := py
  have hv := al.ints
  subst hv
  refine ⟨_, _, rfl, sq_or h1 wo_le, rfl, flat_ints l, ?_⟩
  rw [if_neg Bool.false_ne_true, inV_ints]
  exact q _ H1 (.refl e.inv) (.bl _)
theorem es_sq (h : Ev X tl σ H (vSq K ds)) : EvS X (iSq K tl) σ H ds := fun Y H1 e R r => h Y H1 e _ fun v H2 e2 ⟨a, xs, hv, h1, al⟩ => by
  have low : ∀ {Z : Vol} {H' : Hp}, Wk Y H2 Z H' → (Y.wo H2 a = some (.lst xs) → SqL K H' a xs) ∧ (Y.wo H2 a = some (.tup xs) ∨ (xs = [] ∧ KT K a) → SqT K H' a xs) := fun s => ⟨fun h => SqL.of (wo_le _ _ (s.wo _ _ h)), fun h => h.elim (fun h => SqT.of (wo_le _ _ (s.wo _ _ h))) fun ⟨e, g⟩ => by subst e; exact g.sq⟩
  have e2' := e2
  rcases h1 with h1 | h1
  · have at_ : ∀ Z H, Wk Y H2 Z H → SqL K H a xs := fun Z H s => (low s).1 h1
    refine ⟨a, hv, .inl ⟨⟨xs, at_ Y H2 (.refl e2.inv)⟩, r _ H2 e2 ⟨fun Z H i s hi => ?_, fun Z H s => ⟨xs, at_ Z H s, Nat.le_of_eq al.len⟩, fun Z H i x H' s hi y => ?_⟩⟩⟩
    · exact ⟨xs, xs[i]'(by rw [al.len]; exact hi), at_ Z H s, List.getElem?_eq_getElem _⟩
    · obtain ⟨rfl, y⟩ := y
      obtain ⟨d, hd, hx⟩ := al.getv (y xs (at_ Z _ s))
      exact ⟨d, hd, .refl s.inv, s.upD hx⟩
  · have at_ : ∀ Z H, Wk Y H2 Z H → SqT K H a xs := fun Z H s => (low s).2 h1
    refine ⟨a, hv, .inr ⟨⟨xs, at_ Y H2 (.refl e2.inv)⟩, r _ H2 e2 ⟨fun Z H i s hi => ?_, fun Z H s => ⟨xs, at_ Z H s, Nat.le_of_eq al.len⟩, fun Z H i x H' s hi y => ?_⟩⟩⟩
    · exact ⟨xs, xs[i]'(by rw [al.len]; exact hi), at_ Z H s, List.getElem?_eq_getElem _⟩
    · obtain ⟨rfl, y⟩ := y
      obtain ⟨d, hd, hx⟩ := al.getv (y xs (at_ Z _ s))
      exact ⟨d, hd, .refl s.inv, s.upD hx⟩
theorem ev_lenSetS {l : List Nat} (h : Ev X te σ H (vSq K (l.map dN))) (nd : l.Nodup) (hl : l.length ≤ 1000) : Ev X (tLenSetS K te) σ H (vI (l.length : Int)) := fun Y H1 e Q q => h Y H1 e _ fun v H2 e2 ⟨a, xs, hv, h1, al⟩ => by
  have en : l.map dN = (l.map fun (k : Nat) => (k : Int)).map PyData.int := by rw [List.map_map]; rfl
  rw [en] at al
  have hx := DxAll.ints al
  subst hx
  refine ⟨a, l.map fun (k : Nat) => (k : Int), hv, sq_or h1 wo_le, List.Pairwise.map _ (fun a b z c => z (Int.ofNat.inj c)) nd, by rw [List.length_map]; exact hl, ?_⟩
  rw [List.length_map]
  exact q _ H2 e2 (.int _)
theorem ev_isLTS (h : Ev X te σ H (vSq K ds)) : Ev X (tCB (rIsiT K) (tCons te (tCons (tTup (tCons (tC (.ty "list")) (tCons (tC (.ty "tuple")) tNil))) tNil))) σ H (vB true) := fun Y H1 e Q q => h Y H1 e _ fun v H2 e2 ⟨a, xs, hv, h1, al⟩ => by
  subst hv
  refine ⟨(by show 2 ≤ sizeLine; decide), fun tp htp => ?_⟩
  have x := Sub.new (X := Y) (o := .tup [.ty "list", .ty "tuple"]) e2.inv htp
  rcases h1 with h1 | h1 | ⟨_, h1⟩
  · exact ⟨_, tp, _, _, _, true, rfl, upd_same, .cons (.ty _) (.cons (.ty _) .nil), .base (.lst (by rw [upd_ne (ne_of_none (wo_le _ _ h1) htp)]; exact wo_le _ _ h1)), kitAny_cons (b := true) (kit_ty (by decide +kernel)) (fun z => nomatch z) (fun _ => rfl), q _ _ (e2.trans x) (.bl true)⟩
  · exact ⟨_, tp, _, _, _, true, rfl, upd_same, .cons (.ty _) (.cons (.ty _) .nil), .base (.tup (by rw [upd_ne (ne_of_none (wo_le _ _ h1) htp)]; exact wo_le _ _ h1)), kitAny_cons (b := false) (kit_ty (by decide +kernel)) (fun _ => kitAny_cons (b := true) (kit_ty (by decide +kernel)) (fun z => nomatch z) (fun _ => rfl)) (fun z => nomatch z), q _ _ (e2.trans x) (.bl true)⟩
  · obtain ⟨o, n, g1, g2, _⟩ := h1
    exact ⟨_, tp, _, _, _, true, rfl, upd_same, .cons (.ty _) (.cons (.ty _) .nil), .kTuple g1 g2, kitAny_cons (b := false) (kit_ty (by decide +kernel)) (fun _ => kitAny_cons (b := true) (kit_ty (by decide +kernel)) (fun z => nomatch z) (fun _ => rfl)) (fun z => nomatch z), q _ _ (e2.trans x) (.bl true)⟩
/-- a call whose last argument is a default -/
theorem ev_callD {α : Type} {pre : α → Prop} {Ps : α → List VP} {P : α → VP} {E : XK} {tr : TA} {Pr : List VP} {P0 : VP} {v0 : V} (a : α) (h : EvA X tr σ H Pr) (hp : pre a) (hq : Ps a = Pr ++ [P0]) (h0 : ∀ G, P0.at_ G v0) : Ev X (tCall (spF pre Ps P) [v0] E tr) σ H (P a) := fun Y H1 e Q q => h Y H1 e _ fun vs H2 e2 p2 => by
  show spF pre Ps P (vs ++ [v0]) H2 Q E
  have al : ∀ {As : List VP} {us : List V}, AllP (Y.wo H2) As us → AllP (Y.wo H2) (As ++ [P0]) (us ++ [v0]) := by
    intro As us h
    induction h with
    | nil => exact .cons (h0 _) .nil
    | cons a _ ih => exact .cons a ih
  exact ⟨a, Y.S, hp, e2.inv.live, by rw [hq]; exact al p2, fun v H' s r => q v H' (e2.trans (.same s e2.inv)) r⟩
end
end Ee

/-! ## dict(enumerate(xs)), walks over d.items() -/
namespace L2
open PySem PySem.Spec PyProof.Rows
def enK : Nat → List V → List (Key × V)
  | _, [] => []
  | i, x :: xs => (Sum.inl (i : Int), x) :: enK (i + 1) xs
def enP : Nat → List Value → List (Key × Value)
  | _, [] => []
  | i, x :: xs => (Sum.inl (i : Int), x) :: enP (i + 1) xs
theorem enK_kv : ∀ {xs : List V} {us : List Value} (i : Nat), Vals xs us → KV (enK i xs) (enP i us)
  | _, _, _, .nil => .nil
  | _, _, i, .cons a t => .cons ⟨rfl, a⟩ (enK_kv (i + 1) t)
theorem enP_len : ∀ (us : List Value) (i : Nat), (enP i us).length = us.length
  | [], _ => rfl
  | _ :: us, i => congrArg Nat.succ (enP_len us (i + 1))
theorem enP_get : ∀ {us : List Value} {i j : Nat} {u : Value}, us[j]? = some u → (enP i us)[j]? = some (Sum.inl ((i + j : Nat) : Int), u)
  | [], _, _, _, h => by simp at h
  | v :: us, i, 0, u, h => by
    have e : v = u := Option.some.inj h
    rw [e]; rfl
  | v :: us, i, j + 1, u, h => by
    have ih := enP_get (us := us) (i := i + 1) (j := j) h
    show (enP (i + 1) us)[j]? = _
    rw [ih]
    congr 3
    omega
/-- dict(enumerate(xs)) -/
def tDictEnum (K : PySem.W.Frag) (te : TE) : TE := fun σ H Q => te σ H fun x H1 => ∃ a xs, x = .ref a ∧ SqL K H1 a xs ∧ ∀ p, H1 p = none → Q (.ref p) (upd H1 p (.dK (mergeK [] (enK 0 xs))))
theorem pe_dictEnum {X : Cx} {e : Expr} {te : TE} {pd pn cn cd : Pos} (gd : Gl X "dict") (md : X.mg "dict" = none) (gn : Gl X "enumerate") (mn : X.mg "enumerate" = none) (he : PE X e te) (calm : X.calm = true := by rfl)
    (n1 : starEach [e] X.env = (false, eval e X.env) :: starEach [] X.env := by rfl) (n2 : starEach [.Call (.Name "enumerate" pn) [e] [] cn] X.env = (false, eval (.Call (.Name "enumerate" pn) [e] [] cn) X.env) :: starEach [] X.env := by rfl) :
    PE X (.Call (.Name "dict" pd) [.Call (.Name "enumerate" pn) [e] [] cn] [] cd) (tDictEnum X.K te) := by
  refine ⟨fun pins s σ H Q I h => Call_ (ld_blt I gd md (show bootBuiltins "dict" = some (.type "dict") by decide +kernel) (PyProof.Rows.callWith_type1 (PyProof.Rows.args_cons ?_ n2) n2))⟩
  refine Call_ (ld_blt I gn mn boot_enumerate (PyProof.Rows.callWith_type1 (PyProof.Rows.args_cons (thn (he.run pins s σ H _ I h) fun u s1 ⟨x, H1, I1, r1, a, xs, ex, hx, q⟩ => PyProof.Rows.args_nil ?_) n1) n1))
  subst ex
  cases r1
  obtain ⟨us, rv, pl, hz⟩ := I1.list hx
  have hl := rv.length
  refine call_enumerate_list pl.isList fun h' c1 c2 c3 k => PyProof.Rows.args_nil ?_
  have la : a < s1.heap.objs.size := pl.lt
  refine PySem.call_dict_pairs (knd := mixKind X.prog X.w) (kvs := enP 0 us) (PairArg.enumerate (s1.heap.objs.size + 1) s1.heap.objs.size a (Nat.succ_ne_self _) (Nat.ne_of_lt (Nat.lt_succ_of_lt la)) (Nat.ne_of_lt la) us.toArray) (I1.ok.hd calm) ⟨⟨_, c1⟩, c2, pl.isList.at fun o e => k _ o e⟩ ⟨by rw [enP_len]; simp, fun i key v ⟨⟨t, hk⟩, hv⟩ => ⟨Sum.inl (i : Int), ?_, ?_⟩⟩ (by rw [List.size_toArray, ← hl]; exact hz) fun h'' tk hd kp => ?_
  · have hv' : us[i]? = some v := by simpa using hv
    have := enP_get (i := 0) hv'
    rw [Nat.zero_add] at this
    exact this
  · rw [hk]; exact mixKind_int _ _ _ _
  · have kk : ∀ b o, s1.heap.get? b = some o → h''.get? b = some o := fun b o e => by
      have lt := Heap.lt_size e
      refine kp b o (fun hm => ?_) (k b o e)
      rcases List.mem_cons.mp hm with hm | hm
      · exact Nat.ne_of_lt (Nat.lt_succ_of_lt lt) hm
      · exact Nat.ne_of_lt lt (List.mem_singleton.mp hm)
    have c3' : h'.objs.size = s1.heap.objs.size + 2 := c3
    have hge : s1.heap.objs.size ≤ h'.objs.size := by rw [c3']; exact Nat.le_add_right _ _
    have hm : (h'.objs.size == sysModules) = false := beq_eq_false_iff_ne.mpr (Nat.ne_of_gt (Nat.lt_of_lt_of_le I1.big hge))
    have kv := KV.merge (enK_kv 0 rv) (kvs := []) (vs := []) .nil
    have hlen : (mergeK [] (enK 0 xs)).length ≤ sizeLine := by
      refine Nat.le_trans (length_mergeK _ _) ?_
      rw [List.length_nil, Nat.zero_add, (enK_kv 0 rv).length, enP_len, ← hl]
      exact hz
    exact ⟨.ref h'.objs.size, upd H1 h'.objs.size (.dK (mergeK [] (enK 0 xs))), I1.laid (t' := tk) kk hge (show ObjOk X.prog X.w _ _ _ (.dK (mergeK [] (enK 0 xs))) from ⟨hlen, hm, merged [] (enP 0 us), kv, hd⟩), rfl, q _ (I1.hok.fresh hge)⟩
end L2
namespace Ee
open PySem L2
def enM : Nat → List PyData → Mp
  | _, [] => []
  | i, d :: ds => ((i : Int), d) :: enM (i + 1) ds
theorem enM_kv {H : Hp} : ∀ {xs : List V} {ds : List PyData} (i : Nat), DxAll H xs ds → KvM H (enK i xs) (enM i ds)
  | _, _, _, .nil => .nil
  | _, _, i, .cons a t => .cons ⟨rfl, a⟩ (enM_kv (i + 1) t)
theorem enM_keys : ∀ (ds : List PyData) (i : Nat), (enM i ds).map (·.1) = (List.range' i ds.length).map fun k : Nat => (k : Int)
  | [], _ => rfl
  | d :: ds, i => by
    show (i : Int) :: _ = _
    rw [enM_keys ds (i + 1), List.length_cons, List.range'_succ]
    rfl
theorem enM_nd (ds : List PyData) (i : Nat) : ((enM i ds).map (·.1)).Nodup := by
  rw [enM_keys]
  exact List.Pairwise.map _ (fun a b z c => z (Int.ofNat.inj c)) (List.nodup_range' (s := i))
theorem enM_get : ∀ {ds : List PyData} {i j : Nat} {d : PyData}, ds[j]? = some d → (enM i ds)[j]? = some (((i + j : Nat) : Int), d)
  | [], _, _, _, h => by simp at h
  | v :: us, i, 0, u, h => by
    have e : v = u := Option.some.inj h
    rw [e]; rfl
  | v :: us, i, j + 1, u, h => by
    have ih := enM_get (ds := us) (i := i + 1) (j := j) h
    show (enM (i + 1) us)[j]? = _
    rw [ih]
    congr 3
    omega
theorem enM_len : ∀ (ds : List PyData) (i : Nat), (enM i ds).length = ds.length
  | [], _ => rfl
  | _ :: us, i => congrArg Nat.succ (enM_len us (i + 1))
/-! ### heaps that agree on all but dicts -/
def pl : HO → Prop
  | .lst _ => True
  | .tup _ => True
  | .ins _ _ _ => True
  | _ => False
structure Ag (H H' : Hp) : Prop where
  k : ∀ b o, H b = some o → pl o → H' b = some o
  d : ∀ b, Rd H b (.dK []) → Rd H' b (.dK [])
theorem Ag.of {H H' : Hp} (s : Same H H') : Ag H H' := ⟨fun b o h _ => s b o h, fun _ h => rd_same s h⟩
theorem Ag.trans {H H1 H2 : Hp} (a : Ag H H1) (b : Ag H1 H2) : Ag H H2 := ⟨fun c o h n => b.k c o (a.k c o h n) n, fun c h => b.d c (a.d c h)⟩
mutual
theorem Dx.ag {H H' : Hp} (s : Ag H H') : ∀ (d : PyData) (v : V), Dx H v d → Dx H' v d
  | .none, _, h => by cases h; exact .non
  | .bool b, _, h => by cases h; exact .bl b
  | .int i, _, h => by cases h; exact .int i
  | .str x, _, h => by cases h; exact .str x
  | .list ds, _, h => by
    cases h with
    | lst e a => exact .lst (s.k _ _ e True.intro) (DxAll.ag s ds _ a)
  | .tuple ds, _, h => by
    cases h with
    | tup e a => exact .tup (s.k _ _ e True.intro) (DxAll.ag s ds _ a)
  | .dict _, _, h => by
    cases h with
    | dic e => exact .dic (s.d _ e)
theorem DxAll.ag {H H' : Hp} (s : Ag H H') : ∀ (ds : List PyData) (vs : List V), DxAll H vs ds → DxAll H' vs ds
  | [], _, h => by cases h; exact .nil
  | d :: ds, _, h => by
    cases h with
    | cons a b => exact .cons (Dx.ag s d _ a) (DxAll.ag s ds _ b)
end
theorem KvM.ag {H H' : Hp} (s : Ag H H') : ∀ {kv : List (Key × V)} {ms : Mp}, KvM H kv ms → KvM H' kv ms
  | _, _, .nil => .nil
  | _, _, .cons a t => .cons ⟨a.1, Dx.ag s _ _ a.2⟩ (KvM.ag s t)
theorem vW_ag {C : Addr} {w : WD} {H H' : Hp} {v : V} (s : Ag H H') (h : (vW C w).at_ H v) : (vW C w).at_ H' v := by
  obtain ⟨ok, p, dx, le, lf, lfn, lt, e, h1, h2, h3, h4, h5⟩ := h
  exact ⟨ok, p, dx, le, lf, lfn, lt, e, s.k _ _ h1 True.intro, Dx.ag s _ _ h2, Dx.ag s _ _ h3, Dx.ag s _ _ h4, Dx.ag s _ _ h5⟩
section
variable {X Y : Vol} {σ : L2.St} {H H' H0 H1 : Hp} {ta tb tc te tl ti td ty : TE} {t u : TT} {P P' : VP} {K : Fr} {i j k : Int} {b : Bool} {d e : PyData} {ds es : List PyData} {l p : Addr} {tz tw : TS} {ms : Mp}
theorem ev_dictEnum (h : Ev X te σ H (vL ds)) : Ev X (tDictEnum K te) σ H (vM (enM 0 ds)) := fun Y H1 e Q q => h Y H1 e _ fun v H2 e2 p2 => by
  cases p2 with
  | lst ea al =>
    rename_i a xs
    refine ⟨_, _, rfl, SqL.of (wo_le _ _ ea), fun p hp => ?_⟩
    have h2 := enM_kv 0 al
    have x := Sub.new (X := Y) (o := .dK (mergeK [] (enK 0 xs))) e2.inv hp
    refine q _ _ (e2.trans x) ⟨p, _, rfl, wo_new e2.inv hp, ?_⟩
    have e0 : enK 0 xs = mergeK [] (enK 0 xs) := (mergeK_new _ [] (keys_nd h2 (enM_nd ds 0))).symm
    exact (congrArg (fun M => KvM (Y.wo (upd H2 p (.dK (mergeK [] (enK 0 xs))))) M (enM 0 ds)) e0).mp (h2.same x.wo)
/-- a dict is locked, and let go -/
theorem ag_lock {X : Vol} {H : Hp} {a : Addr} {kv : List (Key × V)} {od : Obj} (ha : H a = some (.dK kv)) : Ag (X.wo H) (X.wo (upd H a (.frz od (.dK kv)))) := by
  refine ⟨fun b o hb hn => ?_, fun b hb => ?_⟩
  · obtain ⟨h1, h2⟩ := wo_some hb
    rw [wo_out h2, upd_ne (fun z => by rw [z, ha] at h1; cases h1; exact hn)]
    exact h1
  · have nS : ¬ X.S b := by
      rcases hb with hb | ⟨o, hb⟩
      · exact (wo_some hb).2
      · exact (wo_some hb).2
    by_cases z : b = a
    · subst z
      rcases hb with hb | ⟨o, hb⟩
      · have h1 := (wo_some hb).1
        rw [ha] at h1
        cases h1
        exact .inr ⟨od, by rw [wo_out nS, upd_same]⟩
      · have h1 := (wo_some hb).1
        rw [ha] at h1
        cases h1
    · have e : X.wo (upd H a (.frz od (.dK kv))) b = X.wo H b := by rw [wo_out nS, wo_out nS, upd_ne z]
      unfold Rd
      rw [e]
      exact hb
theorem ag_free {X : Vol} {H : Hp} {a : Addr} {kv : List (Key × V)} {od : Obj} (ha : H a = some (.frz od (.dK kv))) : Ag (X.wo H) (X.wo (upd H a (.dK kv))) := by
  refine ⟨fun b o hb hn => ?_, fun b hb => ?_⟩
  · obtain ⟨h1, h2⟩ := wo_some hb
    rw [wo_out h2, upd_ne (fun z => by rw [z, ha] at h1; cases h1; exact hn)]
    exact h1
  · have nS : ¬ X.S b := by
      rcases hb with hb | ⟨o, hb⟩
      · exact (wo_some hb).2
      · exact (wo_some hb).2
    by_cases z : b = a
    · subst z
      rcases hb with hb | ⟨o, hb⟩
      · have h1 := (wo_some hb).1
        rw [ha] at h1
        cases h1
      · have h1 := (wo_some hb).1
        rw [ha] at h1
        cases h1
        exact .inl (by rw [wo_out nS, upd_same])
    · have e : X.wo (upd H a (.dK kv)) b = X.wo H b := by rw [wo_out nS, wo_out nS, upd_ne z]
      unfold Rd
      rw [e]
      exact hb
/-- what is evaluated while a dict that is walked over is locked -/
theorem en_lock {n : Nat} {a : Addr} {te : TE} {D : PyData} (hs : σ[n]? = some (some (.ref a))) (hm : (vM ms).at_ (X.wo H) (.ref a))
    (h : ∀ (Y : Vol) (H1 : Hp) (kv : List (Key × V)) (od : Obj), Y.pool = X.pool → Ag (X.wo H) (Y.wo H1) → Y.I H1 → Y.wo H1 a = some (.frz od (.dK kv)) → KvM (Y.wo H1) kv ms → EvN Y te σ H1 D) : EvN X (tLockE te) σ H D := fun Y H1 e Q q => by
  obtain ⟨a', kv, ea, ha, hk⟩ := e.upP hm
  cases ea
  obtain ⟨ha1, haS⟩ := wo_some ha
  refine ⟨a, .dK kv, ha1, True.intro, fun od => ?_⟩
  have ne : ∀ {b : Addr}, Y.S b → b ≠ a := fun hb z => haS (z ▸ hb)
  have iv : Y.I (upd H1 a (.frz od (.dK kv))) := I_upd e.inv ha1 haS
  have ag1 : Ag (Y.wo H1) (Y.wo (upd H1 a (.frz od (.dK kv)))) := ag_lock ha1
  refine h Y _ kv od e.pool ((Ag.of e.wo).trans ag1) iv (by rw [wo_out haS, upd_same]) (hk.ag ag1) Y _ (.refl iv) _ fun l H2 hl e2 p2 => ?_
  have f2 : H2 a = some (.frz od (.dK kv)) := e2.old a _ (fun z => haS (Y.subV _ z)) upd_same
  have la : l ≠ a := fun z => by rw [z, upd_same] at hl; cases hl
  rw [upd_ne la] at hl
  refine ⟨f2, q l _ hl ⟨rfl, rfl, fun _ z => z, fun _ z => .inl z, fun b o nb hb => ?_, I_upd e2.inv f2 haS⟩ (Dx.ag (ag_free f2) _ _ p2)⟩
  · by_cases hba : b = a
    · subst hba
      rw [upd_same]
      rw [ha1] at hb
      exact hb
    · rw [upd_ne hba]
      exact e2.old b o nb (by rw [upd_ne hba]; exact hb)
/-- .. in d.items() -/
theorem es_items {n : Nat} {a : Addr} {kv : List (Key × V)} {od : Obj} (hs : σ[n]? = some (some (.ref a))) (hf : X.wo H a = some (.frz od (.dK kv))) (hk : KvM (X.wo H) kv ms) : EvS X (iItems (tVar n)) σ H (ms.map dPr) := fun Y H1 e R r => by
  have at_ : ∀ Z H2, Wk Y H1 Z H2 → H2 a = some (.frz od (.dK kv)) ∧ KvM (Z.wo H2) kv ms := fun Z H2 s => ⟨wo_le _ _ (s.wo _ _ (e.wo _ _ hf)), (hk.same e.wo).same s.wo⟩
  refine ⟨_, hs, a, od, kv, rfl, (at_ Y H1 (.refl e.inv)).1, r _ H1 (.refl e.inv) ⟨fun Z H i s hi => ⟨(at_ Z H s).1, ?_⟩, fun Z H s => ⟨(at_ Z H s).1, ?_⟩, fun Z H i x H' s hi y => ?_⟩⟩
  · rw [hk.len]; rwa [List.length_map] at hi
  · rw [hk.len, List.length_map]; exact Nat.le_refl _
  · obtain ⟨T, k, v, hkv, rfl, hT, rfl⟩ := y
    have x := Sub.new (X := Z) (o := .tup [kV k, v]) s.inv hT
    rw [List.length_map] at hi
    have hm : ms[i]? = some ms[i] := List.getElem?_eq_getElem hi
    have pr : ∀ {G : Hp} {kv : List (Key × V)} {ms : Mp} {i : Nat} {p : Key × V} {m : Int × PyData}, KvM G kv ms → kv[i]? = some p → ms[i]? = some m → p.1 = Sum.inl m.1 ∧ Dx G p.2 m.2 := by
      intro G kv ms i p m h
      induction h generalizing i with
      | nil => intro h1; simp at h1
      | cons a _ ih =>
        intro h1 h2
        cases i with
        | zero =>
          cases h1; cases h2
          exact a
        | succ i => exact ih h1 h2
    obtain ⟨g1, g2⟩ := pr (at_ Z H s).2 hkv hm
    have g1' : k = Sum.inl (ms[i]).1 := g1
    subst g1'
    exact ⟨dPr ms[i], by rw [List.getElem?_map, hm]; rfl, x, .tup (wo_new s.inv hT) (.cons (.int _) (.cons (x.upD g2) .nil))⟩
end
end Ee

namespace Ee
open PySem L2
/-- a def whose last parameter is an empty tuple if it is left out -/
structure DfD (P : Program) (w : World) (K : PySem.W.Frag) (mg : Str → Option Value) (base : Heap) (k : Nat) (x : Str) (ps : List Str) (sp : Sp) : Prop where
  ex : ∃ (g : Addr) (gd : FuncData) (a : Addr) (ds : List Value), FnOk P w K mg base CX0 k g gd ps sp ∧ mg x = some (.ref g) ∧ PySem.W.keepIn K (.ref g) = true ∧ Binds K gd ps ds ∧ Vals [.ref a] ds ∧ KT K a ∧ KBn K gd ps (ps.length - 1) ["fixed"] (fun us ws => us ++ ws) (fun vs zs => vs ++ zs)
end Ee

namespace Ee
open PySem L2
section
variable {X Y : Vol} {σ : L2.St} {H H' H0 H1 : Hp} {ta tb tc te tl ti td ty : TE} {t u : TT} {K : Fr} {i j k : Int} {b : Bool} {d e : PyData} {ds es : List PyData} {l p : Addr} {tz tw : TS} {D : Ends} {R : PyData → Prop} {Rs : List (PyData → Prop)}
theorem allP_D {H : Hp} : ∀ {vs : List V} {ds : List PyData}, DxAll H vs ds → AllP H (ds.map vD) vs
  | _, _, .nil => .nil
  | _, _, .cons a t => .cons a (allP_D t)
/-- a call with drawn arguments -/
theorem ev_callX {α : Type} {pre : α → Prop} {Ps : α → List VP} {P : α → VP} {E : XK} {tr : TA} (h : EvAx X tr σ H Rs) (ha : ∀ ds, RR Rs ds → ∃ a, Ps a = ds.map vD ∧ pre a ∧ ∀ H v, (P a).at_ H v → ∃ d, R d ∧ Dx H v d) : Ev X (tCall (spF pre Ps P) [] E tr) σ H (vX R) := fun Y H1 e Q q => h Y H1 e _ fun vs ds H2 e2 r p2 => by
  obtain ⟨a, hq, hp, ho⟩ := ha ds r
  show spF pre Ps P (vs ++ []) H2 Q E
  rw [List.append_nil]
  exact ⟨a, Y.S, hp, e2.inv.live, by rw [hq]; exact allP_D p2, fun v H' s r => q v H' (e2.trans (.same s e2.inv)) (ho _ _ r)⟩
/-- l[i] = e, e drawn -/
theorem s_setX {n : Nat} (m : Mak X H0 l H ds) (hs : σ[n]? = some (some (.ref l))) (h : Ev (X.add l) te σ H (vX R)) {j : Nat} (hi : Ev (X.add l) ti σ H (vI j)) (hj : j < ds.length) (k : ∀ d H1, R d → Mak X H0 l H1 (ds.set j d) → Wk (X.add l) H (X.add l) H1 → D.nx σ H1) :
    tAsg te (gSub (tVar n) ti rSetL) D σ H := by
  refine h.go m.inv fun v H1 e ⟨d, r, p⟩ => ⟨_, hs, (hi.mono e).go e.inv fun w H2 e2 p2 => ?_⟩
  cases p2
  obtain ⟨acc', h1', h2'⟩ := (m.ext (e.trans e2)).ex
  refine ⟨l, acc', (j : Int), j, rfl, rfl, h1', ?_, k d _ r ((m.ext (e.trans e2)).put (h2'.set j (e2.upD p))) ((e.trans e2).wk.trans (m.ext (e.trans e2)).wkput)⟩
  rw [h2'.len]
  unfold ixN
  rw [if_pos (by omega), if_pos (by omega)]
  simp
theorem lay_edges : ∀ p : List (Nat × Nat), PyData.canLayAll0 (p.map dPair) = true ∧ PyData.depthAll (p.map dPair) ≤ 1
  | [] => ⟨by simp [PyData.canLayAll0], by simp [PyData.depthAll]⟩
  | s :: p => by
    have ih := lay_edges p
    rw [List.map_cons]
    refine ⟨?_, ?_⟩
    · rw [PyData.canLayAll0, ih.1]; simp [dPair, PyData.canLay0, PyData.canLayAll0]
    · rw [PyData.depthAll]; exact Nat.max_le.mpr ⟨by simp [dPair, PyData.depth, PyData.depthAll], ih.2⟩
theorem shaped_edges (p : List (Nat × Nat)) : SeqAt.shaped (dEdges p) = true := by
  have h := lay_edges p
  unfold SeqAt.shaped
  have h1 : (PyData.list (p.map dPair)).canLay0 = true := by rw [PyData.canLay0]; exact h.1
  have h2 : (PyData.list (p.map dPair)).depth ≤ 64 := by rw [PyData.depth]; exact Nat.le_trans (Nat.succ_le_succ h.2) (by decide)
  rw [h1, decide_eq_true h2]
  rfl
end
end Ee

namespace Ee
open PySem PySem.Spec PyProof.Rows L2 HT
/-- t[::w], t a pair, w 1 or -1: the pair itself, or a new one the other way round -/
def tTurn (K : PySem.W.Frag) (te ts : TE) : TE := fun σ H Q => te σ H fun x H1 => ts σ H1 fun y H2 => ∃ a u v w, x = .ref a ∧ SqT K H2 a [u, v] ∧ y = .int w ∧ (w = 1 ∨ w = -1) ∧ (w = 1 → Q (.ref a) H2) ∧ (w = -1 → ∀ p, H2 p = none → Q (.ref p) (upd H2 p (.tup [v, u])))
section
variable {prog : Program} {w : World} {A : Around} {E : Value → Shared → Prop} {s : Shared}
theorem applied_two {sl : Addr} {z : Int} {t : Tok} {Q : Int × Int × Nat → Shared → Prop} (hs : s.heap.IsSliceOf sl .none .none (.int z t)) (hz : z = 1 ∨ z = -1) (h : Q (if z = 1 then 0 else 1, z, 2) s) :
    wpAny (model prog w) A (Builtin.Slice.sliceApplied (.ref sl) (pure (2 : Int))) Q E s := by
  obtain ⟨os, hos, hcs, hds⟩ := id hs
  unfold Builtin.Slice.sliceApplied Builtin.Slice.sliceFields
  refine wpAny_bind (wpAny_bind (wpAny_field hos hds (x := .none) rfl (wpAny_bind (wpAny_field hos hds (x := .none) rfl (wpAny_bind (wpAny_field hos hds (x := .int z t) rfl (wpAny_pure ?_)))))))
  refine wpAny_bind (slicePart_int ?_)
  rcases hz with rfl | rfl
  · show wpAny _ _ (if ((1 : Int) == 0) = true then _ else _) _ _ s
    rw [if_neg (by decide)]
    refine wpAny_bind (slicePart_none (wpAny_bind (slicePart_none (wpAny_bind (wpAny_pure ?_)))))
    exact wpAny_pure h
  · show wpAny _ _ (if ((-1 : Int) == 0) = true then _ else _) _ _ s
    rw [if_neg (by decide)]
    refine wpAny_bind (slicePart_none (wpAny_bind (slicePart_none (wpAny_bind (wpAny_pure ?_)))))
    exact wpAny_pure h
theorem turned_two {a sl : Addr} {x y : Value} {z : Int} {t : Tok} {Q : Value → Shared → Prop} (ht : IsTup s.heap a #[x, y]) (hs : s.heap.IsSliceOf sl .none .none (.int z t)) (hz : z = 1 ∨ z = -1)
    (h1 : z = 1 → Q (.ref a) s) (h2 : z = -1 → Q (.ref s.heap.objs.size) { s with heap := s.heap.push { cls := .type "tuple", data := .seq #[y, x] } }) : wpAny (model prog w) A (getItem (.ref a) (.ref sl)) Q E s := by
  obtain ⟨os, hos, hcs, hds⟩ := id hs
  have isSl : s.TypeIs (.ref sl) "slice" := ⟨os, hos, hcs⟩
  unfold getItem
  try with_reducible refine wpAny_holding ?_
  first | refine wpAny_bind (wpAny_pure ?_) | skip
  refine wpAny_bind (wpAny_sequenceKey ht.typeIs (by decide) (wpAny_bind (wpAny_callSpecial?_slot (name := Str.ofString "__getitem__") ht.typeIs PyProof.Rows.slot_tuple_getitem
    (wpAny_call_entry PyProof.Rows.slot_tuple_getitem ht.typeIs entry_tuple_getitem ?_ (args_tuple_getitem _ _)))))
  show wpAny _ _ (Builtin.Tuple.tupleItemsOf (.ref a) >>= _) _ _ s
  refine wpAny_bind (tupleItemsOf_ ht (wpAny_bind (wpAny_typeOf isSl ?_)))
  rw [if_pos (by decide)]
  refine wpAny_bind (applied_two hs hz ?_)
  rcases hz with rfl | rfl
  · show wpAny _ _ (if (((0 : Int) == 0 && (1 : Int) == 1 && (2 : Nat) == 2) = true) then _ else _) _ _ s
    rw [if_pos (by decide)]
    refine wpAny_bind ?_
    show wpAny _ _ (typeOf (.ref a) >>= fun T => pure (T == .type "tuple")) _ _ s
    refine wpAny_bind (wpAny_typeOf ht.typeIs (wpAny_pure ?_))
    first
      | rw [if_pos (by decide)]
      | simp only [beq_self_eq_true, if_true]
    first
      | exact wpAny_bind (wpAny_rule (wpAny_pure ⟨_, rfl, wpAny_pure (h1 rfl)⟩))
      | exact wpAny_bind (wpAny_rule (wpAny_bind (wpAny_pure (wpAny_pure ⟨_, rfl, wpAny_pure (h1 rfl)⟩))))
  · have fit : sizeOk (.seq #[y, x]) := by
      show 2 ≤ sizeLine
      decide
    have got := h2 rfl
    show wpAny _ _ (if (((1 : Int) == 0 && (-1 : Int) == 1 && (2 : Nat) == 2) = true) then _ else _) _ _ s
    rw [if_neg (by decide)]
    have pick : ((List.range 2).filterMap fun (k : Nat) => (#[x, y] : Array Value)[((1 : Int) + (k : Int) * (-1)).toNat]?).toArray = #[y, x] := by rfl
    first
      | exact wpAny_bind (m := Builtin.Tuple.tupleExact _) (wpAny_newObj_type (wpAny_pure ⟨_, rfl, wpAny_pure got⟩) fit)
      | exact wpAny_bind (m := Builtin.Tuple.tupleExact _) (wpAny_newObj_type (wpAny_bind (wpAny_pure (wpAny_pure ⟨_, rfl, wpAny_pure got⟩))) fit)
      | exact wpAny_bind (wpAny_bind (m := Builtin.Tuple.tupleExact _) (wpAny_newObj_type (wpAny_pure (wpAny_pure ⟨_, rfl, wpAny_pure got⟩)) fit))
      | exact wpAny_bind (wpAny_bind (m := Builtin.Tuple.tupleExact _) (wpAny_newObj_type (wpAny_pure ⟨_, rfl, wpAny_pure got⟩) fit))
end
theorem pe_turn {X : Cx} {e st : Expr} {te ts : TE} {p3 pos : Pos} (he : PE X e te) (hst : PE X st ts) : PE X (.Subscript e (.Slice none none (some st) p3) pos) (tTurn X.K te ts) := by
  refine ⟨fun pins s σ H Q I h => ?_⟩
  refine Subscript_ (thn (he.run pins s σ H _ I h) fun v s1 ⟨x, H1, I1, r1, q1⟩ => ?_)
  refine wpAny_Slice (thn (po_none.run pins s1 σ H1 (fun o H2 => o = none ∧ H2 = H1) I1 ⟨rfl, rfl⟩) fun vl s2 ⟨l, H2, I2, pl, el, e2⟩ => ?_)
  subst el e2
  refine thn (po_none.run pins s2 σ H2 (fun o H3 => o = none ∧ H3 = H2) I2 ⟨rfl, rfl⟩) fun vu s3 ⟨u, H3, I3, pu, eu, e3⟩ => ?_
  subst eu e3
  rw [evalPart_some]
  refine thn (hst.run pins s3 σ H3 _ I3 q1) fun vs s4 ⟨y, H4, I4, ry, a, c, d, z, ex, ht, ey, hz, qa, qb⟩ => ?_
  subst ex ey
  cases r1
  cases pl
  cases pu
  obtain ⟨t, rfl⟩ := ry
  have I5 : Inv X pins σ H4 { s4 with heap := s4.heap.push { cls := .type "slice", data := .fields #[.none, .none, .int z t] } } := I4.kept (t' := s4.toks) fun b ob q => Heap.get?_push_of_some _ q
  obtain ⟨its, r, isT, len⟩ := I5.tuple ht
  cases r with
  | cons rc r =>
    rename_i uc us
    cases r with
    | cons rd r =>
      rename_i ud us
      cases r
      show wpAny (model X.prog X.w) X.A (subscriptTail e (.Slice none none (some st) p3) (.ref a) (.ref s4.heap.objs.size)) (EP X pins σ Q) X.xe { s4 with heap := s4.heap.push { cls := .type "slice", data := .fields #[.none, .none, .int z t] } }
      refine tail_any (ops := [.ref a, .ref s4.heap.objs.size]) isT.typeIs PyProof.Rows.slot_tuple_getitem.lookup ?_ (by with_unfolding_all rfl)
      refine turned_two isT (Heap.IsSliceOf.new _ .none .none (.int z t)) hz (fun e1 => ⟨.ref a, H4, I5, rfl, qa e1⟩) (fun e1 => ?_)
      refine ⟨.ref _, _, I5.laid (t' := s4.toks) (o := .tup [d, c]) (fun b ob q => Heap.get?_push_of_some _ q) (Nat.le_refl _) ?_, rfl, qb e1 _ (I5.hok.fresh (Nat.le_refl _))⟩
      exact ⟨by show 2 ≤ sizeLine; decide, [ud, uc], .cons rd (.cons rc .nil), IsTup.new _ _⟩
theorem pe_turnK {X : Cx} {K : PySem.W.Frag} {e st : Expr} {te ts : TE} {p3 pos : Pos} (he : PE X e te) (hst : PE X st ts) (hK : X.K = K := by rfl) : PE X (.Subscript e (.Slice none none (some st) p3) pos) (tTurn K te ts) := by
  subst hK
  exact pe_turn he hst
theorem pe_index1 {X : Cx} {K : PySem.W.Frag} {o e : Expr} {apos cpos : Pos} {to te : TE} (ho : PE X o to) (ha : PE X e te) (hK : X.K = K := by rfl)
    (hbase : attributeBase o "index" X.env (eval o X.env) = eval o X.env := by rfl)
    (hfew : ((backTo cpos (starEach (e :: []) X.env)).all (fun x => !x.1) && (backToKw cpos (keywordEach [] X.env)).all (fun x => x.1.isSome)
      && decide ((e :: []).length + ([] : List Keyword).length + (if ([] : List Keyword).isEmpty then 0 else 1) < 30)) = true := by rfl)
    (hline : (apos.endLine == cpos.line) = true := by rfl) (hs : starEach (e :: []) X.env = (false, eval e X.env) :: starEach [] X.env := by rfl) (hplain : (backTo cpos (starEach ([] : List Expr) X.env)).any (·.1) = false := by rfl) :
    PE X (.Call (.Attribute o "index" apos) [e] [] cpos) (tBM K "list" (rIndex K) to (tCons te tNil)) := by
  subst hK
  exact pe_bm PySem.F.plainAttrs_list PySem.F.slot_list_index PySem.F.type_list_index mt_index ho (pa_cons ha pa_nil hs) hbase hfew hline hs hplain
end Ee
namespace Ee
open PySem L2
/-! ### lists of all kinds of values -/
def vLs (Ps : List VP) : VP := ⟨fun H v => ∃ a vs, v = .ref a ∧ H a = some (.lst vs) ∧ AllP H Ps vs, fun s ⟨a, vs, e, h, al⟩ => ⟨a, vs, e, s _ _ h, AllP.same s al⟩⟩
theorem AllP.len {H : Hp} {Ps : List VP} {vs : List V} (h : AllP H Ps vs) : vs.length = Ps.length := (Paired.length h).symm
theorem AllP.get {H : Hp} : ∀ {Ps : List VP} {vs : List V} {i : Nat} {P : VP}, AllP H Ps vs → Ps[i]? = some P → ∃ v, vs[i]? = some v ∧ P.at_ H v
  | _, _, _, _, .nil, h => by simp at h
  | _, _, 0, _, .cons a _, h => by cases h; exact ⟨_, rfl, a⟩
  | _, _, i + 1, _, .cons _ t, h => AllP.get (i := i) t h
theorem AllP.app {H : Hp} : ∀ {Ps Qs : List VP} {vs us : List V}, AllP H Ps vs → AllP H Qs us → AllP H (Ps ++ Qs) (vs ++ us)
  | _, _, _, _, .nil, h => h
  | _, _, _, _, .cons a t, h => .cons a (AllP.app t h)
section
variable {X Y : Vol} {σ : L2.St} {H H' H0 H1 : Hp} {ta tb tc te tl ti td ty : TE} {t u : TT} {P P' : VP} {Ps Qs : List VP} {K : Fr} {i j k : Int} {b : Bool} {d e : PyData} {ds es : List PyData} {l p : Addr} {tz tw : TS} {D : Ends} {R : PyData → Prop}
theorem ev_lstP {tr : TA} (h : EvA X tr σ H Ps) (hl : Ps.length ≤ 40000) : Ev X (tLst tr) σ H (vLs Ps) := fun Y H1 e Q q =>
  h Y H1 e _ fun vs H2 e2 p2 => ⟨by rw [p2.len]; exact Nat.le_trans hl (by decide), fun p hp => by
    have x := Sub.new (X := Y) (o := .lst vs) e2.inv hp
    exact q _ _ (e2.trans x) ⟨p, vs, rfl, wo_new e2.inv hp, AllP.same x.wo p2⟩⟩
theorem ev_ixP {n : Nat} (ha : Ev X ta σ H (vLs Ps)) (hb : Ev X tb σ H (vI (n : Int))) (hi : Ps[n]? = some P) : Ev X (tOp (rIxL K) ta tb) σ H P := ev_op2 ha hb fun Y x y H1 e ⟨a, vs, hx, h1, al⟩ py Q q => by
  cases py
  obtain ⟨v, hv, hd⟩ := al.get hi
  exact ⟨_, _, (n : Int), v, hx, rfl, SqL.of (wo_le _ _ h1), atI_nat hv, q _ H1 (.refl e.inv) hd⟩
theorem lsD {G : Hp} {v : V} (h : Dx G v (.list ds)) : (vLs (ds.map vD)).at_ G v := by
  cases h with
  | lst ea al => exact ⟨_, _, rfl, ea, allP_D al⟩
theorem Ev.toP (h : Ev X te σ H (vL ds)) : Ev X te σ H (vLs (ds.map vD)) := h.weak fun _ _ p => lsD p
theorem ev_catP (ha : Ev X ta σ H (vLs Ps)) (hb : Ev X tb σ H (vLs Qs)) (hl : Ps.length + Qs.length ≤ 40000) : Ev X (tOp rCat ta tb) σ H (vLs (Ps ++ Qs)) := ev_op2 ha hb fun Y x y H1 e ⟨a, vs, hx, h1, al⟩ ⟨b, us, hy, h2, bl⟩ Q q => by
  refine ⟨_, _, _, _, hx, hy, wo_le _ _ h1, wo_le _ _ h2, by rw [al.len, bl.len]; exact Nat.le_trans hl (by decide), fun p hp => ?_⟩
  have x2 := Sub.new (X := Y) (o := .lst (vs ++ us)) e.inv hp
  exact q _ _ x2 ⟨p, _, rfl, wo_new e.inv hp, AllP.same x2.wo (al.app bl)⟩
theorem ev_varP {n : Nat} {v : V} (h : σ[n]? = some (some v)) (p : (vLs Ps).at_ (X.wo H) v) : Ev X (tVar n) σ H (vLs Ps) := ev_var h p
/-- t[::w] -/
theorem ev_turn (h : Ev X te σ H (vT [d, e])) (hi : Ev X ti σ H (vI i)) (hw : i = 1 ∨ i = -1) : Ev X (tTurn K te ti) σ H (vT (if i = 1 then [d, e] else [e, d])) := fun Y H1 x Q q => h Y H1 x _ fun v H2 e2 p2 => hi Y H2 (x.trans e2) _ fun w H3 e3 p3 => by
  cases p3
  have p4 := e3.upD p2
  cases e3.upD p2 with
  | tup ea al =>
    cases al with
    | cons a t =>
      cases t with
      | cons b t =>
        cases t
        refine ⟨_, _, _, i, rfl, SqT.of (wo_le _ _ ea), rfl, hw, fun e1 => ?_, fun e1 p hp => ?_⟩
        · rw [if_pos e1] at q
          exact q _ H3 (e2.trans e3) p4
        · rw [if_neg (by omega)] at q
          have key : ∀ z1 z2, Dx (Y.wo H3) z1 d → Dx (Y.wo H3) z2 e → Q (.ref p) (upd H3 p (.tup [z2, z1])) := fun z1 z2 g1 g2 => by
            have x3 := Sub.new (X := Y) (o := .tup [z2, z1]) e3.inv hp
            exact q _ _ ((e2.trans e3).trans x3) (.tup (wo_new e3.inv hp) (.cons (x3.upD g2) (.cons (x3.upD g1) .nil)))
          exact key _ _ a b
/-- l.index(e) -/
theorem ev_index {ns : List Int} {j : Nat} (h : Ev X te σ H (vL (ns.map PyData.int))) (hi : Ev X ti σ H (vI i)) (hj : ns[j]? = some i) (hn : ∀ m, m < j → ns[m]? ≠ some i) : Ev X (tBM K "list" (rIndex K) te (tCons ti tNil)) σ H (vI (j : Int)) := fun Y H1 x Q q => h Y H1 x _ fun v H2 e2 p2 => by
  have p3 := p2
  cases p3 with
  | lst ea al =>
    refine ⟨.inl ⟨rfl, _, SqL.of (wo_le _ _ ea)⟩, hi Y H2 (x.trans e2) _ fun w H3 e3 p4 => ?_⟩
    cases p4
    cases e3.upD p2 with
    | lst ea al =>
      have hv := al.ints
      subst hv
      refine ⟨_, _, .int i, j, .int i, rfl, rfl, SqL.of (wo_le _ _ ea), rfl, flat_ints ns, by rw [List.getElem?_map, hj]; rfl, by simp [eqV], fun m z hm hz => ?_, q _ H3 (e2.trans e3) (.int _)⟩
      rw [List.getElem?_map] at hz
      obtain ⟨y, hy, rfl⟩ := Option.map_eq_some_iff.mp hz
      have ne : y ≠ i := fun z => hn m hm (z ▸ hy)
      show (y == i) = false
      exact beq_eq_false_iff_ne.mpr ne
end
end Ee

namespace Ee
open PySem L2
section
variable {X Y : Vol} {σ : L2.St} {H H' H0 H1 : Hp} {ta tb tc te tl ti td ty : TE} {t u : TT} {P P' : VP} {Qs Rs : List VP} {K : Fr} {i j k : Int} {b : Bool} {d e : PyData} {ds es : List PyData} {l p : Addr} {tz tw : TS} {D : Ends} {R : PyData → Prop} {ms : Mp}
theorem AllP.cat {H : Hp} {Ps Qs : List VP} {vs us : List V} (h : AllP H Ps vs) (g : AllP H Qs us) : AllP H (Ps ++ Qs) (vs ++ us) := AllP.app h g
/-- f(e, .., fixed = e) -/
theorem ev_callN {α : Type} {pre : α → Prop} {Ps : α → List VP} {P : α → VP} {E : XK} {tr tk : TA} {n m : Nat} (a : α) (h : EvA X tr σ H Qs) (hk : EvA X tk σ H Rs) (he : Ps a = Qs ++ Rs) (hp : pre a) (hn : Qs.length = n := by rfl) (hm : Rs.length = m := by rfl) :
    Ev X (tCallN n m (spF pre Ps P) (fun vs zs => vs ++ zs) E tr tk) σ H (P a) := fun Y H1 e Q q => h Y H1 e _ fun vs H2 e2 p2 => hk Y H2 (e.trans e2) _ fun zs H3 e3 p3 => by
  have s2 : AllP (Y.wo H3) Qs vs := AllP.same e3.wo p2
  refine ⟨by rw [s2.len, hn], by rw [p3.len, hm], ?_⟩
  exact ⟨a, Y.S, hp, e3.inv.live, by rw [he]; exact AllP.app s2 p3, fun v H' s r => q v H' ((e2.trans e3).trans (.same s e3.inv)) r⟩
theorem kv_pair {G : Hp} {kv : List (Key × V)} {ms : Mp} (h : KvM G kv ms) : ∀ {i : Nat} {p : Key × V} {m : Int × PyData}, kv[i]? = some p → ms[i]? = some m → p.1 = Sum.inl m.1 ∧ Dx G p.2 m.2 := by
  induction h with
  | nil => intro i p m h1; simp at h1
  | cons a _ ih =>
    intro i p m h1 h2
    cases i with
    | zero =>
      cases h1; cases h2
      exact a
    | succ i => exact ih h1 h2
/-- .. in d -/
theorem es_keys {n : Nat} {a : Addr} {kv : List (Key × V)} {od : Obj} (hs : σ[n]? = some (some (.ref a))) (hf : X.wo H a = some (.frz od (.dK kv))) (hk : KvM (X.wo H) kv ms) : EvS X (iKeys (tVar n)) σ H (ms.map fun m => PyData.int m.1) := fun Y H1 e R r => by
  have at_ : ∀ Z H2, Wk Y H1 Z H2 → H2 a = some (.frz od (.dK kv)) ∧ KvM (Z.wo H2) kv ms := fun Z H2 s => ⟨wo_le _ _ (s.wo _ _ (e.wo _ _ hf)), (hk.same e.wo).same s.wo⟩
  refine ⟨_, hs, a, od, rfl, .inl ⟨kv, (at_ Y H1 (.refl e.inv)).1, r _ H1 (.refl e.inv) ⟨fun Z H i s hi => ⟨(at_ Z H s).1, ?_⟩, fun Z H s => ⟨(at_ Z H s).1, ?_⟩, fun Z H i x H' s hi y => ?_⟩⟩⟩
  · rw [hk.len]; rwa [List.length_map] at hi
  · rw [hk.len, List.length_map]; exact Nat.le_refl _
  · obtain ⟨rfl, k, v, hkv, rfl⟩ := y
    rw [List.length_map] at hi
    have hm : ms[i]? = some ms[i] := List.getElem?_eq_getElem hi
    have g1 : k = Sum.inl (ms[i]).1 := (kv_pair (at_ Z _ s).2 hkv hm).1
    subst g1
    exact ⟨.int (ms[i]).1, by rw [List.getElem?_map, hm]; rfl, .refl s.inv, .int _⟩
/-- .. in d.values() -/
theorem es_vals {n : Nat} {a : Addr} {kv : List (Key × V)} {od : Obj} (hs : σ[n]? = some (some (.ref a))) (hf : X.wo H a = some (.frz od (.dK kv))) (hk : KvM (X.wo H) kv ms) : EvS X (iVals (tVar n)) σ H (ms.map (·.2)) := fun Y H1 e R r => by
  have at_ : ∀ Z H2, Wk Y H1 Z H2 → H2 a = some (.frz od (.dK kv)) ∧ KvM (Z.wo H2) kv ms := fun Z H2 s => ⟨wo_le _ _ (s.wo _ _ (e.wo _ _ hf)), (hk.same e.wo).same s.wo⟩
  refine ⟨_, hs, a, od, kv, rfl, (at_ Y H1 (.refl e.inv)).1, r _ H1 (.refl e.inv) ⟨fun Z H i s hi => ⟨(at_ Z H s).1, ?_⟩, fun Z H s => ⟨(at_ Z H s).1, ?_⟩, fun Z H i x H' s hi y => ?_⟩⟩
  · rw [hk.len]; rwa [List.length_map] at hi
  · rw [hk.len, List.length_map]; exact Nat.le_refl _
  · obtain ⟨rfl, k, hkv⟩ := y
    rw [List.length_map] at hi
    have hm : ms[i]? = some ms[i] := List.getElem?_eq_getElem hi
    exact ⟨(ms[i]).2, by rw [List.getElem?_map, hm]; rfl, .refl s.inv, (kv_pair (at_ Z _ s).2 hkv hm).2⟩
theorem kvM_keys {G : Hp} {kv : List (Key × V)} {ms : Mp} (h : KvM G kv ms) : kv.map (·.1) = (ms.map (·.1)).map Sum.inl := by
  induction h with
  | nil => rfl
  | cons a _ ih =>
    rw [List.map_cons, List.map_cons, List.map_cons, ih, a.1]
/-- sorted(d) -/
theorem en_sortedM {ks : List Int} (h : Ev X te σ H (vM ms)) (hl : ms.length < 64) (hp : ks.Perm (ms.map (·.1))) (ho : ks.Pairwise (· ≤ ·)) :
    EvN X (tCB (fun xs H Q => ∃ (a : Addr) (kvs : List (Key × V)) (ks : List Int), xs = [.ref a] ∧ Rd H a (.dK kvs) ∧ kvs.map (·.1) = ks.map Sum.inl ∧ ks.length < 64 ∧ ∀ (ys : List Int) (p : Addr), ys.Perm ks → ys.Pairwise (· ≤ ·) → H p = none → Q (.ref p) (upd H p (.lst (ys.map V.int)))) (tCons te tNil)) σ H (.list (ks.map PyData.int)) := fun Y H1 e Q q => h Y H1 e _ fun v H2 e2 ⟨a, kv, hv, ha, hk⟩ => by
  subst hv
  refine ⟨a, kv, ms.map (·.1), rfl, .inl (wo_le _ _ ha), kvM_keys hk, by rw [List.length_map]; exact hl, fun ys p yp yo hpn => ?_⟩
  have ey : ys = ks := List.Perm.eq_of_pairwise (fun a b _ _ h1 h2 => Int.le_antisymm h1 h2) yo ho (yp.trans hp.symm)
  subst ey
  exact laid e2.inv (dx_ints _) (fun l H3 n e3 p3 => q l H3 (free_of e2 n) (e2.trans e3) p3) p hpn
theorem ev_isDict (h : Ev X te σ H (vM ms)) : Ev X (tCB (rIsi K) (tCons te (tCons (tC (.ty "dict")) tNil))) σ H (vB true) := fun Y H1 e Q q => h Y H1 e _ fun v H2 e2 ⟨a, kv, hv, ha, hk⟩ => by
  subst hv
  exact ⟨_, _, _, _, true, rfl, .ty _, .base (.dK (wo_le _ _ ha)), kit_ty (r := true) (by decide +kernel), q _ H2 e2 (.bl true)⟩
end
end Ee

namespace Ee
open PySem L2
/-! ## tests that draw -/
def EvTp (X : Vol) (tt : TT) (σ : L2.St) (H : Hp) (p : Bool → Prop) : Prop := ∀ (Y : Vol) (H1 : Hp), Sub X H Y H1 → ∀ Q : Bool → Hp → Prop, (∀ b H2, Ext Y H1 H2 → p b → Q b H2) → tt σ H1 Q
section
variable {X Y : Vol} {σ : L2.St} {H H' H0 H1 : Hp} {ta tb tc te tl ti td ty : TE} {t u : TT} {P P' : VP} {K : Fr} {i j k : Int} {a b : Bool} {d e : PyData} {ds es : List PyData} {l : Addr} {tz tw : TS} {D : Ends} {R : PyData → Prop} {p : Bool → Prop} {ms : Mp}
theorem EvTp.go {Q : Bool → Hp → Prop} (h : EvTp X t σ H p) (i : X.I H) (q : ∀ b H2, Ext X H H2 → p b → Q b H2) : t σ H Q := h X H (.refl i) Q q
theorem etp_test (h : Ev X te σ H (vX fun d => ∃ b, d = .bool b ∧ p b)) : EvTp X (tTest te) σ H p := fun Y H1 e Q q => h Y H1 e _ fun v H2 e2 ⟨d, ⟨b, hd, hp⟩, pv⟩ => by
  subst hd
  cases pv
  exact ⟨b, rfl, q b H2 e2 hp⟩
theorem etp_and {q0 : Bool → Prop} (h1 : EvT X t σ H a) (h2 : a = true → EvTp X u σ H p) (hf : a = false → q0 false) (ht : ∀ b, a = true → p b → q0 b) : EvTp X (tAnd t u) σ H q0 := fun Y H1 e Q q => h1 Y H1 e _ fun H2 e2 => by
  cases a with
  | true => exact iteT (h2 rfl Y H2 (e.trans e2) Q fun b H3 e3 hp => q b H3 (e2.trans e3) (ht b rfl hp))
  | false => exact iteF (q false H2 e2 (hf rfl))
theorem ev_cmpY {g : Int → Int → Bool} {p : Int → Prop} (ha : Ev X ta σ H (vX fun d => ∃ r, d = .int r ∧ p r)) (hb : Ev X tb σ H (vI j)) : Ev X (tOp (rI0 fun i j => .bl (g i j)) ta tb) σ H (vX fun d => ∃ b, d = .bool b ∧ ∃ r, p r ∧ b = g r j) := ev_op2 ha hb fun Y x y H1 e px py Q q => by
  cases py
  obtain ⟨_, ⟨r, rfl, hr⟩, hx⟩ := px
  cases hx
  exact ⟨r, j, rfl, rfl, q _ H1 (.refl e.inv) ⟨_, ⟨_, rfl, r, hr, rfl⟩, .bl _⟩⟩
theorem ev_eqY {p : Int → Prop} (ha : Ev X ta σ H (vX fun d => ∃ r, d = .int r ∧ p r)) (hb : Ev X tb σ H (vI j)) : Ev X (tOp rEq ta tb) σ H (vX fun d => ∃ b, d = .bool b ∧ ∃ r, p r ∧ b = decide (r = j)) := ev_op2 ha hb fun Y x y H1 e px py Q q => by
  cases py
  obtain ⟨_, ⟨r, rfl, hr⟩, hx⟩ := px
  cases hx
  refine ⟨rfl, ?_⟩
  rw [dVint]
  exact q _ H1 (.refl e.inv) ⟨_, ⟨_, rfl, r, hr, rfl⟩, .bl _⟩
theorem q_ifX (h : EvTp X t σ H p) (i : X.I H) (h1 : p true → ∀ H1, Ext X H H1 → tw { D with nx := tz D } σ H1) (h2 : p false → ∀ H1, Ext X H H1 → tz D σ H1) : tSeq (tIfS t tw tNext) tz D σ H := h.go i fun b H1 e hp => by
  cases b with
  | true => exact iteT (h1 hp H1 e)
  | false => exact iteF (h2 hp H1 e)
theorem s_ifX (h : EvTp X t σ H p) (i : X.I H) (h1 : p true → ∀ H1, Ext X H H1 → tw D σ H1) (h2 : p false → ∀ H1, Ext X H H1 → D.nx σ H1) : tIfS t tw tNext D σ H := h.go i fun b H1 e hp => by
  cases b with
  | true => exact iteT (h1 hp H1 e)
  | false => exact iteF (h2 hp H1 e)
/-! ## comprehensions whose tests draw -/
theorem ev_lcX {wi : TI} {g : TG} {tt : TT} {vs : List Nat} (R : Nat → Option PyData → Prop) (hs : EvS X wi σ H ds) (hn : ds.length ≤ 40000)
    (step : ∀ (Y : Vol) (i : Nat) (d : PyData) (v : V) (H1 : Hp), ds[i]? = some d → Sub X H Y H1 → Dx (Y.wo H1) v d → Tgt g v (wipe σ vs) H1 fun σ2 H2 => H2 = H1 ∧ wipe σ2 vs = wipe σ vs ∧ ∃ pb, EvTp Y tt σ2 H1 pb ∧ (pb false → R i none) ∧ (pb true → Ev Y te σ2 H1 (vX fun e => R i (some e)))) :
    ∀ (Y : Vol) (H1 : Hp), Sub X H Y H1 → ∀ Q : VK, (∀ (l : Addr) (H2 : Hp) (os : List (Option PyData)), H1 l = none → Ext Y H1 H2 → os.length = ds.length → (∀ i o, os[i]? = some o → R i o) → Dx (Y.wo H2) (.ref l) (.list (os.filterMap id)) → Q (.ref l) H2) → tLc wi g tt te vs σ H1 Q := fun Y H1 e Q q => hs Y H1 e _ fun J H2 e2 sq D hD => by
  have i2 := e2.inv
  let Inv : Nat → Hp → Prop := fun i H' => Sub Y H2 (Y.add D) H' ∧ ∃ (os : List (Option PyData)) (acc : List V), os.length = i ∧ (∀ j o, os[j]? = some o → R j o) ∧ H' D = some (.lst acc) ∧ DxAll ((Y.add D).wo H') acc (os.filterMap id)
  refine ⟨fun i m H => m = ds.length - i ∧ i ≤ ds.length ∧ Inv i H, ⟨ds.length, by simp, Nat.zero_le _, .add i2 hD, [], [], rfl, fun j o h => by simp at h, upd_same, .nil⟩, ?_⟩
  rintro i m H' ⟨rfl, hi, s, os, acc, h1, h2, h3, h4⟩
  by_cases hlt : i < ds.length
  · refine .inr ⟨sq.go _ _ _ s.wk hlt, Inv (i + 1), fun H'' p => ⟨ds.length - (i + 1), by omega, rfl, hlt, p⟩, fun x H'' y => ?_⟩
    obtain ⟨d, hd, e3, hx⟩ := sq.yld _ _ _ _ _ s.wk hlt y
    have s' := s.trans e3
    refine step (Y.add D) i d x H'' hd ((e.trans e2).trans s') hx _ ?_
    rintro σ2 H3 ⟨rfl, hw, pb, hb, hf, ht⟩
    refine ⟨hw, hb.go s'.inv fun b H4 e4 hpb => ?_⟩
    have nD : ¬ (Y.add D).V D := fun z => i2.live D (Y.subV _ z) hD
    have hos : ∀ (o : Option PyData), R i o → ∀ j o', (os ++ [o])[j]? = some o' → R j o' := fun o ho j o' hj => by
      by_cases hj2 : j < os.length
      · rw [List.getElem?_append_left hj2] at hj
        exact h2 j o' hj
      · have e1 : j = os.length := by
          have := (List.getElem?_eq_some_iff.mp hj).1
          simp at this
          omega
        subst e1
        rw [List.getElem?_append_right (Nat.le_refl _)] at hj
        simp at hj
        subst hj
        rw [h1]
        exact ho
    cases b with
    | false =>
      refine iteF ⟨s'.trans e4, os ++ [none], acc, by simp [h1], hos _ (hf hpb), e4.old _ _ nD (e3.old _ _ nD h3), ?_⟩
      rw [List.filterMap_append]
      simp only [List.filterMap_cons, id, List.filterMap_nil, List.append_nil]
      exact (e3.trans e4).upA h4
    | true =>
      refine iteT ((ht hpb) (Y.add D) H4 e4 _ fun y H5 e5 p5 => ?_)
      obtain ⟨z, hz, hy⟩ := p5
      have h45 := (e3.trans e4).trans e5
      have al := h45.upA h4
      refine ⟨acc, h45.old _ _ nD h3, ?_, (s.trans h45).put i2 hD, os ++ [some z], acc ++ [y], by simp [h1], hos _ hz, upd_same, ?_⟩
      · rw [al.len]
        refine Nat.lt_of_le_of_lt (List.length_filterMap_le _ _) ?_
        rw [h1]
        exact Nat.lt_of_lt_of_le hlt (Nat.le_trans hn (by decide))
      · rw [wo_put, List.filterMap_append]
        exact al.app (.cons hy .nil)
  · have e1 : i = ds.length := by omega
    subst e1
    refine .inl ⟨sq.stop _ _ s.wk, q D H' os (free_of e2 hD) (e2.trans s.drop) h1 h2 (.lst ?_ (DxAll.same wo_add _ _ h4))⟩
    rw [wo_out fun z => i2.live D z hD]
    exact h3
theorem fm_sub (f : PyData → PyData) (pr : PyData → Prop) : ∀ (os : List (Option PyData)) (ds : List PyData), os.length = ds.length → (∀ (j : Nat) (o : Option PyData), os[j]? = some o → ∀ d : PyData, ds[j]? = some d → o = none ∨ o = some (f d) ∧ pr d) → ∃ es : List PyData, es.Sublist ds ∧ os.filterMap id = es.map f ∧ ∀ d ∈ es, pr d
  | [], [], _, _ => ⟨[], .slnil, rfl, fun d h => nomatch h⟩
  | o :: os, d :: ds, hl, h => by
    obtain ⟨es, h1, h2, h3⟩ := fm_sub f pr os ds (by simpa using hl) fun j o ho d hd => h (j + 1) o ho d hd
    rcases h 0 o rfl d rfl with rfl | ⟨rfl, hp⟩
    · exact ⟨es, .cons _ h1, h2, h3⟩
    · exact ⟨d :: es, .cons_cons _ h1, by simp only [List.filterMap_cons, id, List.map_cons, h2], fun x hx => by
        rcases List.mem_cons.mp hx with rfl | hx
        · exact hp
        · exact h3 x hx⟩
  | [], _ :: _, hl, _ => by simp at hl
  | _ :: _, [], hl, _ => by simp at hl
/-- [e for x in .. if a drawn test] -/
theorem er_filX {wi : TI} {g : TG} {tt : TT} {vs : List Nat} (f : PyData → PyData) (pr : PyData → Prop) (hs : EvS X wi σ H ds) (hn : ds.length ≤ 40000)
    (step : ∀ (Y : Vol) (i : Nat) (d : PyData) (v : V) (H1 : Hp), ds[i]? = some d → Sub X H Y H1 → Dx (Y.wo H1) v d → Tgt g v (wipe σ vs) H1 fun σ2 H2 => H2 = H1 ∧ wipe σ2 vs = wipe σ vs ∧ ∃ pb, EvTp Y tt σ2 H1 pb ∧ (pb true → pr d ∧ Ev Y te σ2 H1 (vD (f d)))) :
    EvR X (tLc wi g tt te vs) σ H (fun d => ∃ es : List PyData, es.Sublist ds ∧ d = .list (es.map f) ∧ ∀ x ∈ es, pr x) := fun Y H1 e Q q =>
  ev_lcX (fun i o => ∀ d, ds[i]? = some d → o = none ∨ o = some (f d) ∧ pr d) hs hn (fun Y i d v H1 hd s hv Q q => step Y i d v H1 hd s hv Q fun σ2 H2 ⟨h1, h2, pb, h3, h4⟩ => q σ2 H2 ⟨h1, h2, pb, h3, fun _ d' _ => .inl rfl, fun hp => (h4 hp).2.weak fun H v hv => ⟨f d, fun d' hd' => by
    rw [hd] at hd'
    cases hd'
    exact .inr ⟨rfl, (h4 hp).1⟩, hv⟩⟩) Y H1 e Q fun l H2 os n e2 hl ho hd => by
    obtain ⟨es, g1, g2, g3⟩ := fm_sub f pr os ds hl ho
    rw [g2] at hd
    exact q l H2 _ n e2 ⟨es, g1, rfl, g3⟩ hd
/-- what draws while a dict that is walked over is locked -/
theorem er_lock {n : Nat} {a : Addr} {te : TE} {R : PyData → Prop} (hs : σ[n]? = some (some (.ref a))) (hm : (vM ms).at_ (X.wo H) (.ref a))
    (h : ∀ (Y : Vol) (H1 : Hp) (kv : List (Key × V)) (od : Obj), Y.pool = X.pool → Ag (X.wo H) (Y.wo H1) → Y.I H1 → Y.wo H1 a = some (.frz od (.dK kv)) → KvM (Y.wo H1) kv ms → EvR Y te σ H1 R) : EvR X (tLockE te) σ H R := fun Y H1 e Q q => by
  obtain ⟨a', kv, ea, ha, hk⟩ := e.upP hm
  cases ea
  obtain ⟨ha1, haS⟩ := wo_some ha
  refine ⟨a, .dK kv, ha1, True.intro, fun od => ?_⟩
  have ne : ∀ {b : Addr}, Y.S b → b ≠ a := fun hb z => haS (z ▸ hb)
  have iv : Y.I (upd H1 a (.frz od (.dK kv))) := I_upd e.inv ha1 haS
  have ag1 : Ag (Y.wo H1) (Y.wo (upd H1 a (.frz od (.dK kv)))) := ag_lock ha1
  refine h Y _ kv od e.pool ((Ag.of e.wo).trans ag1) iv (by rw [wo_out haS, upd_same]) (hk.ag ag1) Y _ (.refl iv) _ fun l H2 d0 hl e2 rd p2 => ?_
  have f2 : H2 a = some (.frz od (.dK kv)) := e2.old a _ (fun z => haS (Y.subV _ z)) upd_same
  have la : l ≠ a := fun z => by rw [z, upd_same] at hl; cases hl
  rw [upd_ne la] at hl
  refine ⟨f2, q l _ d0 hl ⟨rfl, rfl, fun _ z => z, fun _ z => .inl z, fun b o nb hb => ?_, I_upd e2.inv f2 haS⟩ rd (Dx.ag (ag_free f2) _ _ p2)⟩
  · by_cases hba : b = a
    · subst hba
      rw [upd_same]
      rw [ha1] at hb
      exact hb
    · rw [upd_ne hba]
      exact e2.old b o nb (by rw [upd_ne hba]; exact hb)

/-- dict(..) of a list of pairs that was drawn -/
theorem ev_dictPX {S : Mp → Prop} (h : Ev X te σ H (vX R)) (hR : ∀ d, R d → ∃ ms, d = .list (ms.map dPr) ∧ (ms.map (·.1)).Nodup ∧ S ms) : Ev X (tCB (fun xs H Q => ∃ (a : Addr) (ps : List Addr) (kvs : List (Key × V)), xs = [.ref a] ∧ SqL K H a (ps.map V.ref) ∧ Paired (fun p kv => SqT K H p [kV kv.1, kv.2]) ps kvs ∧ ∀ p, H p = none → Q (.ref p) (upd H p (.dK (mergeK [] kvs)))) (tCons te tNil)) σ H ⟨fun H v => ∃ ms, S ms ∧ (vM ms).at_ H v, fun s ⟨ms, hs, hv⟩ => ⟨ms, hs, (vM ms).mono s hv⟩⟩ := fun Y H1 e Q q => h Y H1 e _ fun v H2 e2 ⟨d, hd, p2⟩ => by
  obtain ⟨ms, rfl, nd, hS⟩ := hR d hd
  cases p2 with
  | lst ea al =>
    obtain ⟨ps, kv, rfl, h1, h2⟩ := pairs_dx (K := K) wo_le al
    refine ⟨_, ps, kv, rfl, SqL.of (wo_le _ _ ea), h1, fun p hp => ?_⟩
    have x := Sub.new (X := Y) (o := .dK (mergeK [] kv)) e2.inv hp
    refine q _ _ (e2.trans x) ⟨ms, hS, p, kv, rfl, ?_, h2.same x.wo⟩
    rw [wo_new e2.inv hp, mergeK_new kv [] (keys_nd h2 nd)]
    rfl
end
/-! ## a dict that is being made -/
def putM (ms : Mp) (k : Int) (d : PyData) : Mp := if (ms.any fun m => decide (m.1 = k)) = true then ms.map fun m => if m.1 = k then (m.1, d) else m else ms ++ [(k, d)]
structure MakM (X : Vol) (H0 : Hp) (d : Addr) (H : Hp) (ms : Mp) : Prop where
  i0 : X.I H0
  fr : H0 d = none
  sub : Sub X H0 (X.add d) H
  ex : ∃ kvs, H d = some (.dK kvs) ∧ KvM ((X.add d).wo H) kvs ms
theorem KvM.put {G : Hp} {kv : List (Key × V)} {ms : Mp} {k : Int} {x : V} {e : PyData} (h : KvM G kv ms) (hx : Dx G x e) : KvM G (putK kv (Sum.inl k) x) (putM ms k e) := by
  have h1 : (kv.any fun p => decide (p.1 = Sum.inl k)) = ms.any fun m => decide (m.1 = k) := by
    induction h with
    | nil => rfl
    | cons a _ ih =>
      rw [List.any_cons, List.any_cons, ih, a.1]
      congr 1
      simp
  unfold putK putM
  rw [h1]
  by_cases hc : (ms.any fun m => decide (m.1 = k)) = true
  · rw [if_pos hc, if_pos hc]
    clear h1 hc
    induction h with
    | nil => exact .nil
    | @cons p m _ _ a _ ih =>
      refine .cons ?_ ih
      by_cases hk : m.1 = k
      · have hk' : p.1 = Sum.inl k := by rw [a.1, hk]
        dsimp only
        rw [if_pos hk', if_pos hk]
        exact ⟨a.1, hx⟩
      · have hk' : ¬ p.1 = Sum.inl k := fun z => hk (by rw [a.1] at z; exact Sum.inl.inj z)
        dsimp only
        rw [if_neg hk', if_neg hk]
        exact a
  · rw [if_neg hc, if_neg hc]
    clear h1 hc
    induction h with
    | nil => exact .cons ⟨rfl, hx⟩ .nil
    | cons a _ ih => exact .cons a ih
section
variable {X Y : Vol} {σ : L2.St} {H H' H0 H1 : Hp} {ms : Mp} {d l : Addr} {te td ty tv : TE} {k : Int} {D : Ends} {tz : TS} {e : PyData}
theorem MakM.start (i : X.I H) (h : H d = none) : MakM X H d (upd H d (.dK [])) [] := ⟨i, h, .add i h, [], upd_same, .nil⟩
theorem MakM.inv (m : MakM X H0 d H ms) : (X.add d).I H := m.sub.inv
theorem MakM.np (m : MakM X H0 d H ms) : ¬ (X.add d).V d := fun z => m.i0.live d (X.subV _ z) m.fr
theorem MakM.ext (m : MakM X H0 d H ms) (e : Ext (X.add d) H H') : MakM X H0 d H' ms := by
  obtain ⟨kvs, h1, h2⟩ := m.ex
  exact ⟨m.i0, m.fr, m.sub.trans e, kvs, e.old _ _ m.np h1, h2.same e.wo⟩
theorem MakM.wkput {o : HO} (m : MakM X H0 d H ms) (p : Pl o := by exact True.intro) : Wk (X.add d) H (X.add d) (upd H d o) := by
  refine ⟨rfl, fun _ z => z, fun _ z => .inl z, fun b u n q => ?_, (m.sub.put m.i0 m.fr p).inv⟩
  rw [upd_ne fun z => n (.inr z)]
  exact q
theorem MakM.wk (m : MakM X H0 d H ms) : Wk X H0 (X.add d) H := m.sub.wk
theorem MakM.done (m : MakM X H0 d H ms) : Ext X H0 H ∧ (vM ms).at_ (X.wo H) (.ref d) := by
  obtain ⟨kvs, h1, h2⟩ := m.ex
  refine ⟨m.sub.drop, d, kvs, rfl, ?_, h2.same wo_add⟩
  rw [wo_out fun z => m.i0.live d z m.fr]
  exact h1
theorem ev_atMM {n : Nat} {v : PyData} (m : MakM X H0 d H ms) (hs : σ[n]? = some (some (.ref d))) (h : Ev (X.add d) ty σ H (vI k)) (hp : getM ms k = some v) : Ev (X.add d) (tDGet (tVar n) ty) σ H (vD v) := fun Y H1 e Q q =>
  ⟨_, hs, h Y H1 e _ fun x H2 e2 p2 => by
    cases p2
    obtain ⟨kvs, h1, h2⟩ := m.ex
    have hv := h2.val k
    rw [hp] at hv
    obtain ⟨x, hx, hd⟩ := hv
    exact ⟨d, x, rfl, (by rw [← hx]; exact DGet.k (k := Sum.inl k) ((e.trans e2).old _ _ m.np h1)), q _ H2 e2 ((e.trans e2).upD hd)⟩⟩
theorem s_putM {n : Nat} (m : MakM X H0 d H ms) (hs : σ[n]? = some (some (.ref d))) (h : Ev (X.add d) te σ H (vD e)) (hk : Ev (X.add d) ty σ H (vI k)) (hl : ms.length ≤ 1000)
    (kk : ∀ H1, MakM X H0 d H1 (putM ms k e) → Wk (X.add d) H (X.add d) H1 → D.nx σ H1) : sDPut (tVar n) ty te D σ H := h.go m.sub.inv fun x H1 e1 px => by
  refine ⟨_, hs, (hk.mono e1).go e1.inv fun y H2 e2 py => ?_⟩
  cases py
  have m2 := m.ext (e1.trans e2)
  obtain ⟨kvs, h1, h2⟩ := m2.ex
  refine ⟨d, _, rfl, DPut.k (k := Sum.inl k) h1 (by rw [h2.len]; exact small1000 hl), kk _ ⟨m2.i0, m2.fr, m2.sub.put m2.i0 m2.fr, _, upd_same, ?_⟩ ((e1.trans e2).wk.trans m2.wkput)⟩
  rw [wo_put]
  exact h2.put (e2.upD px)
theorem q_putM {n : Nat} (m : MakM X H0 d H ms) (hs : σ[n]? = some (some (.ref d))) (h : Ev (X.add d) te σ H (vD e)) (hk : Ev (X.add d) ty σ H (vI k)) (hl : ms.length ≤ 1000)
    (kk : ∀ H1, MakM X H0 d H1 (putM ms k e) → Wk (X.add d) H (X.add d) H1 → tz D σ H1) : tSeq (sDPut (tVar n) ty te) tz D σ H := s_putM (D := { D with nx := tz D }) m hs h hk hl kk
theorem ev_atF {n : Nat} {a : Addr} {kv : List (Key × V)} {od : Obj} {v : PyData} (hs : σ[n]? = some (some (.ref a))) (hf : X.wo H a = some (.frz od (.dK kv))) (hk : KvM (X.wo H) kv ms) (h : Ev X ty σ H (vI k)) (hp : getM ms k = some v) : Ev X (tDGet (tVar n) ty) σ H (vD v) := fun Y H1 e Q q =>
  ⟨_, hs, h Y H1 e _ fun x H2 e2 p2 => by
    cases p2
    have s := e.trans e2
    have hv := (hk.same s.wo).val k
    rw [hp] at hv
    obtain ⟨x, hx, hd⟩ := hv
    exact ⟨a, x, rfl, (by rw [← hx]; exact .inl ⟨kv, Sum.inl k, .inr ⟨od, wo_le _ _ (s.wo _ _ hf)⟩, rfl, rfl⟩), q _ H2 e2 hd⟩⟩
theorem ev_getM {v : PyData} (hd : Ev X td σ H (vM ms)) (h : Ev X ty σ H (vI k)) (hx : Ev X te σ H (vD v)) : Ev X (tDGet2 td ty te) σ H (vD ((getM ms k).getD v)) := fun Y H1 e Q q => hd Y H1 e _ fun y H2 e2 ⟨a, kv, hy, ha, hr⟩ => ⟨a, hy, .inl ⟨kv, .inl (wo_le _ _ ha)⟩, h Y H2 (e.trans e2) _ fun x H3 e3 p3 => hx Y H3 ((e.trans e2).trans e3) _ fun z H4 e4 p4 => by
  cases p3
  have e24 := e3.trans e4
  have hr4 := hr.same e24.wo
  refine ⟨_, DGet.k (k := Sum.inl k) (wo_le _ _ (e24.wo _ _ ha)), q _ H4 (e2.trans e24) ?_⟩
  have hv := hr4.val k
  cases hg : getM ms k with
  | none =>
    rw [hg] at hv
    rw [show valV kv (Sum.inl k) = none from hv]
    exact p4
  | some w =>
    rw [hg] at hv
    obtain ⟨u, hu, hw⟩ := hv
    rw [hu]
    exact hw⟩
end
theorem shaped_word {s : Str} (g : List Int) (hs : PyData.strOk s = true) : SeqAt.shaped (.tuple [.str s, .list (g.map PyData.int)]) = true := by
  have h := lay_ints g
  unfold SeqAt.shaped
  have h1 : (PyData.tuple [.str s, .list (g.map PyData.int)]).canLay0 = true := by simp [PyData.canLay0, PyData.canLayAll0, h.1, hs]
  have h2 : (PyData.tuple [.str s, .list (g.map PyData.int)]).depth ≤ 64 := by simp [PyData.depth, PyData.depthAll, h.2]
  rw [h1, decide_eq_true h2]
  rfl
theorem eqv_word {s : Str} (g : List Int) (hs : PyData.strOk s = true) : PyData.eqv (.tuple [.str s, .list (g.map PyData.int)]) (.tuple [.str s, .list (g.map PyData.int)]) = true := SeqAt.eqv_refl _ (by simp [PyData.canLay0, PyData.canLayAll0, (lay_ints g).1, hs])
theorem st_eq {tz : TS} {D : Ends} {σ σ' : L2.St} {H : Hp} (e : σ = σ') (h : tz D σ' H) : tz D σ H := e ▸ h
end Ee

namespace Ee
open PySem L2
/-! ## more -/
theorem rng_get {n i : Nat} {d : PyData} (h : (dRange 0 n)[i]? = some d) : i < n ∧ d = .int (i : Int) := by
  have hi : i < n := by
    have := (List.getElem?_eq_some_iff.mp h).1
    rw [dRange_len] at this
    exact this
  rw [dRange_get hi] at h
  cases h
  exact ⟨hi, by rw [Int.zero_add]⟩
end Ee

/-! ## Defs that are called where no repr is under way: then repr of lists and tuples has one text -/
namespace Gd
open PySem PySem.Spec PyProof.Rows L2
/-- no list or tuple is being written out around -/
abbrev Quiet (A : Around) : Prop := A.guards = some []
theorem quiet_deeper {A : Around} (h : Quiet A) (env : Env) : Quiet (A.deeper env) := h
theorem quiet_make {A : Around} (h : Quiet A) (C : Addr) (us : List Value) (kw : List (Str × Value)) : Quiet (A.under (.builtin "type.__call__" ⟨.ref C :: us, kw⟩)) := by
  have e : (A.under (.builtin "type.__call__" ⟨.ref C :: us, kw⟩)).guards = A.guards := by
    first | rfl | simp [Around.under, Code.guards, Code.isGuard, pushGuards] | (unfold Around.under; simp [pushGuards, Code.guards]; cases A.guards <;> rfl)
  exact e.trans h
/-- a def's promise where all is quiet -/
structure GOk (P : Program) (w : World) (K : PySem.W.Frag) (mg : Str → Option Value) (base : Heap) (CX : CXT) (k : Nat) (f : Addr) (fd : FuncData) (ps : List Str) (sp : Sp) : Prop where
  len : ∀ vs H Q E, sp vs H Q E → vs.length = ps.length
  go : ∀ (A : Around), Quiet A → ∀ (outer : List Env) (s : Shared) (H : Hp) (args : Args) (us : List Value) (vs : List V) (Q : VK) (E : XK), Room k A → Env0 P w K mg base A outer s H → BindsTo s fd args (ps.zip us) → Vals vs us → sp vs H Q E →
    codeAny (model P w) A (.call (.ref f) args) (CR CX outer P w H s Q E) s
section
variable {P : Program} {w : World} {K : PySem.W.Frag} {mg : Str → Option Value} {base : Heap} {CX : CXT} {k : Nat} {f : Addr} {fd : FuncData} {ps : List Str} {sp : Sp}
theorem GOk.of (F : FnOk P w K mg base CX k f fd ps sp) : GOk P w K mg base CX k f fd ps sp := ⟨F.len, fun A _ => F.run A⟩
theorem GOk.mono {j : Nat} (F : GOk P w K mg base CX j f fd ps sp) (h : j ≤ k) : GOk P w K mg base CX k f fd ps sp :=
  ⟨F.len, fun A q outer s H args us vs Q E r => F.go A q outer s H args us vs Q E (r.mono h)⟩
/-- a def by its body: the body is walked where all is quiet -/
theorem gok_of {x qual : Str} {params : Arguments} {body : List Stmt} {scope : Scope} {dV kV doc pm cdv ct oc : Value} {an od : Option Addr} {osl : Array (Option Value)} {N : List Str}
    (at_ : K.lookup f = some ⟨oc, od, .func (PySem.W.fnOf x qual params body scope dV kV doc pm an cdv ct), osl⟩) (code : PySem.W.codeIn K cdv qual = true) (S : FnScope N ps scope) (len : ∀ vs H Q E, sp vs H Q E → vs.length = ps.length)
    (walk : ∀ (A : Around), Quiet A → ∀ (outer : List Env) (s : Shared) (H : Hp) (vs : List V) (Q : VK) (E : XK), Room k (A.deeper (envOfC qual scope s.heap.objs.size f cdv)) → sp vs H Q E →
      ∃ t, PSs (cxOf CX P w K mg base N qual scope f cdv A outer s H E) body t ∧ t { nx := fun _ H' => Q .non H', rt := Q } (start N vs) H) :
    GOk P w K mg base CX (k + 1) f (PySem.W.fnOf x qual params body scope dV kV doc pm an cdv ct) ps sp where
  len := len
  go := by
    intro A quiet outer s H args us vs Q E room env binds vals hsp
    have n := len _ _ _ _ hsp
    have old : ∀ b o, base.get? b = some o → s.heap.get? b = some o := fun b o e => (env.bs b o e).1
    have inK : K.In s.heap := env.mod.kin.keeps old
    -- each parameter is a local or a cell
    have places : ∀ q ∈ ps.zip us, scope.names.lookup q.1 = some .local ∨ (scope.names.lookup q.1 = some .cell ∧ ((cellsFrom (s.heap.objs.size + 1) scope.names []).lookup q.1).isSome = true) := by
      intro q hq
      obtain ⟨y, v⟩ := q
      have hm := (List.of_mem_zip hq).1
      cases S.par y hm with
      | inl c => exact Or.inl c
      | inr c => exact Or.inr ⟨c, PySem.W.cellsFrom_some _ _ _ (Or.inl c)⟩
    apply codeAny_call_function room.depth (inK _ _ at_) rfl S.co S.gen rfl (PySem.W.codeRec_of inK code)
    apply binds
    refine wpAny_newFunctionEnv_cells S.kind places fun here he s1 inside => ?_
    cases he
    refine ⟨(env.mod.nolimit.keeps old).keeps inside.toInCall.keep, codeAny_func ?_⟩
    obtain ⟨t, derived, wish⟩ := walk A quiet outer s H vs Q E (room.deeper _) hsp
    have I := inv_start (CX := CX) (P := P) (E := E) (mg := mg) (w := w) S room.hd env n vals inside
    refine wpAny_mono (derived.run [] s1 (start N vs) H _ I wish) (fun flow s2 got => ?_) (fun e s2 got => got)
    match flow, got with
    | .ret u, ⟨v, σ', H', J, rv, q⟩ => exact ⟨v, H', J.os, J.bare, J.base, J.hok, rv, q⟩
    | .next, ⟨σ', H', J, q⟩ => exact ⟨V.non, H', J.os, J.bare, J.base, J.hok, rfl, q⟩
    | .brk, ⟨_, _, _, q⟩ => exact q.elim
    | .cont, ⟨_, _, _, q⟩ => exact q.elim
end
/-- the same of a def of the text -/
theorem gok {P : Program} {w : World} {K : PySem.W.Frag} {mg : Str → Option Value} {base : Heap} {CX : CXT} {x qual : Str} {st : Stmt} {f : Addr} {fd : FuncData} {N ps : List Str} {k : Nat} {sp : Sp} (F : Fun K x qual st f fd) (S : FnScope N ps (defScope st)) (len : ∀ vs H Q E, sp vs H Q E → vs.length = ps.length)
    (walk : ∀ (cdv : Value) (A : Around), Quiet A → ∀ (outer : List Env) (s : Shared) (H : Hp) (vs : List V) (Q : VK) (E : XK), Room k (A.deeper (envOfC qual (defScope st) s.heap.objs.size f cdv)) → sp vs H Q E →
      ∃ t, PSs (cxOf CX P w K mg base N qual (defScope st) f cdv A outer s H E) (defBody st) t ∧ t { nx := fun _ H' => Q .non H', rt := Q } (start N vs) H) : GOk P w K mg base CX (k + 1) f fd ps sp := by
  obtain ⟨oc, od, kV, doc, pm, an, cdv, ct, osl, e, lk, hcd⟩ := F.ex
  cases e
  exact gok_of lk hcd S len (walk cdv)
end Gd

namespace Gd
open PySem PySem.Spec PyProof.Rows L2
section
variable {X : Cx} {CX : CXT} {k : Nat} {f : Addr} {fd : FuncData} {ps : List Str} {sp : Sp} {dvs : List V} {ds : List Value} {E : XK} {x : Str} {p pos : Pos} {e : Expr} {es : List Expr} {t : TA}
/-- such a def is run from a body where all is quiet -/
theorem go_fn {pins : List (Addr × Obj)} {σ : L2.St} {H : Hp} {s : Shared} {Q : VK} {us : List Value} {vs : List V} (quiet : Quiet X.A) (F : GOk X.prog X.w X.K X.mg X.base CX k f fd ps sp) (room : Room k X.A) (binds : Binds X.K fd ps ds) (dv : Vals dvs ds) (px : Passes CX X E)
    (I : Inv X pins σ H s) (r : Vals vs us) (h : sp (vs ++ dvs) H Q E) : wpAny (model X.prog X.w) X.A (call (.ref f) us) (EP X pins σ Q) X.xe s := by
  have all := Vals.append r dv
  have n := F.len _ _ _ _ h
  rw [all.length] at n
  have ran := F.go X.A quiet X.stack s H ⟨us, []⟩ (us ++ ds) (vs ++ dvs) Q E room I.env0 (binds s us I.kIn n) all h
  refine wpAny_call (codeAny_mono ran fun out s2 got => ?_)
  match out, got with
  | .error e, got => exact px pins σ H s e s2 I got
  | .ok (.ret u), got => exact I.after got
  | .ok .next, got => exact got.elim
  | .ok .brk, got => exact got.elim
  | .ok .cont, got => exact got.elim
/-- f(e, ..) of such a def -/
theorem pe_go (F : GOk X.prog X.w X.K X.mg X.base CX k f fd ps sp) (quiet : Quiet X.A) (room : Room k X.A) (gl : Gl X x) (mgf : X.mg x = some (.ref f)) (kp : PySem.W.keepIn X.K (.ref f) = true) (binds : Binds X.K fd ps ds) (dv : Vals dvs ds) (px : Passes CX X E)
    (args : PA X (e :: es) t) (nd : (x == ("__debug__" : Str)) = false := by decide) (st : starEach (e :: es) X.env = (false, eval e X.env) :: starEach es X.env := by rfl) (pl : (backTo pos (starEach es X.env)).any (·.1) = false := by rfl) :
    PE X (.Call (.Name x p) (e :: es) [] pos) (tCall sp dvs E t) where
  run := fun pins s σ H Q I h => wpAny_Call_Name_kw (ld_glob I gl mgf (PySem.W.callWith_K (h₀ := X.base) I.ok.mod.kin kp (thn (args.run pos pins s σ H _ I h) fun us s1 got => by
    obtain ⟨vs, H1, I1, r, q⟩ := got
    exact ⟨I1.kIn, go_fn quiet F room binds dv px I1 r q⟩) st pl) nd)
end
/-- a law's end: its def is called where all is quiet -/
theorem law_quiet {P : Program} {w : World} {K : PySem.W.Frag} {mg mb : Str → Option Value} {CX : CXT} {k : Nat} {fa a : Addr} {fd : FuncData} {x : Str} {sp : Sp} {s : Shared} {vs : List Value} {ns : List Int}
    (inK : K.In s.heap) (names : s.heap.Ns mainGlobals mg) (bns : s.heap.Ns builtinsNs mb) (boot : ∀ x : Str, x ≠ "__name__" → mb x = bootBuiltins x) (lim : s.heap.NoLimit) (gens : s.gens = #[])
    (script : s.heap.get? a = some { cls := .type "list", data := .seq vs.toArray }) (isInts : IntsAre vs ns) (few : ns.length ≤ sizeLine) (room : Room k callerA)
    (F : ∀ base : Heap, K.In base → base.Ns mainGlobals mg → GOk P w K mg base CX k fa fd [x] sp) (binds : ∀ (s : Shared) (u : Value), BindsTo s fd ⟨[u], []⟩ [(x, u)])
    (wish : ∀ H : Hp, Only H → SqL K H a (ns.map V.int) → sp [.ref a] H (fun v _ => v = .bl true) fun _ _ _ => False) (noX : ∀ H e s', CX [] H s (fun _ _ _ => False) e s' → False) :
    codeAny (model P w) callerA (.call (.ref fa) ⟨[.ref a], []⟩) (fun r s' => r = .ok (.ret (.bool true)) ∧ OldK s.heap s'.heap ∧ s'.os = s.os ∧ AllBare s'.gens) s := by
  have items := vals_ints isInts
  have short : (ns.map V.int).length ≤ sizeLine := by rw [List.length_map]; exact few
  -- what is tracked: the script, if it is no object of the module
  obtain ⟨H, only, reads, ok, just, free⟩ : ∃ H : Hp, Only H ∧ SqL K H a (ns.map V.int) ∧ HOk P w H s.heap ∧ (∀ b, H b ≠ none → b = a ∧ ∃ u, H b = some (.frz { cls := .type "list", data := .seq vs.toArray } u)) ∧ (H a ≠ none → K.lookup a = none) := by
    cases own : K.lookup a with
    | some o =>
      have same := (inK a o own).symm.trans script
      have same' : o = { cls := .type "list", data := .seq vs.toArray } := Option.some.inj same
      rw [same'] at own
      refine ⟨fun _ => none, fun _ => Or.inl rfl, Or.inr ⟨_, vs.toArray, _, own, rfl, rfl, rfl, ?_, by simpa using items⟩, (fun b u z => nomatch z), fun b z => (z rfl).elim, fun z => (z rfl).elim⟩
      rw [List.size_toArray, isInts.length]
      exact few
    | none =>
      let H : Hp := fun b => if b = a then some (.frz { cls := .type "list", data := .seq vs.toArray } (.lst (ns.map V.int))) else none
      have here : H a = some (.frz { cls := .type "list", data := .seq vs.toArray } (.lst (ns.map V.int))) := if_pos rfl
      have else_ : ∀ b, b ≠ a → H b = none := fun b n => if_neg n
      refine ⟨H, fun b => ?_, Or.inl (Or.inr ⟨_, here⟩), fun b u e => ?_, fun b n => ?_, fun _ => rfl⟩
      · by_cases same : b = a
        · rw [same]; exact Or.inr ⟨_, _, here⟩
        · exact Or.inl (else_ b same)
      · by_cases same : b = a
        · subst same
          rw [here] at e
          cases e
          exact ⟨script, short, vs, _, items, script⟩
        · rw [else_ b same] at e
          cases e
      · by_cases same : b = a
        · rw [same]; exact ⟨rfl, _, here⟩
        · exact (n (else_ b same)).elim
  -- the heap without it
  have notScript : ∀ {b : Addr} {o : Obj}, s.heap.get? b = some o → (∀ it n, o.data ≠ .seq it n) → H b = none := fun {b o} e d => by
    cases q : H b with
    | none => rfl
    | some u =>
      have same := (just b (by rw [q]; exact nofun)).1
      rw [same, script] at e
      cases e
      exact (d _ _ rfl).elim
  have nsBase : ∀ {b : Addr} {m : Str → Option Value}, s.heap.Ns b m → (hidT s.heap H).Ns b m := by
    rintro b m ⟨o, es, ep, e, d, r⟩
    exact ⟨o, es, ep, hidT_get e (notScript e fun it n z => by rw [d] at z; cases z), d, r⟩
  have kBase : K.In (hidT s.heap H) := fun b o e => hidT_get (inK b o e) (by
    cases q : H b with
    | none => rfl
    | some u =>
      have same := (just b (by rw [q]; exact nofun)).1
      rw [same] at e q
      have := free (by rw [q]; exact nofun)
      rw [e] at this
      cases this)
  obtain ⟨mc, lim1, lim2⟩ := lim
  have mod : Mod K mg (hidT s.heap H) := ⟨kBase, nsBase names, ⟨mb, nsBase bns, boot⟩, mc, nsBase lim1, lim2⟩
  have env : Env0 P w K mg (hidT s.heap H) callerA [] s H :=
    { frames := rfl, mod := mod, bs := fun b o e => of_hidT e, bsz := Nat.le_of_eq (hidT_size s.heap H), funs := True.intro, frf := fun b z => (List.not_mem_nil z).elim, hok := ok, bare := AllBare.of_eq gens }
  refine codeAny_mono ((F _ kBase (nsBase names)).go callerA rfl [] s H ⟨[.ref a], []⟩ [.ref a] [.ref a] _ _ room env (binds s (.ref a)) (Paired.cons rfl Paired.nil) (wish H only reads)) fun out s2 got => ?_
  match out, got with
  | .error e, got => exact (noX H e s2 got).elim
  | .ok .next, got => exact got.elim
  | .ok .brk, got => exact got.elim
  | .ok .cont, got => exact got.elim
  | .ok (.ret u), ⟨v, H2, os, bare, un, ok2, rv, yes⟩ =>
    have e1 : v = V.bl true := yes
    subst e1
    have e2 : u = Value.bool true := rv
    subst e2
    refine ⟨rfl, OldK.of_keep fun b o e => ?_, os, bare⟩
    cases q : H b with
    | none => exact un.keep b o e q List.not_mem_nil List.not_mem_nil
    | some u =>
      obtain ⟨_, u', e3⟩ := just b (by rw [q]; exact nofun)
      obtain ⟨g1, _⟩ := ok b _ e3
      obtain ⟨g2, _⟩ := ok2 b _ (un.frzs b _ _ e3)
      rw [e] at g1
      rw [g2, Option.some.inj g1]
/-- the walk's goal, from the law's promise -/
theorem walk_quiet {l : PySem.W.OpenLaw} {n k : Nat} {q : Program} {loose : List Str} {XP : (Str → Option Value) → Heap → Prop} {YP : World → Heap → Prop} {d : DefRec} {K : Params → PySem.W.Frag} {CX : World → CXT} {sp : World → Sp} {x : Str}
    (most : l.most = some n) (nz : n ≤ sizeLine) (nodef : d.params.defaults = []) (room : Room k callerA) (inK : ∀ (w : World) (h : Heap), YP w h → (K w.params).In h)
    (F : ∀ (w : World) (mg : Str → Option Value) (fa : Addr) (h : Heap), (K w.params).In h → h.Ns mainGlobals mg → mg d.name = some (.ref fa) →
      ∃ fd : FuncData, (∀ (s : Shared) (u : Value), BindsTo s fd ⟨[u], []⟩ [(x, u)]) ∧ ∀ base : Heap, (K w.params).In base → base.Ns mainGlobals mg → GOk l.prog w (K w.params) mg base (CX w) k fa fd [x] (sp w))
    (wish : ∀ (w : World) (H : Hp) (a : Addr) (ns : List Int), ns.length ≤ n → Only H → SqL (K w.params) H a (ns.map V.int) → sp w [.ref a] H (fun v _ => v = .bl true) fun _ _ _ => False)
    (noX : ∀ (w : World) (H : Hp) (s : Shared) (e : Value) (s' : Shared), CX w [] H s (fun _ _ _ => False) e s' → False) : PySem.W.WalkO q loose XP YP l.row.toRowW d [] (fun f vs => PySem.call f vs) := by
  apply Att.attach_call most nodef
  intro w s₀ s₁ mg mb fa o pm cd doc a vs ns G Y ho hd hcd hmg hobj hints hlen hg
  obtain ⟨fd, binds, made⟩ := F w mg fa _ (inK w _ Y) G.T.g hmg
  exact law_quiet (inK w _ Y) G.T.g G.T.b G.T.builtins G.T.nolimit hg hobj hints (Nat.le_trans hlen nz) room made binds (fun H only reads => wish w H a ns hlen only reads) (fun H e s' => noX w H s₁ e s')
end Gd

namespace Gd
open PySem PySem.Spec PyProof.Rows L2
/-- data that can be written out: its text fits -/
def Shown (K : PySem.W.Frag) (H : Hp) (x : V) (d : PyData) : Prop := Dp K H x d ∧ d.showable = true ∧ d.hasDict = false ∧ d.depth ≤ 64 ∧ d.shown.length ≤ sizeLine
section
variable {X : Cx}
/-- repr(data) where all is quiet -/
theorem call_reprD (quiet : Quiet X.A) (hu : X.A.units + 70 < cLine) : CallR X (.builtin "repr") (fun xs H Q => ∃ x d, xs = [x] ∧ Shown X.K H x d ∧ Q (.str d.shown) H) := by
  intro pins s σ H xs us Q I r h
  obtain ⟨x, d, rfl, ⟨dp, sh, nd, dep, fit⟩, q⟩ := h
  cases r with
  | cons r1 r2 =>
    rename_i u us'
    cases r2
    obtain ⟨as, rd⟩ := dp.reads I d x u r1
    cases dp with
    | non => cases r1; exact P.repr_of_none ⟨.str _, H, I.tok _, ⟨_, rfl⟩, q⟩
    | bl b => cases r1; exact P.repr_of_bool ⟨.str _, H, I.tok _, ⟨_, rfl⟩, q⟩
    | int i => obtain ⟨t, rfl⟩ := r1; exact P.repr_of_int (of_decide_eq_true sh) ⟨.str _, H, I.tok _, ⟨_, rfl⟩, q⟩
    | str z => obtain ⟨t, rfl⟩ := r1; exact P.repr_of_str ⟨.str _, H, I.tok _, ⟨_, rfl⟩, q⟩ fit
    | lst h1 h2 => cases r1; exact repr_of_reads' rd sh (PyData.noDict_hsm nd) quiet (by omega) (fun _ _ e => e) (fun h' v tk k => ⟨.str _, H, I.kept (t' := tk) k, ⟨_, rfl⟩, q⟩) fit
    | tup h1 h2 => cases r1; exact repr_of_reads' rd sh (PyData.noDict_hsm nd) quiet (by omega) (fun _ _ e => e) (fun h' v tk k => ⟨.str _, H, I.kept (t' := tk) k, ⟨_, rfl⟩, q⟩) fit
end
end Gd

namespace Gd
open PySem PySem.Spec PyProof.Rows L2
/-- a law's end with tables of code objects: its def is called where all is quiet; cs: code objects, each with its table -/
theorem law_quietT {P : Program} {w : World} {K : PySem.W.Frag} {mg mb : Str → Option Value} {CX : CXT} {k : Nat} {fa a : Addr} {cs : List (Addr × Addr)} {fd : FuncData} {x : Str} {sp : Sp} {s : Shared} {vs : List Value} {ns : List Int}
    (inK : K.In s.heap) (names : s.heap.Ns mainGlobals mg) (bns : s.heap.Ns builtinsNs mb) (boot : ∀ x : Str, x ≠ "__name__" → mb x = bootBuiltins x) (lim : s.heap.NoLimit) (gens : s.gens = #[])
    (tabAt : ∀ p ∈ cs, s.heap.get? p.2 = some { cls := .none, data := .fields #[] }) (notK : ∀ p ∈ cs, K.lookup p.2 = none) (codes : ∀ p ∈ cs, PySem.W.CodeHd s.heap p.1 p.2)
    (bmain : ∃ (bm : Addr) (ob : Obj), mg "__builtins__" = some (.ref bm) ∧ bm ≠ builtinsNs ∧ s.heap.get? bm = some ob ∧ ob.cls = .type "module" ∧ ob.dict = some builtinsNs ∧ ob.data = .plain)
    (script : s.heap.get? a = some { cls := .type "list", data := .seq vs.toArray }) (isInts : IntsAre vs ns) (few : ns.length ≤ sizeLine) (room : Room k callerA)
    (F : ∀ base : Heap, K.In base → base.Ns mainGlobals mg → (∀ p ∈ cs, LamX.TabB base mg p.1 p.2) → GOk P w K mg base CX k fa fd [x] sp) (binds : ∀ (s : Shared) (u : Value), BindsTo s fd ⟨[u], []⟩ [(x, u)])
    (wish : ∀ H : Hp, (∀ p ∈ cs, H p.2 = some (.tbl #[])) → SqL K H a (ns.map V.int) → sp [.ref a] H (fun v _ => v = .bl true) fun _ _ _ => False) (noX : ∀ H e s', CX [] H s (fun _ _ _ => False) e s' → False) :
    codeAny (model P w) callerA (.call (.ref fa) ⟨[.ref a], []⟩) (fun r s' => r = .ok (.ret (.bool true)) ∧ OldK s.heap s'.heap ∧ s'.os = s.os ∧ AllBare s'.gens) s := by
  have items := vals_ints isInts
  have short : (ns.map V.int).length ≤ sizeLine := by rw [List.length_map]; exact few
  have table : ∀ b, b ∈ cs.map (·.2) → s.heap.get? b = some { cls := .none, data := .fields #[] } := fun b hb => by
    obtain ⟨p, hp, rfl⟩ := List.mem_map.mp hb
    exact tabAt p hp
  have listed : ∀ p ∈ cs, p.2 ∈ cs.map (·.2) := fun p hp => List.mem_map_of_mem hp
  have apart : a ∉ cs.map (·.2) := fun z => by
    have two := (table a z).symm.trans script
    cases two
  -- what is tracked: the tables; the script too, if it is no object of the module
  obtain ⟨H, reads, ok, just, tracked⟩ : ∃ H : Hp, SqL K H a (ns.map V.int) ∧ HOk P w H s.heap ∧
      (∀ b u, H b = some u → (b = a ∧ K.lookup a = none ∧ ∃ v, u = .frz { cls := .type "list", data := .seq vs.toArray } v) ∨ (b ∈ cs.map (·.2) ∧ u = .tbl #[])) ∧ ∀ p ∈ cs, H p.2 = some (.tbl #[]) := by
    cases own : K.lookup a with
    | some o =>
      have same := (inK a o own).symm.trans script
      have same' : o = { cls := .type "list", data := .seq vs.toArray } := Option.some.inj same
      rw [same'] at own
      let H : Hp := fun b => if b ∈ cs.map (·.2) then some (.tbl #[]) else none
      have only : ∀ b u, H b = some u → b ∈ cs.map (·.2) ∧ u = .tbl #[] := fun b u e => by
        by_cases hb : b ∈ cs.map (·.2)
        · exact ⟨hb, (Option.some.inj ((if_pos hb).symm.trans e)).symm⟩
        · exact nomatch ((if_neg hb).symm.trans e)
      refine ⟨H, Or.inr ⟨_, vs.toArray, _, own, rfl, rfl, rfl, ?_, by simpa using items⟩, fun b u e => ?_, fun b u e => Or.inr (only b u e), fun p hp => if_pos (listed p hp)⟩
      · rw [List.size_toArray, isInts.length]
        exact few
      · obtain ⟨hb, rfl⟩ := only b u e
        exact table b hb
    | none =>
      let H : Hp := fun b => if b = a then some (.frz { cls := .type "list", data := .seq vs.toArray } (.lst (ns.map V.int))) else if b ∈ cs.map (·.2) then some (.tbl #[]) else none
      have only : ∀ b u, H b = some u → (b = a ∧ u = .frz { cls := .type "list", data := .seq vs.toArray } (.lst (ns.map V.int))) ∨ (b ∈ cs.map (·.2) ∧ u = .tbl #[]) := fun b u e => by
        by_cases ha : b = a
        · exact Or.inl ⟨ha, (Option.some.inj ((if_pos ha).symm.trans e)).symm⟩
        · have e2 := (if_neg ha).symm.trans e
          by_cases hb : b ∈ cs.map (·.2)
          · exact Or.inr ⟨hb, (Option.some.inj ((if_pos hb).symm.trans e2)).symm⟩
          · exact nomatch ((if_neg hb).symm.trans e2)
      refine ⟨H, Or.inl (Or.inr ⟨_, if_pos rfl⟩), fun b u e => ?_, fun b u e => ?_, fun p hp => ?_⟩
      · rcases only b u e with ⟨rfl, rfl⟩ | ⟨hb, rfl⟩
        · exact ⟨script, short, vs, _, items, script⟩
        · exact table b hb
      · rcases only b u e with ⟨rfl, rfl⟩ | r
        · exact Or.inl ⟨rfl, rfl, _, rfl⟩
        · exact Or.inr r
      · have n : p.2 ≠ a := fun z => apart (z ▸ listed p hp)
        exact (if_neg n).trans (if_pos (listed p hp))
  -- the heap without them
  have untouched : ∀ {b : Addr} {o : Obj}, s.heap.get? b = some o → (∀ it n, o.data ≠ .seq it n) → o.data ≠ .fields #[] → H b = none := fun {b o} e d1 d2 => by
    cases q : H b with
    | none => rfl
    | some u =>
      rcases just b u q with ⟨rfl, _⟩ | ⟨hb, _⟩
      · rw [script] at e
        cases e
        exact (d1 _ _ rfl).elim
      · rw [table b hb] at e
        cases e
        exact (d2 rfl).elim
  have stays : ∀ {b : Addr} {o : Obj}, s.heap.get? b = some o → (∀ it n, o.data ≠ .seq it n) → o.data ≠ .fields #[] → (hidT s.heap H).get? b = some o := fun e d1 d2 => hidT_get e (untouched e d1 d2)
  have nsBase : ∀ {b : Addr} {m : Str → Option Value}, s.heap.Ns b m → (hidT s.heap H).Ns b m := by
    rintro b m ⟨o, es, ep, e, d, r⟩
    exact ⟨o, es, ep, stays e (fun it n z => by rw [d] at z; cases z) (fun z => by rw [d] at z; cases z), d, r⟩
  have kBase : K.In (hidT s.heap H) := fun b o e => hidT_get (inK b o e) (by
    cases q : H b with
    | none => rfl
    | some u =>
      rcases just b u q with ⟨rfl, none, _⟩ | ⟨hb, _⟩
      · rw [none] at e; cases e
      · obtain ⟨p, hp, rfl⟩ := List.mem_map.mp hb
        rw [notK p hp] at e; cases e)
  have tabBase : ∀ p ∈ cs, LamX.TabB (hidT s.heap H) mg p.1 p.2 := fun p hp => by
    have here := tabAt p hp
    refine ⟨?_, ?_, fun z => ?_⟩
    · obtain ⟨o, us, file, tf, flags, tg, inF, text, tt, e1, r1, r2, r3, r⟩ := codes p hp
      exact ⟨o, us, file, tf, flags, tg, inF, text, tt, stays e1 (fun it n z => by rw [r2] at z; cases z) (fun z => by rw [r2] at z; cases z; simp at r3), r1, r2, r3, r⟩
    · obtain ⟨bm, ob, b1, b2, b3, b4, b5, b6⟩ := bmain
      refine ⟨bm, ob, b1, b2, fun z => ?_, fun z => ?_, stays b3 (fun it n z => by rw [b6] at z; cases z) (fun z => by rw [b6] at z; cases z), b4, b5, b6⟩
      · obtain ⟨o, es, ep, e, d, _⟩ := names
        rw [z, e] at b3
        cases b3
        rw [d] at b6
        cases b6
      · rw [z, here] at b3
        cases b3
        cases b6
    · obtain ⟨o, es, ep, e, d, _⟩ := names
      rw [z, here] at e
      cases e
      cases d
  obtain ⟨mc, lim1, lim2⟩ := lim
  have mod : Mod K mg (hidT s.heap H) := ⟨kBase, nsBase names, ⟨mb, nsBase bns, boot⟩, mc, nsBase lim1, lim2⟩
  have env : Env0 P w K mg (hidT s.heap H) callerA [] s H :=
    { frames := rfl, mod := mod, bs := fun b o e => of_hidT e, bsz := Nat.le_of_eq (hidT_size s.heap H), funs := True.intro, frf := fun b z => (List.not_mem_nil z).elim, hok := ok, bare := AllBare.of_eq gens }
  refine codeAny_mono ((F _ kBase (nsBase names) tabBase).go callerA rfl [] s H ⟨[.ref a], []⟩ [.ref a] [.ref a] _ _ room env (binds s (.ref a)) (Paired.cons rfl Paired.nil) (wish H tracked reads)) fun out s2 got => ?_
  match out, got with
  | .error e, got => exact (noX H e s2 got).elim
  | .ok .next, got => exact got.elim
  | .ok .brk, got => exact got.elim
  | .ok .cont, got => exact got.elim
  | .ok (.ret u), ⟨v, H2, os, bare, un, ok2, rv, yes⟩ =>
    have e1 : v = V.bl true := yes
    subst e1
    have e2 : u = Value.bool true := rv
    subst e2
    have rest : ∀ b o, b ∉ cs.map (·.2) → s.heap.get? b = some o → s2.heap.get? b = some o := fun b o n e => by
      cases q : H b with
      | none => exact un.keep b o e q List.not_mem_nil List.not_mem_nil
      | some u =>
        rcases just b u q with ⟨rfl, _, v, rfl⟩ | ⟨hb, _⟩
        · obtain ⟨g1, _⟩ := ok b _ q
          obtain ⟨g2, _⟩ := ok2 b _ (un.frzs b _ _ q)
          rw [e] at g1
          rw [g2, Option.some.inj g1]
        · exact (n hb).elim
    have grown : ∀ p ∈ cs, ∃ more : Array Value, s2.heap.get? p.2 = some { cls := .none, data := .fields more } := fun p hp => by
      obtain ⟨more, z⟩ := un.tbls p.2 #[] (tracked p hp)
      exact ⟨_, ok2 p.2 _ z⟩
    refine ⟨rfl, ⟨fun b o e => ?_, fun b o e => ?_⟩, os, bare⟩
    · by_cases hb : b ∈ cs.map (·.2)
      · obtain ⟨p, hp, rfl⟩ := List.mem_map.mp hb
        obtain ⟨more, hm⟩ := grown p hp
        rw [tabAt p hp] at e
        cases e
        exact Or.inr (Or.inl ⟨((codes p hp).tab (tabAt p hp)).isCodeTable, rfl, #[], more, rfl, by rw [Array.empty_append]; exact hm⟩)
      · exact Or.inl (rest b o hb e)
    · by_cases hb : b ∈ cs.map (·.2)
      · obtain ⟨p, hp, rfl⟩ := List.mem_map.mp hb
        obtain ⟨more, hm⟩ := grown p hp
        exact ⟨_, hm⟩
      · exact ⟨o, rest b o hb e⟩
/-- what the head's heap h tells of the law's promise: how the law binds, the tables of the code objects that make lambdas, what is wished of the promise, the promise -/
def QuietAt (l : PySem.W.OpenLaw) (w : World) (K : PySem.W.Frag) (CX : CXT) (k n : Nat) (x : Str) (mg : Str → Option Value) (fa : Addr) (h : Heap) : Prop :=
  ∃ (fd : FuncData) (cs : List (Addr × Addr)) (sp : Sp),
    (∀ (s : Shared) (u : Value), BindsTo s fd ⟨[u], []⟩ [(x, u)]) ∧
    (∀ p ∈ cs, PySem.W.CodeHd h p.1 p.2 ∧ K.lookup p.2 = none ∧ h.get? p.2 = some { cls := .none, data := .fields #[] }) ∧
    (∀ (H : Hp) (a : Addr) (ns : List Int), (∀ p ∈ cs, H p.2 = some (.tbl #[])) → SqL K H a (ns.map V.int) → ns.length ≤ n → sp [.ref a] H (fun v _ => v = .bl true) fun _ _ _ => False) ∧
    ∀ base : Heap, base.Ns mainGlobals mg → K.In base → (∀ p ∈ cs, LamX.TabB base mg p.1 p.2) → GOk l.prog w K mg base CX k fa fd [x] sp
theorem walk_quietT {l : PySem.W.OpenLaw} {n k : Nat} {q : Program} {loose : List Str} {XP : (Str → Option Value) → Heap → Prop} {YP : World → Heap → Prop} {d : DefRec} {K : Params → PySem.W.Frag} {CX : World → CXT} {x : Str}
    (most : l.most = some n) (nz : n ≤ sizeLine) (nodef : d.params.defaults = []) (room : Room k callerA) (inK : ∀ (w : World) (h : Heap), YP w h → (K w.params).In h)
    (F : ∀ (w : World) (mg : Str → Option Value) (fa : Addr) (h : Heap), YP w h → (K w.params).In h → h.Ns mainGlobals mg → mg d.name = some (.ref fa) → QuietAt l w (K w.params) (CX w) k n x mg fa h)
    (noX : ∀ (w : World) (H : Hp) (s : Shared) (e : Value) (s' : Shared), CX w [] H s (fun _ _ _ => False) e s' → False) : PySem.W.WalkO q loose XP YP l.row.toRowW d [] (fun f vs => PySem.call f vs) := by
  apply Att.attach_call most nodef
  intro w s₀ s₁ mg mb fa o pm cd doc a vs ns G Y ho hd hcd hmg hobj hints hlen hg
  obtain ⟨fd, cs, sp, binds, tabs, wish, made⟩ := F w mg fa _ Y (inK w _ Y) G.T.g hmg
  exact law_quietT (inK w _ Y) G.T.g G.T.b G.T.builtins G.T.nolimit hg (fun p hp => (tabs p hp).2.2) (fun p hp => (tabs p hp).2.1) (fun p hp => (tabs p hp).1) G.T.bmain hobj hints (Nat.le_trans hlen nz) room (fun base i m t => made base m i t) binds (fun H t reads => wish H a ns t reads hlen) (fun H e s' => noX w H s₁ e s')
end Gd

namespace Gd
open PySem PySem.Spec PyProof.Rows L2
theorem walk_quietT2 {l : PySem.W.OpenLaw} {n k : Nat} {q : Program} {loose : List Str} {XP : (Str → Option Value) → Heap → Prop} {YP : World → Heap → Prop} {d : DefRec} {K : Params → PySem.W.Frag} {CX : World → CXT} {x : Str}
    (most : l.most = some n) (nz : n ≤ sizeLine) (nodef : d.params.defaults = []) (room : Room k callerA) (inK : ∀ (w : World) (h : Heap), YP w h → (K w.params).In h)
    (F : ∀ (w : World) (mg mb : Str → Option Value) (fa : Addr) (h : Heap), YP w h → (K w.params).In h → (∃ mean, Top q (PySem.W.looseW q loose) mean mg mb h) → mg d.name = some (.ref fa) → QuietAt l w (K w.params) (CX w) k n x mg fa h)
    (noX : ∀ (w : World) (H : Hp) (s : Shared) (e : Value) (s' : Shared), CX w [] H s (fun _ _ _ => False) e s' → False) : PySem.W.WalkO q loose XP YP l.row.toRowW d [] (fun f vs => PySem.call f vs) := by
  apply Att.attach_call most nodef
  intro w s₀ s₁ mg mb fa o pm cd doc a vs ns G Y ho hd hcd hmg hobj hints hlen hg
  obtain ⟨fd, cs, sp, binds, tabs, wish, made⟩ := F w mg mb fa _ Y (inK w _ Y) ⟨_, G.T⟩ hmg
  exact law_quietT (inK w _ Y) G.T.g G.T.b G.T.builtins G.T.nolimit hg (fun p hp => (tabs p hp).2.2) (fun p hp => (tabs p hp).2.1) (fun p hp => (tabs p hp).1) G.T.bmain hobj hints (Nat.le_trans hlen nz) room (fun base i m t => made base m i t) binds (fun H t reads => wish H a ns t reads hlen) (fun H e s' => noX w H s₁ e s')
end Gd

namespace Ee
open PySem L2
/-! ## texts of data -/
structure Tx (B k : Nat) (d : PyData) : Prop where
  ls : d.leavesShort 120 = true
  bk : d.bulk ≤ B
  sh : d.showable = true
  nd : d.hasDict = false
  dp : d.depth ≤ k
structure TxL (B k : Nat) (ds : List PyData) : Prop where
  ls : PyData.leavesShortAll 120 ds = true
  bk : PyData.bulkAll ds ≤ B
  sh : PyData.showableAll ds = true
  nd : PyData.hasDictAll ds = false
  dp : PyData.depthAll ds ≤ k
theorem Tx.mono {B B' k k' : Nat} {d : PyData} (h : Tx B k d) (a : B ≤ B') (b : k ≤ k') : Tx B' k' d := ⟨h.ls, Nat.le_trans h.bk a, h.sh, h.nd, Nat.le_trans h.dp b⟩
theorem TxL.mono {B B' k k' : Nat} {ds : List PyData} (h : TxL B k ds) (a : B ≤ B') (b : k ≤ k') : TxL B' k' ds := ⟨h.ls, Nat.le_trans h.bk a, h.sh, h.nd, Nat.le_trans h.dp b⟩
theorem TxL.nil : TxL 0 0 [] := ⟨by simp [PyData.leavesShortAll], by simp [PyData.bulkAll], by simp [PyData.showableAll], by simp [PyData.hasDictAll], by simp [PyData.depthAll]⟩
theorem TxL.cons {A B k l : Nat} {d : PyData} {ds : List PyData} (h : Tx A k d) (t : TxL B l ds) : TxL (A + 1 + B) (max k l) (d :: ds) := by
  refine ⟨?_, ?_, ?_, ?_, ?_⟩
  · rw [PyData.leavesShortAll, h.ls, t.ls]; rfl
  · rw [PyData.bulkAll]; have := h.bk; have := t.bk; omega
  · rw [PyData.showableAll, h.sh, t.sh]; rfl
  · rw [PyData.hasDictAll, h.nd, t.nd]; rfl
  · rw [PyData.depthAll]; have := h.dp; have := t.dp; omega
theorem TxL.of {B k : Nat} : ∀ {ds : List PyData}, (∀ d ∈ ds, Tx B k d) → TxL (ds.length * (B + 1)) k ds
  | [], _ => (TxL.nil).mono (Nat.zero_le _) (Nat.zero_le _)
  | d :: ds, h => by
    refine (TxL.cons (h d (by simp)) (TxL.of (ds := ds) fun e he => h e (by simp [he]))).mono ?_ (by omega)
    rw [List.length_cons, Nat.add_mul]
    omega
theorem Tx.lst {B k : Nat} {ds : List PyData} (h : TxL B k ds) : Tx B (k + 1) (.list ds) := by
  refine ⟨?_, ?_, ?_, ?_, ?_⟩
  · rw [PyData.leavesShort]; exact h.ls
  · rw [PyData.bulk]; exact h.bk
  · rw [PyData.showable]; exact h.sh
  · rw [PyData.hasDict]; exact h.nd
  · rw [PyData.depth]; have := h.dp; omega
theorem Tx.tup {B k : Nat} {ds : List PyData} (h : TxL B k ds) : Tx B (k + 1) (.tuple ds) := by
  refine ⟨?_, ?_, ?_, ?_, ?_⟩
  · rw [PyData.leavesShort]; exact h.ls
  · rw [PyData.bulk]; exact h.bk
  · rw [PyData.showable]; exact h.sh
  · rw [PyData.hasDict]; exact h.nd
  · rw [PyData.depth]; have := h.dp; omega
theorem Tx.int {i : Int} (h : i.natAbs < 10 ^ 100) : Tx 0 0 (.int i) := by
  refine ⟨?_, by simp [PyData.bulk], ?_, by simp [PyData.hasDict], by simp [PyData.depth]⟩
  · have e := int_text_length_le10 (k := 100) (by decide) h
    simp only [PyData.leavesShort, decide_eq_true_eq]
    show (Str.ofString (toString i)).length ≤ 120
    rw [ofString_length]
    omega
  · simp only [PyData.showable, decide_eq_true_eq]
    by_cases h0 : i.natAbs = 0
    · rw [h0]; decide
    · exact (Nat.log2_lt h0).mpr (Nat.lt_of_lt_of_le h (by decide +kernel))
theorem Tx.num {i : Int} (h : -(10 ^ 40) ≤ i) (h2 : i ≤ 10 ^ 40) : Tx 0 0 (.int i) := Tx.int (Nat.lt_of_le_of_lt (show i.natAbs ≤ 10 ^ 40 by omega) (by decide +kernel))
theorem Tx.non : Tx 0 0 .none := ⟨by simp [PyData.leavesShort], by simp [PyData.bulk], by simp [PyData.showable], by simp [PyData.hasDict], by simp [PyData.depth]⟩
theorem Tx.bl (b : Bool) : Tx 0 0 (.bool b) := ⟨by simp [PyData.leavesShort], by simp [PyData.bulk], by simp [PyData.showable], by simp [PyData.hasDict], by simp [PyData.depth]⟩
theorem Tx.str {B : Nat} {x : Str} (h : (x.cps.toList.all fun c => decide (c < 16 ^ 8)) = true) (s : x.cps.size ≤ B) : Tx B 0 (.str x) := ⟨by rw [PyData.leavesShort]; exact h, by rw [PyData.bulk]; exact s, by simp [PyData.showable], by simp [PyData.hasDict], by simp [PyData.depth]⟩
theorem Tx.fits {B k : Nat} {d : PyData} (h : Tx B k d) (b : B ≤ 100000) : d.shown.length ≤ sizeLine := by
  have e := PyData.shown_le_bulk 120 (by decide) d h.ls
  have h2 : (120 + 2) * d.bulk ≤ 122 * 100000 := Nat.mul_le_mul (by decide) (Nat.le_trans h.bk b)
  rw [sizeLine_eq]
  omega
theorem tx_ints {l : List Int} (h : ∀ x ∈ l, -(10 ^ 40) ≤ x ∧ x ≤ 10 ^ 40) : Tx l.length 1 (.list (l.map PyData.int)) := by
  have := TxL.of (B := 0) (k := 0) (ds := l.map PyData.int) fun d hd => by
    obtain ⟨x, hx, rfl⟩ := List.mem_map.mp hd
    exact .num (h x hx).1 (h x hx).2
  rw [List.length_map] at this
  exact Tx.lst (this.mono (by omega) (Nat.le_refl _))
theorem tx_nats {l : List Nat} (h : ∀ x ∈ l, x ≤ 1000000) : Tx l.length 1 (.list (l.map dN)) := by
  have := TxL.of (B := 0) (k := 0) (ds := l.map dN) fun d hd => by
    obtain ⟨x, hx, rfl⟩ := List.mem_map.mp hd
    have := h x hx
    exact .num (by omega) (by omega)
  rw [List.length_map] at this
  exact Tx.lst (this.mono (by omega) (Nat.le_refl _))
def rRepr (K : PySem.W.Frag) : List V → Hp → VK → Prop := fun xs H Q => ∃ x d, xs = [x] ∧ Gd.Shown K H x d ∧ Q (.str d.shown) H
theorem call_reprR {X : Cx} {K : PySem.W.Frag} (quiet : Gd.Quiet X.A) (hu : X.A.units + 70 < cLine) (e : X.K = K := by rfl) : CallR X (.builtin "repr") (rRepr K) := by
  subst e
  exact Gd.call_reprD quiet hu
theorem room_repr {k : Nat} {A : Around} (r : Room k A) : A.units + 70 < cLine := by have := r.un; omega
section
variable {X : Vol} {σ : L2.St} {H : Hp} {te : TE} {K : Fr} {d : PyData} {B k : Nat}
theorem ev_repr (h : Ev X te σ H (vD d)) (t : Tx B k d) (hB : B ≤ 100000) (hk : k ≤ 64) : Ev X (tCB (rRepr K) (tCons te tNil)) σ H (vD (.str d.shown)) := fun Y H1 e Q q => h Y H1 e _ fun v H2 e2 p2 =>
  ⟨v, d, rfl, ⟨Dx.dp _ _ (Dx.same wo_le _ _ p2) t.nd, t.sh, t.nd, Nat.le_trans t.dp hk, t.fits hB⟩, q _ H2 e2 (.str _)⟩
end
/-- a def that is called where no repr is under way -/
structure DfG (P : Program) (w : World) (K : PySem.W.Frag) (mg : Str → Option Value) (base : Heap) (k : Nat) (x : Str) (ps : List Str) (sp : Sp) : Prop where
  ex : ∃ (g : Addr) (gd : FuncData), Gd.GOk P w K mg base CX0 k g gd ps sp ∧ mg x = some (.ref g) ∧ PySem.W.keepIn K (.ref g) = true ∧ Binds K gd ps []
end Ee

namespace Ee
open PySem L2
/-! ## rules by typed lists -/
section
variable {X Y : Vol} {σ : L2.St} {H H' H0 H1 : Hp} {ta tb tc te tl : TE} {t u tt : TT} {P P' : VP} {K : Fr} {i j k : Int} {b : Bool} {d e : PyData} {ds es : List PyData} {D : Ends} {tz ty tw : TS} {α β : Type} {l : List α} {dd : α → PyData} {p : Addr} {wi : TI} {g : TG} {vs : List Nat}
theorem getT {i : Nat} {d : PyData} (h : (l.map dd)[i]? = some d) : ∃ a, l[i]? = some a ∧ d = dd a := by
  rw [List.getElem?_map] at h
  obtain ⟨a, ha, rfl⟩ := Option.map_eq_some_iff.mp h
  exact ⟨a, ha, rfl⟩
theorem dRange_nat (n : Nat) : dRange 0 n = (List.range n).map dN := by
  unfold dRange
  exact List.map_congr_left fun k _ => congrArg PyData.int (Int.zero_add _)
theorem es_rngN {n : Nat} (h : Ev X te σ H (vI (n : Int))) (hn : n ≤ 40000) : EvS X (iRng1 (tCons te tNil)) σ H ((List.range n).map dN) := by
  have := es_rng1 h (by omega) (by omega)
  rwa [Int.toNat_natCast, dRange_nat] at this
theorem es_rngI {n : Nat} (h : Ev X te σ H (vI i)) (hi : i = (n : Int)) (hn : n ≤ 40000) : EvS X (iRng1 (tCons te tNil)) σ H ((List.range n).map dN) := by
  subst hi
  exact es_rngN h hn
theorem es_cast (h : EvS X wi σ H ds) (e : ds = es) : EvS X wi σ H es := e ▸ h
theorem es_enumT (h : Ev X te σ H (vL (l.map dd))) : EvS X (iEnum K (tCons te tNil)) σ H (l.zipIdx.map fun p => .tuple [dN p.2, dd p.1]) := by
  have := es_enum (K := K) h
  unfold dEnum at this
  rw [List.zipIdx_map, List.map_map] at this
  exact this
theorem zip_mapT {f : α → PyData} {g : β → PyData} (l : List α) (m : List β) : dZip (l.map f) (m.map g) = (l.zip m).map fun p => .tuple [f p.1, g p.2] := by
  unfold dZip
  rw [List.zip_map, List.map_map]
  rfl
theorem es_zipT {m : List β} {ee : β → PyData} (h : Ev X ta σ H (vL (l.map dd))) (h' : Ev X tb σ H (vL (m.map ee))) : EvS X (iZip K (tCons ta (tCons tb tNil))) σ H ((l.zip m).map fun p => .tuple [dd p.1, ee p.2]) := by
  have := es_zip (K := K) h h'
  rwa [zip_mapT] at this
/-! targets -/
theorem tgt_int {n : Nat} {v : V} {R : L2.St → Hp → Prop} (h : Dx H' v (.int i)) (r : R (σ.set n (some (.int i))) H) : Tgt (gName n) v σ H R := by
  cases h
  exact tgt_name r
theorem tgt_bl {n : Nat} {v : V} {R : L2.St → Hp → Prop} (h : Dx H' v (.bool b)) (r : R (σ.set n (some (.bl b))) H) : Tgt (gName n) v σ H R := by
  cases h
  exact tgt_name r
theorem tgt_dd {m n : Nat} {v : V} {R : L2.St → Hp → Prop} (h : Dx H' v (.tuple [d, e])) (s : Same H' H) (r : ∀ v1 v2, Dx H' v1 d → Dx H' v2 e → R ((σ.set m (some v1)).set n (some v2)) H) : Tgt (gTup K 2 (gCons (gName m) (gCons (gName n) gNil))) v σ H R :=
  tgt_tup2 h s fun v1 v2 h1 h2 => tgt_name (tgt_name (r v1 v2 h1 h2))
theorem tgt_ii {m n : Nat} {v : V} {R : L2.St → Hp → Prop} (h : Dx H' v (.tuple [.int i, .int j])) (s : Same H' H) (r : R ((σ.set m (some (.int i))).set n (some (.int j))) H) : Tgt (gTup K 2 (gCons (gName m) (gCons (gName n) gNil))) v σ H R :=
  tgt_dd h s fun v1 v2 h1 h2 => by
    cases h1; cases h2
    exact r
theorem tgt_id {m n : Nat} {v : V} {R : L2.St → Hp → Prop} (h : Dx H' v (.tuple [.int i, d])) (s : Same H' H) (r : ∀ v2, Dx H' v2 d → R ((σ.set m (some (.int i))).set n (some v2)) H) : Tgt (gTup K 2 (gCons (gName m) (gCons (gName n) gNil))) v σ H R :=
  tgt_dd h s fun v1 v2 h1 h2 => by
    cases h1
    exact r v2 h2
theorem tgt_i_ii {m n o : Nat} {v : V} {R : L2.St → Hp → Prop} (h : Dx H' v (.tuple [.int i, .tuple [.int j, .int k]])) (s : Same H' H) (r : R (((σ.set m (some (.int i))).set n (some (.int j))).set o (some (.int k))) H) :
    Tgt (gTup K 2 (gCons (gName m) (gCons (gTup K 2 (gCons (gName n) (gCons (gName o) gNil))) gNil))) v σ H R := tgt_tup2 h s fun v1 v2 h1 h2 => by
  cases h1
  exact tgt_name (tgt_ii h2 s r)
/-! comprehensions -/
theorem en_lcT (F : α → Option PyData) (hs : EvS X wi σ H (l.map dd)) (hn : l.length ≤ 40000)
    (step : ∀ (Y : Vol) (i : Nat) (a : α) (v : V) (H1 : Hp), l[i]? = some a → Sub X H Y H1 → Dx (Y.wo H1) v (dd a) → Tgt g v (wipe σ vs) H1 fun σ2 H2 => H2 = H1 ∧ wipe σ2 vs = wipe σ vs ∧ ∃ b, EvT Y tt σ2 H1 b ∧ (b = false → F a = none) ∧ (b = true → ∃ e, F a = some e ∧ Ev Y te σ2 H1 (vD e))) :
    EvN X (tLc wi g tt te vs) σ H (.list (l.filterMap F)) := fun Y H1 e Q q =>
  ev_lc (fun i o => ∀ a, l[i]? = some a → o = F a) hs (by rw [List.length_map]; exact hn) (fun Y i d v H1 hd s hv Q q => by
    obtain ⟨a, ha, rfl⟩ := getT hd
    exact step Y i a v H1 ha s hv Q fun σ2 H2 ⟨h1, h2, b, hb, hf, ht⟩ => q σ2 H2 ⟨h1, h2, b, hb, fun z a' ha' => by
      rw [ha] at ha'
      cases ha'
      exact (hf z).symm, fun z => by
      obtain ⟨e, he, h⟩ := ht z
      exact h.weak fun H v p => ⟨e, fun a' ha' => by
        rw [ha] at ha'
        cases ha'
        exact he.symm, p⟩⟩) Y H1 e Q fun l2 H2 os n e2 hl ho hd => q l2 H2 n e2 (by
    have e1 : os = l.map F := by
      apply List.ext_getElem?
      intro i
      rw [List.getElem?_map]
      rw [List.length_map] at hl
      cases h : l[i]? with
      | none =>
        rw [List.getElem?_eq_none_iff] at h
        rw [List.getElem?_eq_none_iff.mpr (by omega)]
        rfl
      | some a =>
        have hi : i < os.length := by rw [hl]; exact (List.getElem?_eq_some_iff.mp h).1
        rw [List.getElem?_eq_getElem hi, ho i _ (List.getElem?_eq_getElem hi) a h]
        rfl
    rw [e1, List.filterMap_map] at hd
    exact hd)
theorem en_mapT (f : α → PyData) (hs : EvS X wi σ H (l.map dd)) (hn : l.length ≤ 40000)
    (step : ∀ (Y : Vol) (i : Nat) (a : α) (v : V) (H1 : Hp), l[i]? = some a → Sub X H Y H1 → Dx (Y.wo H1) v (dd a) → Tgt g v (wipe σ vs) H1 fun σ2 H2 => H2 = H1 ∧ wipe σ2 vs = wipe σ vs ∧ Ev Y te σ2 H1 (vD (f a))) :
    EvN X (tLc wi g tYes te vs) σ H (.list (l.map f)) := by
  have h := en_lcT (te := te) (g := g) (tt := tYes) (vs := vs) (fun a => some (f a)) hs hn fun Y i a v H1 ha s hv Q q => step Y i a v H1 ha s hv Q fun σ2 H2 ⟨h1, h2, h3⟩ => q σ2 H2 ⟨h1, h2, true, et_yes, (fun z => nomatch z), fun _ => ⟨_, rfl, h3⟩⟩
  rwa [List.filterMap_eq_map'] at h
theorem en_filT (p : α → Bool) (f : α → PyData) (hs : EvS X wi σ H (l.map dd)) (hn : l.length ≤ 40000)
    (step : ∀ (Y : Vol) (i : Nat) (a : α) (v : V) (H1 : Hp), l[i]? = some a → Sub X H Y H1 → Dx (Y.wo H1) v (dd a) → Tgt g v (wipe σ vs) H1 fun σ2 H2 => H2 = H1 ∧ wipe σ2 vs = wipe σ vs ∧ EvT Y tt σ2 H1 (p a) ∧ (p a = true → Ev Y te σ2 H1 (vD (f a)))) :
    EvN X (tLc wi g tt te vs) σ H (.list ((l.filter p).map f)) := by
  have h := en_lcT (te := te) (g := g) (tt := tt) (vs := vs) (fun a => if p a = true then some (f a) else none) hs hn fun Y i a v H1 ha s hv Q q => step Y i a v H1 ha s hv Q fun σ2 H2 ⟨h1, h2, h3, h4⟩ => q σ2 H2 ⟨h1, h2, p a, h3, fun z => by rw [z]; rfl, fun z => ⟨_, by rw [z]; rfl, h4 z⟩⟩
  have e1 : ∀ l : List α, l.filterMap (fun a => if p a = true then some (f a) else none) = (l.filter p).map f := by
    intro l
    induction l with
    | nil => rfl
    | cons a l ih =>
      rw [List.filterMap_cons, List.filter_cons]
      cases hp : p a with
      | true => simp [ih]
      | false => simp [ih]
  rwa [e1] at h
/-- .. whose items are drawn -/
theorem er_mapT (S : α → PyData → Prop) (hs : EvS X wi σ H (l.map dd)) (hn : l.length ≤ 40000)
    (step : ∀ (Y : Vol) (i : Nat) (a : α) (v : V) (H1 : Hp), l[i]? = some a → Sub X H Y H1 → Dx (Y.wo H1) v (dd a) → Tgt g v (wipe σ vs) H1 fun σ2 H2 => H2 = H1 ∧ wipe σ2 vs = wipe σ vs ∧ Ev Y te σ2 H1 (vX (S a))) :
    EvR X (tLc wi g tYes te vs) σ H (fun d => ∃ es : List PyData, d = .list es ∧ es.length = l.length ∧ ∀ (i : Nat) (e : PyData) (a : α), es[i]? = some e → l[i]? = some a → S a e) := fun Y H1 e Q q =>
  ev_drawn (fun i e => ∀ a, l[i]? = some a → S a e) hs (by rw [List.length_map]; exact hn) (fun Y i d v H1 hd s hv Q q => by
    obtain ⟨a, ha, rfl⟩ := getT hd
    exact step Y i a v H1 ha s hv Q fun σ2 H2 ⟨h1, h2, h3⟩ => q σ2 H2 ⟨h1, h2, h3.weak fun H v ⟨e, he, hv⟩ => ⟨e, fun a' ha' => by
      rw [ha] at ha'
      cases ha'
      exact he, hv⟩⟩) Y H1 e Q fun l2 H2 es n e2 hl hR hd => q l2 H2 (.list es) n e2 ⟨es, rfl, by rw [hl, List.length_map], fun i e a he ha => hR i e he a ha⟩ hd
theorem er_mapI (S : α → Int → Prop) (hs : EvS X wi σ H (l.map dd)) (hn : l.length ≤ 40000)
    (step : ∀ (Y : Vol) (i : Nat) (a : α) (v : V) (H1 : Hp), l[i]? = some a → Sub X H Y H1 → Dx (Y.wo H1) v (dd a) → Tgt g v (wipe σ vs) H1 fun σ2 H2 => H2 = H1 ∧ wipe σ2 vs = wipe σ vs ∧ Ev Y te σ2 H1 (vX fun d => ∃ z, d = .int z ∧ S a z)) :
    EvR X (tLc wi g tYes te vs) σ H (fun d => ∃ zs : List Int, d = .list (zs.map PyData.int) ∧ zs.length = l.length ∧ ∀ (i : Nat) (z : Int) (a : α), zs[i]? = some z → l[i]? = some a → S a z) := fun Y H1 e Q q =>
  er_mapT (fun a d => ∃ z, d = .int z ∧ S a z) hs hn step Y H1 e Q fun l2 H2 d n e2 ⟨es, hd, hl, hR⟩ hdx => by
    subst hd
    have hz := ints_of (es := es) fun e he => by
      obtain ⟨i, hi, rfl⟩ := List.getElem_of_mem he
      obtain ⟨z, hz, _⟩ := hR i _ (l[i]'(by omega)) (List.getElem?_eq_getElem hi) (List.getElem?_eq_getElem _)
      exact ⟨z, hz⟩
    refine q l2 H2 _ n e2 ⟨es.map toI, by rw [hz], by rw [List.length_map]; exact hl, fun i z a h1 h2 => ?_⟩ hdx
    rw [List.getElem?_map] at h1
    obtain ⟨e, he, rfl⟩ := Option.map_eq_some_iff.mp h1
    obtain ⟨z, rfl, hz⟩ := hR i e a he h2
    exact hz
/-! loops -/
theorem s_forT {tb : TS} (hs : EvS X wi σ H (l.map dd)) (i : X.I H) (k : ∀ H1, Ext X H H1 → ∃ (Inv : Nat → L2.St → Hp → Prop), Inv 0 σ H1 ∧ (∀ i σ' H', Inv i σ' H' → Wk X H1 X H') ∧
      (∀ i a x σ' H' H'', l[i]? = some a → Inv i σ' H' → Wk X H1 X H' → Ext X H' H'' → Dx (X.wo H'') x (dd a) → Tgt g x σ' H'' fun σ2 H3 => tb { D with nx := Inv (i + 1), ct := Inv (i + 1), bk := D.nx } σ2 H3) ∧ ∀ σ' H', Inv l.length σ' H' → Wk X H1 X H' → D.nx σ' H') : tFor wi g tb D σ H :=
  s_for hs i fun H1 e1 => by
    obtain ⟨Inv, h0, hv, step, hd⟩ := k H1 e1
    refine ⟨Inv, h0, hv, fun i d x σ' H' H'' hI s e hd hx => ?_, fun σ' H' hI s => hd σ' H' (by rwa [List.length_map] at hI) s⟩
    obtain ⟨a, ha, rfl⟩ := getT hd
    exact step i a x σ' H' H'' ha hI s e hx _ fun _ _ h => h
theorem q_forT {tb : TS} (hs : EvS X wi σ H (l.map dd)) (i : X.I H) (k : ∀ H1, Ext X H H1 → ∃ (Inv : Nat → L2.St → Hp → Prop), Inv 0 σ H1 ∧ (∀ i σ' H', Inv i σ' H' → Wk X H1 X H') ∧
      (∀ i a x σ' H' H'', l[i]? = some a → Inv i σ' H' → Wk X H1 X H' → Ext X H' H'' → Dx (X.wo H'') x (dd a) → Tgt g x σ' H'' fun σ2 H3 => tb { D with nx := Inv (i + 1), ct := Inv (i + 1), bk := tz D } σ2 H3) ∧ ∀ σ' H', Inv l.length σ' H' → Wk X H1 X H' → tz D σ' H') : tSeq (tFor wi g tb) tz D σ H :=
  s_forT (D := { D with nx := tz D }) hs i k
/-- a loop that changes nothing that is being made: J of the turn, the slots and the heap -/
theorem s_forE {tb : TS} (hs : EvS X wi σ H (l.map dd)) (iv : X.I H) (k : ∀ H1, Ext X H H1 → ∃ J : Nat → L2.St → Hp → Prop, J 0 σ H1 ∧
    (∀ i a x σ' H' H'', l[i]? = some a → J i σ' H' → Ext X H1 H' → Ext X H' H'' → Dx (X.wo H'') x (dd a) → Tgt g x σ' H'' fun σ2 H3 => tb { D with nx := fun σ3 H4 => J (i + 1) σ3 H4 ∧ Ext X H1 H4, ct := fun σ3 H4 => J (i + 1) σ3 H4 ∧ Ext X H1 H4, bk := D.nx } σ2 H3) ∧
    ∀ σ' H', J l.length σ' H' → Ext X H1 H' → D.nx σ' H') : tFor wi g tb D σ H :=
  s_forT hs iv fun H1 e1 => by
    obtain ⟨J, h0, step, fin⟩ := k H1 e1
    exact ⟨fun i σ' H' => J i σ' H' ∧ Ext X H1 H', ⟨h0, .refl e1.inv⟩, fun i σ' H' h => h.2.wk, fun i a x σ' H' H'' ha hI s e hx => step i a x σ' H' H'' ha hI.1 hI.2 e hx, fun σ' H' hI s => fin σ' H' hI.1 hI.2⟩
theorem q_forE {tb : TS} (hs : EvS X wi σ H (l.map dd)) (iv : X.I H) (k : ∀ H1, Ext X H H1 → ∃ J : Nat → L2.St → Hp → Prop, J 0 σ H1 ∧
    (∀ i a x σ' H' H'', l[i]? = some a → J i σ' H' → Ext X H1 H' → Ext X H' H'' → Dx (X.wo H'') x (dd a) → Tgt g x σ' H'' fun σ2 H3 => tb { D with nx := fun σ3 H4 => J (i + 1) σ3 H4 ∧ Ext X H1 H4, ct := fun σ3 H4 => J (i + 1) σ3 H4 ∧ Ext X H1 H4, bk := tz D } σ2 H3) ∧
    ∀ σ' H', J l.length σ' H' → Ext X H1 H' → tz D σ' H') : tSeq (tFor wi g tb) tz D σ H := s_forE (D := { D with nx := tz D }) hs iv k
end
end Ee

namespace L2
open PySem PySem.Spec PyProof.Rows
/-! ## zip of three lists -/
def Itz3 (K : PySem.W.Frag) (a b c : Addr) : It :=
  ⟨fun i H => ∃ (xs ys zs : List V) (x y z : V), SqL K H a xs ∧ SqL K H b ys ∧ SqL K H c zs ∧ xs[i]? = some x ∧ ys[i]? = some y ∧ zs[i]? = some z,
    fun i H v H' => ∃ T x y z, v = .ref T ∧ H T = none ∧ H' = upd H T (.tup [x, y, z]) ∧ (∀ xs, SqL K H a xs → xs[i]? = some x) ∧ (∀ ys, SqL K H b ys → ys[i]? = some y) ∧ ∀ zs, SqL K H c zs → zs[i]? = some z,
    fun i H => ∃ xs ys zs : List V, SqL K H a xs ∧ SqL K H b ys ∧ SqL K H c zs ∧ i ≤ xs.length ∧ i ≤ ys.length ∧ i ≤ zs.length ∧ (i = xs.length ∨ i = ys.length ∨ i = zs.length)⟩
structure Apart3 (z TI TO i1 i2 i3 a b c : Addr) : Prop where
  S : ZipSep3 z TI TO i1 i2 i3 [i1, a] [i2, b] [i3, c]
  n1 : a ≠ i1
  n2 : b ≠ i2
  n3 : c ≠ i3
theorem turn_zip3 {P : Program} {w : World} {K : PySem.W.Frag} {elts : List Expr} {kk : Nat} {tpos : Pos} {a b c z TI TO i1 i2 i3 : Addr} (D : Apart3 z TI TO i1 i2 i3 a b c) :
    Turn P w K (.Tuple elts kk tpos) (Itz3 K a b c) [z, TI, TO, i1, i2, i3] z (fun i h => IsZip h z TI TO .none ∧ IsTupOf3 h TI (.ref i1) (.ref i2) (.ref i3) ∧ (∃ x y u, IsTupOf3 h TO x y u) ∧ h.IsListIter i1 a i ∧ h.IsListIter i2 b i ∧ h.IsListIter i3 c i) where
  mem := by simp
  obj := fun i h st q hq => by
    obtain ⟨hz, hTI, ⟨x, y, u, hTO⟩, ⟨o1, e1, _, d1⟩, ⟨o2, e2, _, d2⟩, ⟨o3, e3, _, d3⟩⟩ := st
    have e' : q = z ∨ q = TI ∨ q = TO ∨ q = i1 ∨ q = i2 ∨ q = i3 := by simpa using hq
    rcases e' with q | q | q | q | q | q
    · rw [q]; exact ⟨_, hz, fun v q => nomatch q⟩
    · rw [q]; exact ⟨_, hTI, fun v q => nomatch q⟩
    · rw [q]; exact ⟨_, hTO, fun v q => nomatch q⟩
    · rw [q]; exact ⟨o1, e1, fun v q => by rw [d1] at q; cases q⟩
    · rw [q]; exact ⟨o2, e2, fun v q => by rw [d2] at q; cases q⟩
    · rw [q]; exact ⟨o3, e3, fun v q => by rw [d3] at q; cases q⟩
  keep := fun i h h' st k => by
    obtain ⟨hz, hTI, ⟨x, y, u, hTO⟩, h1, h2, h3⟩ := st
    exact ⟨k z (by simp) _ hz, k TI (by simp) _ hTI, ⟨x, y, u, k TO (by simp) _ hTO⟩, h1.at fun o q => k i1 (by simp) o q, h2.at fun o q => k i2 (by simp) o q, h3.at fun o q => k i3 (by simp) o q⟩
  item := by
    intro X hP hw hK hc i pins s σ H E I hf st hg
    subst hP hw hK
    obtain ⟨hz, hTI, ⟨x0, y0, u0, hTO⟩, h1, h2, h3⟩ := st
    obtain ⟨xs, ys, zs, x, y, v, hqx, hqy, hqz, hx, hy, hv⟩ := hg
    obtain ⟨its, rv, p, _⟩ := I.list hqx
    obtain ⟨its2, rv2, p2, _⟩ := I.list hqy
    obtain ⟨its3, rv3, p3, _⟩ := I.list hqz
    obtain ⟨u, hu, ru⟩ := rv.get hx
    obtain ⟨u2, hu2, ru2⟩ := rv2.get hy
    obtain ⟨u3, hu3, ru3⟩ := rv3.get hv
    have hh : X.A.in1.handled = none := I.ok.hd hc
    have hzl : z < s.heap.objs.size := Heap.lt_size hz
    have l1 : i < its.toArray.size := by rw [List.size_toArray]; exact (List.getElem?_eq_some_iff.mp hu).1
    have l2 : i < its2.toArray.size := by rw [List.size_toArray]; exact (List.getElem?_eq_some_iff.mp hu2).1
    have l3 : i < its3.toArray.size := by rw [List.size_toArray]; exact (List.getElem?_eq_some_iff.mp hu3).1
    refine wpAny_pyNext_zipD3_item D.S (Draws.list hh i1 a D.n1 its.toArray) (Draws.list hh i2 b D.n2 its2.toArray) (Draws.list hh i3 c D.n3 its3.toArray) hz hTI hTO ⟨h1, p.isList⟩ ⟨h2, p2.isList⟩ ⟨h3, p3.isList⟩ l1 l2 l3 fun x1 x2 x3 h' tk y1 y2 y3 z' TO' st1 st2 st3 hT hsz hk => ?_
    have ex1 : x1 = u := Option.some.inj (y1.symm.trans (by simpa using hu))
    have ex2 : x2 = u2 := Option.some.inj (y2.symm.trans (by simpa using hu2))
    have ex3 : x3 = u3 := Option.some.inj (y3.symm.trans (by simpa using hu3))
    subst ex1 ex2 ex3
    refine ⟨_, rfl, wpAny_letOwnedTupleGo_zip (s := { s with heap := h', toks := tk }) z' fun h'' z'' sb => ?_⟩
    have hT2 : h''.get? s.heap.objs.size = some { cls := .type "tuple", data := .seq #[x1, x2, x3] } := (sb.2 _ (Nat.ne_of_gt hzl)).trans hT
    have new : ObjOk X.prog X.w (upd H s.heap.objs.size (.tup [x, y, v])) h'' s.heap.objs.size (.tup [x, y, v]) :=
      ⟨by show 3 ≤ sizeLine; decide, [x1, x2, x3], .cons ru (.cons ru2 (.cons ru3 .nil)), ⟨_, hT2, rfl, _, rfl⟩⟩
    have I1 : Inv X pins σ (upd H s.heap.objs.size (.tup [x, y, v])) { s with heap := h'', toks := tk } :=
      I.turnedNew (t' := tk) (ch := [z, TI, TO, i1, i2, i3]) (fun c o hb q => (sb.2 c (fun q' => hb (by simp [q']))).trans (hk c o (fun q' => hb (by simp [q'])) (fun q' => hb (by simp [q'])) (fun q' => hb (by simp [q'])) (fun q' => hb (by simp [q'])) (fun q' => hb (by simp [q'])) q)) hf (Nat.le_refl _) new
    have zi1 : i1 ≠ z := fun e => D.S.zf1 (by simp [e])
    have zi2 : i2 ≠ z := fun e => D.S.zf2 (by simp [e])
    have zi3 : i3 ≠ z := fun e => D.S.zf3 (by simp [e])
    refine ⟨.ref s.heap.objs.size, _, I1, rfl, ⟨_, x, y, v, rfl, I.hok.fresh (Nat.le_refl _), rfl, fun l hl => by rw [I.list_inj hl hqx]; exact hx, fun l hl => by rw [I.list_inj hl hqy]; exact hy, fun l hl => by rw [I.list_inj hl hqz]; exact hv⟩, ⟨z'', ?_, ⟨x1, x2, x3, ?_⟩, ?_, ?_, ?_⟩, fun q hcm => ?_⟩
    · exact (sb.2 _ D.S.TIz).trans (hk _ _ D.S.TIz D.S.TITO D.S.TIi1 D.S.TIi2 D.S.TIi3 hTI)
    · exact (sb.2 _ D.S.TOz).trans TO'
    · exact st1.1.at fun o q => (sb.2 _ zi1).trans q
    · exact st2.1.at fun o q => (sb.2 _ zi2).trans q
    · exact st3.1.at fun o q => (sb.2 _ zi3).trans q
    · have hlt : q < s.heap.objs.size := by
        have e' : q = z ∨ q = TI ∨ q = TO ∨ q = i1 ∨ q = i2 ∨ q = i3 := by simpa using hcm
        rcases e' with q | q | q | q | q | q
        · rw [q]; exact hzl
        · rw [q]; exact Heap.lt_size hTI
        · rw [q]; exact Heap.lt_size hTO
        · rw [q]; obtain ⟨_, e1, _⟩ := h1; exact Heap.lt_size e1
        · rw [q]; obtain ⟨_, e2, _⟩ := h2; exact Heap.lt_size e2
        · rw [q]; obtain ⟨_, e3, _⟩ := h3; exact Heap.lt_size e3
      rw [upd_ne (Nat.ne_of_lt hlt)]
      exact (hf q hcm).1
  done := by
    intro X hP hw hK hc i pins s σ H E I hf st hg
    subst hP hw hK
    obtain ⟨hz, hTI, ⟨x0, y0, u0, hTO⟩, h1, h2, h3⟩ := st
    obtain ⟨xs, ys, zs, hqx, hqy, hqz, g1, g2, g3, hend⟩ := hg
    obtain ⟨its, rv, p, _⟩ := I.list hqx
    obtain ⟨its2, rv2, p2, _⟩ := I.list hqy
    obtain ⟨its3, rv3, p3, _⟩ := I.list hqz
    have l1 := rv.length
    have l2 := rv2.length
    have l3 := rv3.length
    have hh : X.A.in1.handled = none := I.ok.hd hc
    exact wpAny_pyNext_zipD3_end D.S (Draws.list hh i1 a D.n1 its.toArray) (Draws.list hh i2 b D.n2 its2.toArray) (Draws.list hh i3 c D.n3 its3.toArray) hz hTI hTO ⟨h1, p.isList⟩ ⟨h2, p2.isList⟩ ⟨h3, p3.isList⟩ (by simp only [List.size_toArray]; omega) (by simp only [List.size_toArray]; omega) (by simp only [List.size_toArray]; omega) (by simp only [List.size_toArray]; omega)
      fun h' tk hk => ⟨rfl, I.turnedL (t' := tk) (ch := [z, TI, TO, i1, i2, i3]) (fun c o hb q =>
      hk c o (fun q' => hb (by simp [q'])) (fun q' => hb (by simp [q'])) (fun q' => hb (by simp [q'])) (fun q' => hb (by simp [q'])) (fun q' => hb (by simp [q'])) q) hf⟩
  self := fun A i s Q E st h => wpAny_pyIter_zip st.1 h
def iZip3 (K : PySem.W.Frag) (ta : TA) : TI := fun σ H R => ta σ H fun vs H1 => ∃ a b c xs ys zs, vs = [.ref a, .ref b, .ref c] ∧ SqL K H1 a xs ∧ SqL K H1 b ys ∧ SqL K H1 c zs ∧ R (Itz3 K a b c) H1
theorem pi_zip3 {X : Cx} {e e2 e3 : Expr} {ta : TA} {p pos tpos : Pos} {elts : List Expr} {kk : Nat} (hg : Gl X "zip") (hm : X.mg "zip" = none) (ha : PA X [e, e2, e3] ta)
    (hs : starEach [e, e2, e3] X.env = (false, eval e X.env) :: starEach [e2, e3] X.env := by rfl) (hpl : (backTo pos (starEach [e2, e3] X.env)).any (·.1) = false := by rfl) :
    PI X (.Tuple elts kk tpos) (.Call (.Name "zip" p) [e, e2, e3] [] pos) (iZip3 X.K ta) := by
  refine ⟨fun pins s σ H R I h => ?_⟩
  refine Call_ (ld_blt I hg hm PyProof.Rows.boot_zip (PyProof.Rows.callWith_type1 (thn (ha.run pos pins s σ H _ I h) fun us s1 ⟨vs, H1, I1, r1, q1⟩ => ?_) hs hpl))
  obtain ⟨a, b, c, xs, ys, zs, ex, hqx, hqy, hqz, q⟩ := q1
  subst ex
  cases r1 with
  | cons r rr =>
    cases rr with
    | cons r' rr =>
      cases rr with
      | cons r'' rr =>
        cases rr
        cases r
        cases r'
        cases r''
        obtain ⟨its, rv, p1, _⟩ := I1.list hqx
        obtain ⟨its2, rv2, p2, _⟩ := I1.list hqy
        obtain ⟨its3, rv3, p3, _⟩ := I1.list hqz
        have la : a < s1.heap.objs.size := p1.lt
        have lb : b < s1.heap.objs.size := p2.lt
        have lc : c < s1.heap.objs.size := p3.lt
        refine zip_begins3 (begins_list a its.toArray) (begins_list b its2.toArray) (begins_list c its3.toArray) p1.isList p2.isList p3.isList fun h' hz hTI hTO h1 h2 h3 hsz hk => wpAny_pyIter_zip hz ?_
        have I2 : Inv X pins σ H1 { s1 with heap := h' } := I1.kept (t' := s1.toks) hk
        have ap : Apart3 (s1.heap.objs.size + 5) (s1.heap.objs.size + 3) (s1.heap.objs.size + 4) s1.heap.objs.size (s1.heap.objs.size + 1) (s1.heap.objs.size + 2) a b c :=
          ⟨zip_sep3 (fun x hx => by rw [show x = a by simpa using hx]; exact la) (fun x hx => by rw [show x = b by simpa using hx]; exact lb) (fun x hx => by rw [show x = c by simpa using hx]; exact lc),
            Nat.ne_of_lt la, Nat.ne_of_lt (Nat.lt_succ_of_lt lb), Nat.ne_of_lt (Nat.lt_succ_of_lt (Nat.lt_succ_of_lt lc))⟩
        refine ⟨s1.heap.objs.size + 5, [s1.heap.objs.size + 5, s1.heap.objs.size + 3, s1.heap.objs.size + 4, s1.heap.objs.size, s1.heap.objs.size + 1, s1.heap.objs.size + 2], _, _, H1, rfl, I2, turn_zip3 ap, ⟨hz, hTI, ⟨_, _, _, hTO⟩, ⟨_, h1, rfl, rfl⟩, ⟨_, h2, rfl, rfl⟩, ⟨_, h3, rfl, rfl⟩⟩, fun x hcm => ?_, q⟩
        have e' : x = s1.heap.objs.size + 5 ∨ x = s1.heap.objs.size + 3 ∨ x = s1.heap.objs.size + 4 ∨ x = s1.heap.objs.size ∨ x = s1.heap.objs.size + 1 ∨ x = s1.heap.objs.size + 2 := by simpa using hcm
        have hle : s1.heap.objs.size ≤ x := by
          rcases e' with z | z | z | z | z | z
          · rw [z]; exact Nat.le_add_right _ _
          · rw [z]; exact Nat.le_add_right _ _
          · rw [z]; exact Nat.le_add_right _ _
          · rw [z]; exact Nat.le_refl _
          · rw [z]; exact Nat.le_add_right _ _
          · rw [z]; exact Nat.le_add_right _ _
        exact I1.fpOk hle (I1.hok.fresh hle)
end L2
namespace Ee
open PySem L2
section
variable {X Y : Vol} {σ : L2.St} {H H' H0 H1 : Hp} {ta tb tc te : TE} {K : Fr} {i j k : Int} {d e f : PyData} {ds es fs : List PyData} {α β γ : Type} {p : Addr}
def dZip3 (ds es fs : List PyData) : List PyData := (ds.zip (es.zip fs)).map fun p => PyData.tuple [p.1, p.2.1, p.2.2]
theorem dZip3_len : (dZip3 ds es fs).length = min ds.length (min es.length fs.length) := by unfold dZip3; rw [List.length_map, List.length_zip, List.length_zip]
theorem dZip3_get {i : Nat} (h : ds[i]? = some d) (h' : es[i]? = some e) (h'' : fs[i]? = some f) : (dZip3 ds es fs)[i]? = some (.tuple [d, e, f]) := by
  unfold dZip3
  have h2 : (es.zip fs)[i]? = some (e, f) := List.getElem?_zip_eq_some.mpr ⟨h', h''⟩
  have h3 : (ds.zip (es.zip fs))[i]? = some (d, e, f) := List.getElem?_zip_eq_some.mpr ⟨h, h2⟩
  rw [List.getElem?_map, h3]
  rfl
theorem sq_zip3 {p q r : Addr} {xs ys zs : List V} (ea : X.wo H p = some (.lst xs)) (al : DxAll (X.wo H) xs ds) (eb : X.wo H q = some (.lst ys)) (bl : DxAll (X.wo H) ys es) (ec : X.wo H r = some (.lst zs)) (cl : DxAll (X.wo H) zs fs) : Seqn X H (Itz3 K p q r) (dZip3 ds es fs) := by
  have at1 : ∀ Z H', Wk X H Z H' → SqL K H' p xs := fun Z H s => SqL.of (wo_le _ _ (s.wo _ _ ea))
  have at2 : ∀ Z H', Wk X H Z H' → SqL K H' q ys := fun Z H s => SqL.of (wo_le _ _ (s.wo _ _ eb))
  have at3 : ∀ Z H', Wk X H Z H' → SqL K H' r zs := fun Z H s => SqL.of (wo_le _ _ (s.wo _ _ ec))
  have l1 := al.len
  have l2 := bl.len
  have l3 := cl.len
  refine ⟨fun Z H i s hi => ?_, fun Z H s => ⟨xs, ys, zs, at1 Z H s, at2 Z H s, at3 Z H s, ?_⟩, fun Z H i x H' s hi y => ?_⟩
  · rw [dZip3_len] at hi
    exact ⟨xs, ys, zs, xs[i]'(by omega), ys[i]'(by omega), zs[i]'(by omega), at1 Z H s, at2 Z H s, at3 Z H s, List.getElem?_eq_getElem _, List.getElem?_eq_getElem _, List.getElem?_eq_getElem _⟩
  · rw [dZip3_len]; omega
  · obtain ⟨T, z, w, u, rfl, hT, rfl, y1, y2, y3⟩ := y
    obtain ⟨d, hd, hx⟩ := al.getv (y1 xs (at1 Z _ s))
    obtain ⟨d', hd', hx'⟩ := bl.getv (y2 ys (at2 Z _ s))
    obtain ⟨d'', hd'', hx''⟩ := cl.getv (y3 zs (at3 Z _ s))
    have s3 := Sub.new (X := Z) (o := .tup [z, w, u]) s.inv hT
    exact ⟨_, dZip3_get hd hd' hd'', s3, .tup (wo_new s.inv hT) (.cons (s3.upD (s.upD hx)) (.cons (s3.upD (s.upD hx')) (.cons (s3.upD (s.upD hx'')) .nil)))⟩
theorem es_zip3 (h : Ev X ta σ H (vL ds)) (h' : Ev X tb σ H (vL es)) (h'' : Ev X tc σ H (vL fs)) : EvS X (iZip3 K (tCons ta (tCons tb (tCons tc tNil)))) σ H (dZip3 ds es fs) := fun Y H1 e R r =>
  h Y H1 e _ fun v H2 e2 p2 => h' Y H2 (e.trans e2) _ fun w H3 e3 p3 => h'' Y H3 ((e.trans e2).trans e3) _ fun u H4 e4 p4 => by
    cases (e3.trans e4).upP p2 with
    | lst ea al =>
      cases e4.upP p3 with
      | lst eb bl =>
        cases p4 with
        | lst ec cl => exact ⟨_, _, _, _, _, _, rfl, SqL.of (wo_le _ _ ea), SqL.of (wo_le _ _ eb), SqL.of (wo_le _ _ ec), r _ H4 ((e2.trans e3).trans e4) (sq_zip3 ea al eb bl ec cl)⟩
theorem es_zip3T {l : List α} {m : List β} {n : List γ} {dd : α → PyData} {ee : β → PyData} {ff : γ → PyData} (h : Ev X ta σ H (vL (l.map dd))) (h' : Ev X tb σ H (vL (m.map ee))) (h'' : Ev X tc σ H (vL (n.map ff))) :
    EvS X (iZip3 K (tCons ta (tCons tb (tCons tc tNil)))) σ H ((l.zip (m.zip n)).map fun p => .tuple [dd p.1, ee p.2.1, ff p.2.2]) := by
  have := es_zip3 (K := K) h h' h''
  unfold dZip3 at this
  rw [List.zip_map, List.zip_map, List.map_map] at this
  exact this
theorem tgt_tup3 {g1 g2 g3 : TG} {v : V} {R : L2.St → Hp → Prop} (h : Dx H' v (.tuple [d, e, f])) (s : Same H' H) (k : ∀ v1 v2 v3, Dx H' v1 d → Dx H' v2 e → Dx H' v3 f → Tgt g1 v1 σ H fun σ2 H2 => Tgt g2 v2 σ2 H2 fun σ3 H3 => Tgt g3 v3 σ3 H3 R) : Tgt (gTup K 3 (gCons g1 (gCons g2 (gCons g3 gNil)))) v σ H R := fun Q q => by
  cases h with
  | tup ea al =>
    cases al with
    | cons a t =>
      cases t with
      | cons b t =>
        cases t with
        | cons c t =>
          cases t
          exact ⟨_, _, rfl, SqT.of (s _ _ ea), rfl, _, _, rfl, k _ _ _ a b c _ fun σ2 H2 k2 => ⟨_, _, rfl, k2 _ fun σ3 H3 k3 => ⟨_, _, rfl, k3 _ fun σ4 H4 r => ⟨rfl, q _ _ r⟩⟩⟩⟩
theorem tgt_iii {m n o : Nat} {v : V} {R : L2.St → Hp → Prop} (h : Dx H' v (.tuple [.int i, .int j, .int k])) (s : Same H' H) (r : R (((σ.set m (some (.int i))).set n (some (.int j))).set o (some (.int k))) H) : Tgt (gTup K 3 (gCons (gName m) (gCons (gName n) (gCons (gName o) gNil)))) v σ H R :=
  tgt_tup3 h s fun v1 v2 v3 h1 h2 h3 => by
    cases h1; cases h2; cases h3
    exact tgt_name (tgt_name (tgt_name r))
theorem tgt_i_i_ii {m n o q : Nat} {u : Int} {v : V} {R : L2.St → Hp → Prop} (h : Dx H' v (.tuple [.int i, .int j, .tuple [.int k, .int u]])) (s : Same H' H) (r : R ((((σ.set m (some (.int i))).set n (some (.int j))).set o (some (.int k))).set q (some (.int u))) H) :
    Tgt (gTup K 3 (gCons (gName m) (gCons (gName n) (gCons (gTup K 2 (gCons (gName o) (gCons (gName q) gNil))) gNil)))) v σ H R :=
  tgt_tup3 h s fun v1 v2 v3 h1 h2 h3 => by
    cases h1; cases h2
    exact tgt_name (tgt_name (tgt_ii h3 s r))
end
end Ee

namespace Ee
open PySem L2
/-! ## dicts from numbers to numbers -/
def mT (tg : List (Nat × Int)) : Mp := tg.map fun p => ((p.1 : Int), PyData.int p.2)

theorem mT_len (tg : List (Nat × Int)) : (mT tg).length = tg.length := by unfold mT; rw [List.length_map]
theorem mT_get {tg : List (Nat × Int)} {j : Nat} {m : Int × PyData} (h : (mT tg)[j]? = some m) : ∃ p ∈ tg, m = ((p.1 : Int), PyData.int p.2) := by
  unfold mT at h
  rw [List.getElem?_map] at h
  obtain ⟨p, hp, rfl⟩ := Option.map_eq_some_iff.mp h
  exact ⟨p, List.mem_of_getElem? hp, rfl⟩

def keysT (tg : List (Nat × Int)) : List Nat := (tg.map (·.1)).mergeSort fun a b => decide (a ≤ b)
def valT (tg : List (Nat × Int)) (k : Nat) : Int := match tg.find? fun p => decide (p.1 = k) with | some p => p.2 | none => 0
theorem keysT_perm (tg : List (Nat × Int)) : (keysT tg).Perm (tg.map (·.1)) := List.mergeSort_perm _ _
theorem keysT_sorted (tg : List (Nat × Int)) : (keysT tg).Pairwise (· ≤ ·) := by
  have h := List.pairwise_mergeSort (le := fun a b : Nat => decide (a ≤ b)) (fun a b c h1 h2 => by
    simp only [decide_eq_true_eq] at *
    omega) (fun a b => by
    simp only [Bool.or_eq_true, decide_eq_true_eq]
    omega) (tg.map (·.1))
  exact h.imp fun h => of_decide_eq_true h
theorem keysT_len (tg : List (Nat × Int)) : (keysT tg).length = tg.length := by rw [(keysT_perm tg).length_eq, List.length_map]

theorem keysT_ints (tg : List (Nat × Int)) : ((keysT tg).map fun (k : Nat) => (k : Int)).Perm ((mT tg).map (·.1)) := by
  have h := (keysT_perm tg).map fun (k : Nat) => (k : Int)
  have e : (mT tg).map (·.1) = (tg.map (·.1)).map fun (k : Nat) => (k : Int) := by
    unfold mT
    rw [List.map_map, List.map_map]
    rfl
  rw [e]
  exact h
theorem keysT_le (tg : List (Nat × Int)) : ((keysT tg).map fun (k : Nat) => (k : Int)).Pairwise (· ≤ ·) := List.Pairwise.map _ (fun a b h => Int.ofNat_le.mpr h) (keysT_sorted tg)
theorem mT_at : ∀ {tg : List (Nat × Int)} {k : Nat}, k ∈ tg.map (·.1) → getM (mT tg) (k : Int) = some (.int (valT tg k))
  | p :: tg, k, h => by
    by_cases e : p.1 = k
    · unfold getM mT valT
      rw [List.map_cons, List.find?_cons_of_pos (by simp [e]), List.find?_cons_of_pos (by simp [e])]
      rfl
    · have ih := mT_at (tg := tg) (k := k) (by
        rcases List.mem_cons.mp (show k ∈ p.1 :: tg.map (·.1) from h) with z | z
        · exact absurd z.symm e
        · exact z)
      unfold getM mT valT at *
      rw [List.map_cons, List.find?_cons_of_neg (by simp; omega), List.find?_cons_of_neg (by simp [e])]
      exact ih

theorem keysT_mem {tg : List (Nat × Int)} {k : Nat} : k ∈ keysT tg ↔ k ∈ tg.map (·.1) := (keysT_perm tg).mem_iff
theorem valT_of {tg : List (Nat × Int)} (nd : (tg.map (·.1)).Nodup) {p : Nat × Int} (hp : p ∈ tg) : valT tg p.1 = p.2 := by
  induction tg with
  | nil => cases hp
  | cons x tg ih =>
    have nd' := List.nodup_cons.mp (show (x.1 :: tg.map (·.1)).Nodup from nd)
    unfold valT
    by_cases e : x.1 = p.1
    · rw [List.find?_cons_of_pos (by simp [e])]
      rcases List.mem_cons.mp hp with rfl | hp
      · rfl
      · exact absurd (List.mem_map.mpr ⟨p, hp, rfl⟩) (e ▸ nd'.1)
    · rw [List.find?_cons_of_neg (by simp [e])]
      rcases List.mem_cons.mp hp with rfl | hp
      · exact absurd rfl e
      · exact ih nd'.2 hp
theorem valT_sub {tg tg' : List (Nat × Int)} (nd : (tg.map (·.1)).Nodup) (nd' : (tg'.map (·.1)).Nodup) (h : ∀ p ∈ tg', p ∈ tg) {k : Nat} (hk : k ∈ keysT tg') : k ∈ keysT tg ∧ valT tg' k = valT tg k := by
  obtain ⟨p, hp, rfl⟩ := List.mem_map.mp (keysT_mem.mp hk)
  exact ⟨keysT_mem.mpr (List.mem_map.mpr ⟨p, h p hp, rfl⟩), by rw [valT_of nd' hp, valT_of nd (h p hp)]⟩

theorem mT_nd {tg : List (Nat × Int)} (nd : (tg.map (·.1)).Nodup) : ((mT tg).map (·.1)).Nodup := by
  have e : (mT tg).map (·.1) = (tg.map (·.1)).map fun (k : Nat) => (k : Int) := by
    unfold mT
    rw [List.map_map, List.map_map]
    rfl
  rw [e]
  exact List.Pairwise.map _ (fun a b h z => h (Int.ofNat.inj z)) nd

theorem mT_none {tg : List (Nat × Int)} {k : Nat} (h : k ∉ tg.map (·.1)) : getM (mT tg) (k : Int) = none := by
  unfold getM mT
  rw [List.find?_eq_none.mpr, Option.map_none]
  intro m hm
  obtain ⟨p, hp, rfl⟩ := List.mem_map.mp hm
  have : p.1 ≠ k := fun z => h (List.mem_map.mpr ⟨p, hp, z⟩)
  simp
  omega
theorem mT_some {tg : List (Nat × Int)} {k : Nat} : (getM (mT tg) (k : Int)).isSome = decide (k ∈ tg.map (·.1)) := by
  by_cases h : k ∈ tg.map (·.1)
  · rw [mT_at h, decide_eq_true h]; rfl
  · rw [mT_none h, decide_eq_false h]; rfl
theorem putT_out {tg : List (Nat × Int)} {k : Nat} {z : Int} (h : k ∉ tg.map (·.1)) : putM (mT tg) (k : Int) (.int z) = mT (tg ++ [(k, z)]) := by
  have e : ((mT tg).any fun m => decide (m.1 = (k : Int))) = false := by
    rw [List.any_eq_false]
    intro m hm
    unfold mT at hm
    obtain ⟨p, hp, rfl⟩ := List.mem_map.mp hm
    have : p.1 ≠ k := fun z => h (List.mem_map.mpr ⟨p, hp, z⟩)
    simp
    omega
  unfold putM
  rw [e, if_neg Bool.false_ne_true]
  unfold mT
  rw [List.map_append]
  rfl
theorem valT_mem {tg : List (Nat × Int)} {k : Nat} (h : k ∈ tg.map (·.1)) : (k, valT tg k) ∈ tg := by
  unfold valT
  cases e : tg.find? fun p => decide (p.1 = k) with
  | none =>
    obtain ⟨p, hp, rfl⟩ := List.mem_map.mp h
    exact absurd (List.find?_eq_none.mp e p hp) (by simp)
  | some p =>
    have h1 := List.mem_of_find?_eq_some e
    have h2 : p.1 = k := by simpa using List.find?_some e
    rw [← h2]
    exact h1
theorem red_bound {m x C : Int} (m0 : 0 ≤ m) (m60 : m ≤ 60) (c : 60 ≤ C) (l : -C ≤ x) (u : x ≤ C) : -C ≤ red m x ∧ red m x ≤ C := by
  unfold red
  by_cases h : m = 0
  · rw [if_pos h]; exact ⟨l, u⟩
  · rw [if_neg h]
    have h1 := Int.emod_nonneg x h
    have h2 := Int.emod_lt_of_pos x (show 0 < m by omega)
    omega
theorem gAt_mem {g : List Int} {k : Nat} (h : k < g.length) : gAt g k ∈ g := by
  unfold gAt
  rw [List.getD_eq_getElem?_getD, List.getElem?_eq_getElem h]
  exact List.getElem_mem _
theorem get_gAt {g : List Int} {k : Nat} (h : k < g.length) : g[k]? = some (gAt g k) := by
  unfold gAt
  rw [List.getD_eq_getElem?_getD, List.getElem?_eq_getElem h]
  rfl
theorem gAt_map {α : Type} {l : List α} {f : α → Int} {k : Nat} {x : α} (h : l[k]? = some x) : gAt (l.map f) k = f x := by
  unfold gAt
  rw [List.getD_eq_getElem?_getD, List.getElem?_map, h]
  rfl
theorem gAt_rng {n k : Nat} {f : Nat → Int} (h : k < n) : gAt ((List.range n).map f) k = f k := gAt_map (List.getElem?_range h)
/-- lists without repeats -/
theorem sub_len : ∀ {A B : List Nat}, A.Nodup → (∀ x ∈ A, x ∈ B) → A.length ≤ B.length
  | [], _, _, _ => Nat.zero_le _
  | a :: A, B, nd, h => by
    obtain ⟨n1, n2⟩ := List.nodup_cons.mp nd
    have ha := h a (by simp)
    have := sub_len (A := A) (B := B.erase a) n2 fun x hx => (List.mem_erase_of_ne fun (z : x = a) => n1 (z ▸ hx)).mpr (h x (by simp [hx]))
    rw [List.length_erase_of_mem ha] at this
    have := List.length_pos_of_mem ha
    rw [List.length_cons]
    omega
theorem below_len {A : List Nat} {n : Nat} (nd : A.Nodup) (h : ∀ x ∈ A, x < n) : A.length ≤ n := by
  have := sub_len (B := List.range n) nd fun x hx => List.mem_range.mpr (h x hx)
  rwa [List.length_range] at this
theorem sub_eq {A B : List Nat} (nd : A.Nodup) (h : ∀ x ∈ A, x ∈ B) (l : B.length ≤ A.length) : ∀ x ∈ B, x ∈ A := fun x hx => by
  by_cases hA : x ∈ A
  · exact hA
  · have := sub_len (A := x :: A) (B := B) (List.nodup_cons.mpr ⟨hA, nd⟩) fun y hy => by
      rcases List.mem_cons.mp hy with rfl | hy
      · exact hx
      · exact h y hy
    rw [List.length_cons] at this
    omega
section
variable {X Y : Vol} {σ : L2.St} {H H' H0 H1 : Hp} {ms : Mp} {d l m : Addr} {te td ty tv : TE} {k : Int} {D : Ends} {tz : TS} {e : PyData} {ds : List PyData} {K : Fr}
theorem ev_inMM {n : Nat} (m : MakM X H0 d H ms) (hs : σ[n]? = some (some (.ref d))) (h : Ev (X.add d) ty σ H (vI k)) : Ev (X.add d) (tDIn ty (tVar n)) σ H (vB (getM ms k).isSome) := fun Y H1 e Q q => h Y H1 e _ fun x H2 e2 p2 => by
  cases p2
  obtain ⟨kvs, h1, h2⟩ := (m.ex)
  have h1' := (e.trans e2).old _ _ m.np h1
  have := isSomeM (i := k) (h2.same (e.trans e2).wo)
  refine ⟨_, hs, d, _, rfl, DGet.k (k := Sum.inl k) h1', ?_⟩
  rw [this]
  exact q _ H2 e2 (.bl _)
theorem ev_niMM {n : Nat} (m : MakM X H0 d H ms) (hs : σ[n]? = some (some (.ref d))) (h : Ev (X.add d) ty σ H (vI k)) : Ev (X.add d) (tDNotIn ty (tVar n)) σ H (vB (!(getM ms k).isSome)) := fun Y H1 e Q q => h Y H1 e _ fun x H2 e2 p2 => by
  cases p2
  obtain ⟨kvs, h1, h2⟩ := (m.ex)
  have h1' := (e.trans e2).old _ _ m.np h1
  have := isSomeM (i := k) (h2.same (e.trans e2).wo)
  refine ⟨_, hs, d, _, rfl, DGet.k (k := Sum.inl k) h1', ?_⟩
  rw [this]
  exact q _ H2 e2 (.bl _)
/-- l.clear(), l new behind H0: what stood there stands -/
theorem ext_upd {o : HO} (i0 : X.I H0) (hl : H0 l = none) (x : Ext X H0 H) (hp : (∀ u, H l = some u → Pl u)) (po : Pl o := by exact True.intro) : Ext X H0 (upd H l o) := by
  refine ⟨rfl, rfl, fun _ z => z, fun _ z => .inl z, fun b u n q => ?_, ⟨fun a z => ?_, fun p hp => ?_, x.inv.ti.put rfl (fun _ z => .inr z) (.inl hp) (i0.ti.fresh hl) po⟩⟩
  · rw [upd_ne (ne_of_none q hl)]
    exact x.old b u n q
  · rw [upd_ne fun (e : a = l) => i0.live a z (e ▸ hl)]
    exact x.inv.live a z
  · obtain ⟨a, b, q, r⟩ := x.inv.pl p hp
    refine ⟨a, b, ?_, r⟩
    rw [upd_ne fun (e : p = l) => i0.live p (X.sub _ hp) (e ▸ hl)]
    exact q
theorem s_clear {n : Nat} (i0 : X.I H0) (hl : H0 l = none) (x : Ext X H0 H) (hs : σ[n]? = some (some (.ref l))) (hd : Dx (X.wo H) (.ref l) (.list ds)) (k : Ext X H0 (upd H l (.lst [])) → D.nx σ (upd H l (.lst []))) : tDrop (tBM0 K "list" rClear (tVar n)) D σ H := by
  cases hd with
  | lst ea al => exact ⟨_, hs, .inl ⟨rfl, _, SqL.of (wo_le _ _ ea)⟩, l, _, rfl, rfl, wo_le _ _ ea, k (ext_upd i0 hl x (plOf (wo_le _ _ ea)))⟩
theorem q_clear {n : Nat} (i0 : X.I H0) (hl : H0 l = none) (x : Ext X H0 H) (hs : σ[n]? = some (some (.ref l))) (hd : Dx (X.wo H) (.ref l) (.list ds)) (k : Ext X H0 (upd H l (.lst [])) → tz D σ (upd H l (.lst []))) : tSeq (tDrop (tBM0 K "list" rClear (tVar n))) tz D σ H := s_clear (D := { D with nx := tz D }) i0 hl x hs hd k
theorem dx_ints_upd {o : HO} {zs : List Int} (hd : Dx (X.wo H) (.ref m) (.list (zs.map PyData.int))) (h : m ≠ l) : Dx (X.wo (upd H l o)) (.ref m) (.list (zs.map PyData.int)) := by
  cases hd with
  | lst ea al =>
    obtain ⟨h1, h2⟩ := wo_some ea
    exact .lst (by rw [wo_out h2, upd_ne h]; exact h1) (dx_of_ints al)
theorem dx_nats_upd {o : HO} {zs : List Nat} (hd : Dx (X.wo H) (.ref m) (.list (zs.map dN))) (h : m ≠ l) : Dx (X.wo (upd H l o)) (.ref m) (.list (zs.map dN)) := by
  have e : zs.map dN = (zs.map fun k : Nat => (k : Int)).map PyData.int := by rw [List.map_map]; rfl
  rw [e] at hd ⊢
  exact dx_ints_upd hd h
end
end Ee

namespace Ee
open PySem L2
section
variable {X Y : Vol} {σ : L2.St} {H H' H0 H1 : Hp} {ta tb tc te : TE} {K : Fr} {i j k : Int} {d e : PyData} {ds es : List PyData} {D : Ends} {tz : TS}
theorem inN_ints (k : Nat) (l : List Nat) : decide ((k : Int) ∈ l.map fun (k : Nat) => (k : Int)) = decide (k ∈ l) := by
  by_cases h : k ∈ l
  · rw [decide_eq_true h, decide_eq_true (List.mem_map.mpr ⟨k, h, rfl⟩)]
  · rw [decide_eq_false h, decide_eq_false fun z => by
      obtain ⟨j, hj, e⟩ := List.mem_map.mp z
      exact h (by rw [show k = j by omega]; exact hj)]
theorem ev_inN {k : Nat} {l : List Nat} (ha : Ev X ta σ H (vI (k : Int))) (hb : Ev X tb σ H (vL (l.map dN))) : Ev X (tOp (rIn K false) ta tb) σ H (vB (decide (k ∈ l))) :=
  (ev_inI (l := l.map fun (k : Nat) => (k : Int)) ha (hb.cast (by rw [List.map_map]; rfl))).cast (by rw [inN_ints])
theorem ev_niN {k : Nat} {l : List Nat} (ha : Ev X ta σ H (vI (k : Int))) (hb : Ev X tb σ H (vL (l.map dN))) : Ev X (tOp (rIn K true) ta tb) σ H (vB (!decide (k ∈ l))) :=
  (ev_niI (l := l.map fun (k : Nat) => (k : Int)) ha (hb.cast (by rw [List.map_map]; rfl))).cast (by rw [inN_ints])
theorem dx_live {H : Hp} {a : Addr} {d : PyData} (h : Dx H (.ref a) d) : H a ≠ none := by
  cases h with
  | lst e _ => rw [e]; exact fun z => nomatch z
  | tup e _ => rw [e]; exact fun z => nomatch z
  | dic e =>
    rcases e with e | ⟨_, e⟩ <;> rw [e] <;> exact fun z => nomatch z
theorem fresh_ne {a l : Addr} (h : Dx (X.wo H) (.ref a) d) (n : H l = none) : l ≠ a := fun z => by
  have h1 := dx_live (Dx.same wo_le _ _ h)
  rw [← z] at h1
  exact h1 n
theorem eqv_intsD : ∀ (g g' : List Int), PyData.eqv (.list (g.map PyData.int)) (.list (g'.map PyData.int)) = decide (g = g')
  | [], [] => by simp [PyData.eqv, PyData.eqvAll]
  | [], _ :: _ => by simp [PyData.eqv, PyData.eqvAll]
  | _ :: _, [] => by simp [PyData.eqv, PyData.eqvAll]
  | x :: g, y :: g' => by
    have ih := eqv_intsD g g'
    rw [PyData.eqv] at ih ⊢
    rw [List.map_cons, List.map_cons, PyData.eqvAll, ih]
    by_cases h : x = y
    · subst h; simp [PyData.eqv]
    · simp [PyData.eqv, h]
/-- x, y = two new objects -/
theorem q_par2N {m n : Nat} (ha : EvN X ta σ H d) (hb : EvN X tb σ H e) (iv : X.I H) (k : ∀ l1 l2 H1, H l1 = none → H l2 = none → l1 ≠ l2 → Ext X H H1 → Dx (X.wo H1) (.ref l1) d → Dx (X.wo H1) (.ref l2) e → tz D ((σ.set m (some (.ref l1))).set n (some (.ref l2))) H1) :
    tSeq (tPar m n (tCons ta (tCons tb tNil))) tz D σ H := by
  refine ha.go iv fun l1 H1 n1 e1 p1 => (hb.mono e1).go e1.inv fun l2 H2 n2 e2 p2 => ?_
  have ne : l1 ≠ l2 := fun z => by
    have h1 := dx_live p1
    rw [z] at h1
    by_cases hs : X.S l2
    · exact h1 (wo_in hs)
    · rw [wo_out hs] at h1
      exact h1 n2
  exact ⟨_, _, rfl, k l1 l2 H2 n1 (free_of e1 n2) ne (e1.trans e2) (e2.upD p1) p2⟩
theorem q_unpack2N {m n : Nat} (ha : EvN X ta σ H d) (hb : EvN X tb σ H e) (iv : X.I H) (k : ∀ l1 l2 H1, H l1 = none → H l2 = none → l1 ≠ l2 → Ext X H H1 → Dx (X.wo H1) (.ref l1) d → Dx (X.wo H1) (.ref l2) e → tz D ((σ.set m (some (.ref l1))).set n (some (.ref l2))) H1) :
    tSeq (tAsg (tTup (tCons ta (tCons tb tNil))) (gTup K 2 (gCons (gName m) (gCons (gName n) gNil)))) tz D σ H := by
  refine ha.go iv fun l1 H1 n1 e1 p1 => (hb.mono e1).go e1.inv fun l2 H2 n2 e2 p2 => ⟨by show 2 ≤ sizeLine; decide, fun t ht => ?_⟩
  have ne : l1 ≠ l2 := fun z => by
    have h1 := dx_live p1
    rw [z] at h1
    by_cases hs : X.S l2
    · exact h1 (wo_in hs)
    · rw [wo_out hs] at h1
      exact h1 n2
  have x := Sub.new (X := X) (o := .tup [.ref l1, .ref l2]) e2.inv ht
  exact ⟨_, _, rfl, SqT.of upd_same, rfl, _, _, rfl, _, _, rfl, rfl, k l1 l2 _ n1 (free_of e1 n2) ne ((e1.trans e2).trans x) (x.upD (e2.upD p1)) (x.upD p2)⟩
end
theorem sumS_bound {g : List Int} {C : Int} (c : 0 ≤ C) (hg : ∀ x ∈ g, -C ≤ x ∧ x ≤ C) : ∀ (p : List Stp), (∀ s ∈ p, s.1 < g.length ∧ (s.2 = 1 ∨ s.2 = -1)) → -(C * (p.length : Int)) ≤ sumS g p ∧ sumS g p ≤ C * (p.length : Int)
  | [], _ => by simp [sumS]
  | s :: p, h => by
    have ih := sumS_bound c hg p fun s hs => h s (by simp [hs])
    obtain ⟨h1, h2⟩ := h s (by simp)
    have hb := hg _ (gAt_mem h1)
    have e : ((s :: p).length : Int) = (p.length : Int) + 1 := by rw [List.length_cons]; rfl
    rw [sumS_cons, e, Int.mul_add, Int.mul_one]
    rcases h2 with h2 | h2 <;> rw [h2] <;> omega
theorem ints_ext {x y : List Int} (h : x.length = y.length) (e : ∀ k, k < x.length → gAt x k = gAt y k) : x = y := by
  apply List.ext_getElem?
  intro k
  by_cases hk : k < x.length
  · rw [get_gAt hk, get_gAt (by omega), e k hk]
  · rw [List.getElem?_eq_none (by omega), List.getElem?_eq_none (by omega)]
end Ee

namespace Ee
open PySem L2
/-! ## promises that say what is new in the answer; clear() of a tuple's part; drawn sides -/
section
variable {X Y : Vol} {σ : L2.St} {H H' H0 H1 : Hp} {ta tb tc te tl : TE} {t u tt : TT} {P P' : VP} {K : Fr} {i j k : Int} {b : Bool} {d e : PyData} {ds es : List PyData} {D : Ends} {tz ty tw : TS} {l : Addr}
def spU {α : Type} (pre : α → Prop) (Ps : α → List VP) (P : α → VP) (F : α → Hp → Hp → V → Prop) : Sp := fun vs H Q _ => ∃ (a : α) (S : Addr → Prop), pre a ∧ (∀ b, S b → H b ≠ none) ∧ AllP ((pure0 S).wo H) (Ps a) vs ∧ ∀ v H', Same H H' → (P a).at_ ((pure0 S).wo H') v → F a H H' v → Q v H'
theorem spU_len {α : Type} {pre : α → Prop} {Ps : α → List VP} {P : α → VP} {F : α → Hp → Hp → V → Prop} {vs : List V} {Q : VK} {E : XK} {n : Nat} (h : spU pre Ps P F vs H Q E) (hn : ∀ a, (Ps a).length = n) : vs.length = n := by
  obtain ⟨a, S, _, _, h, _⟩ := h
  rw [← hn a]
  exact (Paired.length h).symm
theorem allP_snoc {G : Hp} {P0 : VP} {v0 : V} (h0 : ∀ G, P0.at_ G v0) : ∀ {As : List VP} {us : List V}, AllP G As us → AllP G (As ++ [P0]) (us ++ [v0]) := by
  intro As us h
  induction h with
  | nil => exact .cons (h0 _) .nil
  | cons a _ ih => exact .cons a ih
theorem ev_callUD {α : Type} {pre : α → Prop} {Ps : α → List VP} {P : α → VP} {F : α → Hp → Hp → V → Prop} {E : XK} {tr : TA} {Pr : List VP} {P0 : VP} {v0 : V} (a : α) (h : EvA X tr σ H Pr) (hp : pre a) (hq : Ps a = Pr ++ [P0]) (h0 : ∀ G, P0.at_ G v0) : Ev X (tCall (spU pre Ps P F) [v0] E tr) σ H (P a) := fun Y H1 e Q q => h Y H1 e _ fun vs H2 e2 p2 => by
  show spU pre Ps P F (vs ++ [v0]) H2 Q E
  exact ⟨a, Y.S, hp, e2.inv.live, by rw [hq]; exact allP_snoc h0 p2, fun v H' s r _ => q v H' (e2.trans (.same s e2.inv)) r⟩
theorem q_asgUD {n : Nat} {α : Type} {pre : α → Prop} {Ps : α → List VP} {P : α → VP} {F : α → Hp → Hp → V → Prop} {E : XK} {tr : TA} {Pr : List VP} {P0 : VP} {v0 : V} (a : α) (h : EvA X tr σ H Pr) (hp : pre a) (hq : Ps a = Pr ++ [P0]) (h0 : ∀ G, P0.at_ G v0) (i : X.I H)
    (k : ∀ v H1 H2, Ext X H H1 → Ext X H1 H2 → (P a).at_ (X.wo H2) v → F a H1 H2 v → tz D (σ.set n (some v)) H2) : tSeq (tAsg (tCall (spU pre Ps P F) [v0] E tr) (gName n)) tz D σ H := h X H (.refl i) _ fun vs H1 e1 p1 => by
  show spU pre Ps P F (vs ++ [v0]) H1 _ E
  exact ⟨a, X.S, hp, e1.inv.live, by rw [hq]; exact allP_snoc h0 p1, fun v H' s r f => k v H1 H' e1 (.same s e1.inv) r f⟩
/-- the second part of the pair v, if v is a pair with the word s, is new -/
def NewSnd (s : Str) (H H' : Hp) (v : V) : Prop := ∀ t x l, v = .ref t → H' t = some (.tup [x, .ref l]) → x = .str s → H l = none
theorem q_clearAt {n : Nat} {a : Addr} {x : V} (i0 : X.I H0) (hl : H0 l = none) (x0 : Ext X H0 H) (hs : σ[n]? = some (some (.ref a))) (ha : X.wo H a = some (.tup [x, .ref l])) (hd : Dx (X.wo H) (.ref l) (.list ds)) (k : Ext X H0 (upd H l (.lst [])) → tz D σ (upd H l (.lst []))) :
    tSeq (tDrop (tBM0 K "list" rClear (tOp (rIxT K) (tVar n) (tC (.int 1))))) tz D σ H := by
  cases hd with
  | lst ea al =>
    refine ⟨_, hs, ?_⟩
    refine ⟨a, _, 1, _, rfl, rfl, SqT.of (wo_le _ _ ha), rfl, ?_⟩
    exact ⟨.inl ⟨rfl, _, SqL.of (wo_le _ _ ea)⟩, l, _, rfl, rfl, wo_le _ _ ea, k (ext_upd i0 hl x0 (plOf (wo_le _ _ ea)))⟩
theorem q_retNew {s : Str} (h : EvN X te σ H d) (i : X.I H) (k : ∀ v H1, Ext X H H1 → Dx (X.wo H1) v (.tuple [.str s, d]) → NewSnd s H H1 v → D.rt v H1) : tRet (tTup (tCons (tC (.str s)) (tCons te tNil))) D σ H :=
  h X H (.refl i) _ fun l H1 n e1 p1 => ⟨by show 2 ≤ sizeLine; decide, fun p hp => by
    have x := Sub.new (X := X) (o := .tup [.str s, .ref l]) e1.inv hp
    refine k _ _ (e1.trans x) (.tup (wo_new e1.inv hp) (.cons (.str _) (.cons (x.upD p1) .nil))) fun t y m ev et hy => ?_
    cases ev
    rw [upd_same] at et
    cases et
    exact n⟩
theorem NewSnd.other {G : Hp} {s s' : Str} {v : V} (h : Dx G v (.tuple [.str s', d])) (hG : Same G H') (ne : s' ≠ s) : NewSnd s H H' v := fun t x l ev et hx => by
  subst ev hx
  cases h with
  | tup ea al =>
    rw [hG _ _ ea] at et
    cases et
    cases al with
    | cons a _ =>
      cases a
      exact absurd rfl ne
theorem NewSnd.mono {s : Str} {H2 : Hp} {v : V} (h : NewSnd s H H' v) (e : Ext X H2 H) : NewSnd s H2 H' v := fun t x l a b c => free_of e (h t x l a b c)
theorem ev_notB {c : Bool} (ha : Ev X ta σ H (vB b)) (hb : Ev X tb σ H (vB c)) : Ev X (tOp rNotB ta tb) σ H (vB (!decide (b = c))) := ev_op2 ha hb fun Y x y H1 e px py Q q => by
  cases px
  cases py
  exact ⟨b, c, rfl, rfl, q _ H1 (.refl e.inv) (.bl _)⟩
theorem ev_isB {c : Bool} (ha : Ev X ta σ H (vB b)) (hb : Ev X tb σ H (vB c)) : Ev X (tOp rIsB ta tb) σ H (vB (decide (b = c))) := ev_op2 ha hb fun Y x y H1 e px py Q q => by
  cases px
  cases py
  exact ⟨b, c, rfl, rfl, q _ H1 (.refl e.inv) (.bl _)⟩
/-! statements with a list being made, with more to follow -/
theorem q_make {n : Nat} (i : X.I H) (k : ∀ l H1, H l = none → Mak X H l H1 [] → tz D (σ.set n (some (.ref l))) H1) : tSeq (tAsg (tLst tNil) (gName n)) tz D σ H := ⟨Nat.zero_le _, fun l hl => k l _ hl (Mak.start i hl)⟩
theorem q_app {n : Nat} (m : Mak X H0 l H ds) (hs : σ[n]? = some (some (.ref l))) (h : Ev (X.add l) te σ H (vD d)) (hz : ds.length < 40000) (k : ∀ H1, Mak X H0 l H1 (ds ++ [d]) → Wk (X.add l) H (X.add l) H1 → tz D σ H1) : tSeq (tDrop (tBM K "list" rAppend (tVar n) (tCons te tNil))) tz D σ H := s_app (D := { D with nx := tz D }) m hs h hz k
theorem q_set {ti : TE} {n : Nat} (m : Mak X H0 l H ds) (hs : σ[n]? = some (some (.ref l))) (h : Ev (X.add l) te σ H (vD d)) {j : Nat} (hi : Ev (X.add l) ti σ H (vI j)) (hj : j < ds.length) (k : ∀ H1, Mak X H0 l H1 (ds.set j d) → Wk (X.add l) H (X.add l) H1 → tz D σ H1) : tSeq (tAsg te (gSub (tVar n) ti rSetL)) tz D σ H := s_set (D := { D with nx := tz D }) m hs h hi hj k
theorem Mak.againN {ns : List Nat} (i : X.I H) (hl : H l = none) (e : Ext X H H') (h : Dx (X.wo H') (.ref l) (.list (ns.map dN))) : Mak X H l H' (ns.map dN) := by
  have e1 : ns.map dN = (ns.map fun k : Nat => (k : Int)).map PyData.int := by rw [List.map_map]; rfl
  rw [e1] at h ⊢
  exact Mak.again i hl e h
theorem Mak.cast {es : List PyData} (m : Mak X H0 l H ds) (e : ds = es) : Mak X H0 l H es := e ▸ m
/-- the place of a number in a list that ends .. -/
theorem last_nats {ns : List Nat} (h : ns ≠ []) : atI (ns.map dN) (-1) = some (dN (ns.getLastD 0)) := by
  have h0 : 0 < ns.length := List.length_pos_iff.mpr h
  have e : ixN (ns.map dN).length (-1) = some (ns.length - 1) := by
    rw [List.length_map]
    unfold ixN
    rw [if_neg (by decide), if_pos (by omega)]
    congr 1
    omega
  unfold atI
  rw [e]
  show (ns.map dN)[ns.length - 1]? = _
  rw [List.getElem?_map, ← List.getLast?_eq_getElem?, List.getLastD_eq_getLast?]
  cases h2 : ns.getLast? with
  | none => rw [List.getLast?_eq_none_iff] at h2; exact absurd h2 h
  | some d => rfl
end
end Ee

namespace Ee
open PySem PySem.Spec PyProof.Rows L2 HT
/-! ## xs[::w], xs a list, w 1 or -1; x, y = a list of two -/
def tTurnL (K : PySem.W.Frag) (te ts : TE) : TE := fun σ H Q => te σ H fun x H1 => ts σ H1 fun y H2 => ∃ a xs w, x = .ref a ∧ SqL K H2 a xs ∧ y = .int w ∧ (w = 1 ∨ w = -1) ∧ ∀ p, H2 p = none → Q (.ref p) (upd H2 p (.lst (if w = 1 then xs else xs.reverse)))
theorem pick_one (items : Array Value) : slicePick items none none (some 1) = items := by
  show slicePick items none none none = items
  rw [PySem.W.kmk_pick_nat (a := 0) (b := items.size) items (by rfl), List.drop_zero, List.take_of_length_le (by rw [Array.length_toList]; omega)]
theorem pe_turnL {X : Cx} {e st : Expr} {te ts : TE} {p3 pos : Pos} (he : PE X e te) (hst : PE X st ts) : PE X (.Subscript e (.Slice none none (some st) p3) pos) (tTurnL X.K te ts) := by
  refine ⟨fun pins s σ H Q I h => ?_⟩
  refine Subscript_ (thn (he.run pins s σ H _ I h) fun v s1 ⟨x, H1, I1, r1, q1⟩ => ?_)
  refine wpAny_Slice (thn (po_none.run pins s1 σ H1 (fun o H2 => o = none ∧ H2 = H1) I1 ⟨rfl, rfl⟩) fun vl s2 ⟨l, H2, I2, pl, el, e2⟩ => ?_)
  subst el e2
  refine thn (po_none.run pins s2 σ H2 (fun o H3 => o = none ∧ H3 = H2) I2 ⟨rfl, rfl⟩) fun vu s3 ⟨u, H3, I3, pu, eu, e3⟩ => ?_
  subst eu e3
  rw [evalPart_some]
  refine thn (hst.run pins s3 σ H3 _ I3 q1) fun vs s4 ⟨y, H4, I4, ry, a, xs, w, ex, hx, ey, hw, q⟩ => ?_
  subst ex ey
  cases r1
  obtain ⟨t, rfl⟩ := ry
  have I5 : Inv X pins σ H4 { s4 with heap := s4.heap.push { cls := .type "slice", data := .fields #[vl, vu, .int w t] } } := I4.kept (t' := s4.toks) fun b ob q => Heap.get?_push_of_some _ q
  obtain ⟨its, r, ht, hz⟩ := I5.list hx
  have hlen := r.length
  show wpAny (model X.prog X.w) X.A (subscriptTail e (.Slice none none (some st) p3) (.ref a) (.ref s4.heap.objs.size)) (EP X pins σ Q) X.xe { s4 with heap := s4.heap.push { cls := .type "slice", data := .fields #[vl, vu, .int w t] } }
  refine tail_any (ops := [.ref a, .ref s4.heap.objs.size]) ht.isList.typeIs (PySem.slot_list_getitem.lookup) ?_ (by with_unfolding_all rfl)
  refine wpAny_getItem_list_slice ht.isList (Heap.IsSliceOf.new _ vl vu (.int w t)) pl pu (.int w t) (by rcases hw with rfl | rfl <;> decide) ?_ (by rw [List.size_toArray]; omega)
  rcases hw with rfl | rfl
  · rw [pick_one]
    rw [if_pos rfl] at q
    refine ⟨.ref _, _, I5.laid (t' := s4.toks) (o := .lst xs) (fun b ob q => Heap.get?_push_of_some _ q) (Nat.le_refl _) ?_, rfl, q _ (I5.hok.fresh (Nat.le_refl _))⟩
    exact ⟨hz, _, 0, r, Heap.get?_push_size _ rfl⟩
  · rw [PySem.W.krv_pick]
    rw [if_neg (by decide)] at q
    refine ⟨.ref _, _, I5.laid (t' := s4.toks) (o := .lst xs.reverse) (fun b ob q => Heap.get?_push_of_some _ q) (Nat.le_refl _) ?_, rfl, q _ (I5.hok.fresh (Nat.le_refl _))⟩
    exact ⟨by rw [List.length_reverse]; exact hz, _, 0, r.reverse, Heap.get?_push_size _ rfl⟩
theorem pe_turnLK {X : Cx} {K : PySem.W.Frag} {e st : Expr} {te ts : TE} {p3 pos : Pos} (he : PE X e te) (hst : PE X st ts) (hK : X.K = K := by rfl) : PE X (.Subscript e (.Slice none none (some st) p3) pos) (tTurnL K te ts) := by
  subst hK
  exact pe_turnL he hst
section
variable {X Y : Vol} {σ : L2.St} {H H' H0 H1 : Hp} {ta tb tc te tl ti : TE} {K : Fr} {i j k : Int} {d e : PyData} {ds es : List PyData} {D : Ends} {tz : TS} {R : PyData → Prop}
/-- a drawn list, turned or not -/
theorem er_turnL {S : PyData → Prop} (h : EvR X te σ H R) (hi : Ev X ti σ H (vI i)) (hw : i = 1 ∨ i = -1) (hR : ∀ d, R d → ∃ ds, d = .list ds ∧ S (.list (if i = 1 then ds else ds.reverse))) : EvR X (tTurnL K te ti) σ H S := fun Y H1 x Q q => h Y H1 x _ fun l H2 d n e2 hd p2 => hi Y H2 (x.trans e2) _ fun w H3 e3 p3 => by
  cases p3
  obtain ⟨ds, rfl, hS⟩ := hR d hd
  cases e3.upP (P := vD _) p2 with
  | lst ea al =>
    rename_i xs
    refine ⟨_, xs, i, rfl, SqL.of (wo_le _ _ ea), rfl, hw, fun p hp => ?_⟩
    by_cases h1 : i = 1
    · rw [if_pos h1] at hS ⊢
      exact laid e3.inv al (fun l H4 n4 e4 p4 => q l H4 _ (free_of e2 (free_of e3 n4)) ((e2.trans e3).trans e4) hS p4) p hp
    · rw [if_neg h1] at hS ⊢
      exact laid e3.inv al.rev (fun l H4 n4 e4 p4 => q l H4 _ (free_of e2 (free_of e3 n4)) ((e2.trans e3).trans e4) hS p4) p hp
theorem q_unpackL2 {i j : Nat} (h : Ev X te σ H (vL [d, e])) (iv : X.I H) (k : ∀ v1 v2 H1, Ext X H H1 → Dx (X.wo H1) v1 d → Dx (X.wo H1) v2 e → tz D ((σ.set i (some v1)).set j (some v2)) H1) : tSeq (tAsg te (gLst K 2 (gCons (gName i) (gCons (gName j) gNil)))) tz D σ H := h.go iv fun v H1 e p => by
  cases p with
  | lst ea al =>
    cases al with
    | cons a t =>
      cases t with
      | cons b t =>
        cases t
        exact ⟨_, _, rfl, SqL.of (wo_le _ _ ea), rfl, _, _, rfl, _, _, rfl, rfl, k _ _ H1 e a b⟩
theorem ev_tupleOf (h : Ev X te σ H (vL ds)) : Ev X (tCB (fun xs H Q => ∃ p ys, xs = [V.ref p] ∧ ((SqL K H p ys ∧ ∀ l, H l = none → Q (V.ref l) (upd H l (.tup ys))) ∨ (SqT K H p ys ∧ Q (V.ref p) H))) (tCons te tNil)) σ H (vT ds) := fun Y H1 e Q q => h Y H1 e _ fun v H2 e2 p2 => by
  cases p2 with
  | lst ea al =>
    rename_i a0 xs
    refine ⟨_, xs, rfl, .inl ⟨SqL.of (wo_le _ _ ea), fun l hl => ?_⟩⟩
    have x := Sub.new (X := Y) (o := .tup xs) e2.inv hl
    exact q _ _ (e2.trans x) (.tup (wo_new e2.inv hl) (x.upA al))
/-- what is drawn at a place of a list -/
theorem ev_ixPX {Ps : List VP} {P : VP} {pr : Int → Prop} (ha : Ev X ta σ H (vLs Ps)) (hb : Ev X tb σ H (vX fun d => ∃ r, d = .int r ∧ pr r)) (hi : ∀ r, pr r → ∃ n : Nat, r = (n : Int) ∧ Ps[n]? = some P) : Ev X (tOp (rIxL K) ta tb) σ H P := ev_op2 ha hb fun Y x y H1 e ⟨a, vs, hx, h1, al⟩ ⟨_, ⟨r, rfl, hr⟩, py⟩ Q q => by
  cases py
  subst hx
  obtain ⟨n, rfl, hn⟩ := hi r hr
  obtain ⟨v, hv, hp⟩ := AllP.get al hn
  exact ⟨a, vs, (n : Int), v, rfl, rfl, SqL.of (wo_le _ _ h1), atI_nat hv, q _ H1 (.refl e.inv) hp⟩
theorem ev_inDD (ha : Ev X ta σ H (vD d)) (hb : Ev X tb σ H (vL ds)) (sd : SeqAt.shaped d = true) (se : SeqAt.shaped (.list ds) = true) : Ev X (tOp (rInD K) ta tb) σ H (vB (ds.any fun z => PyData.eqv z d)) := ev_op2 ha hb fun Y x y H1 e px py Q q =>
  ⟨_, _, Dx.dp _ _ (Dx.same wo_le _ _ px) (nd_shaped sd), Dx.dp _ _ (Dx.same wo_le _ _ py) (nd_shaped se), sd, se, q _ H1 (.refl e.inv) (.bl _)⟩
theorem sqT_nil : Ev X te σ H (vT []) → Ev X te σ H (vSq K []) := fun h => h.sqT
end
end Ee

/-! ## dict comprehensions -/
namespace Ee
open PySem L2
theorem putM_new {ms : Mp} {k : Int} {d : PyData} (h : k ∉ ms.map (·.1)) : putM ms k d = ms ++ [(k, d)] := by
  unfold putM
  rw [if_neg]
  intro z
  rw [List.any_eq_true] at z
  obtain ⟨m, hm, e⟩ := z
  exact h (List.mem_map.mpr ⟨m, hm, of_decide_eq_true e⟩)
/-- a new dict -/
def EvNM (X : Vol) (te : TE) (σ : L2.St) (H : Hp) (ms : Mp) : Prop := ∀ (Y : Vol) (H1 : Hp), Sub X H Y H1 → ∀ Q : VK, (∀ l H2, H1 l = none → Ext Y H1 H2 → (vM ms).at_ (Y.wo H2) (.ref l) → Q (.ref l) H2) → te σ H1 Q
theorem EvNM.ev {X : Vol} {te : TE} {σ : L2.St} {H : Hp} {ms : Mp} (h : EvNM X te σ H ms) : Ev X te σ H (vM ms) := fun Y H1 e Q q => h Y H1 e Q fun l H2 _ e2 p => q _ H2 e2 p
theorem EvNM.cast {X : Vol} {te : TE} {σ : L2.St} {H : Hp} {ms ms' : Mp} (h : EvNM X te σ H ms) (w : ms = ms') : EvNM X te σ H ms' := w ▸ h
theorem Ev.castM {X : Vol} {te : TE} {σ : L2.St} {H : Hp} {ms ms' : Mp} (h : Ev X te σ H (vM ms)) (w : ms = ms') : Ev X te σ H (vM ms') := w ▸ h
section
variable {α : Type} {X Y : Vol} {σ : L2.St} {H H' H0 H1 : Hp} {ms : Mp} {d : Addr} {te td ty tv tk : TE} {D : Ends} {tz : TS} {dd : α → PyData} {l : List α}
theorem ed_dcT {wi : TI} {g : TG} {tt : TT} {vs : List Nat} (p : α → Bool) (k : α → Int) (f : α → PyData) (nd : ((l.filter p).map k).Nodup) (hs : EvS X wi σ H (l.map dd)) (hn : l.length ≤ 40000)
    (step : ∀ (Y : Vol) (i : Nat) (a : α) (v : V) (H1 : Hp), l[i]? = some a → Sub X H Y H1 → Dx (Y.wo H1) v (dd a) → Tgt g v (wipe σ vs) H1 fun σ2 H2 => H2 = H1 ∧ wipe σ2 vs = wipe σ vs ∧ EvT Y tt σ2 H1 (p a) ∧ (p a = true → Ev Y tk σ2 H1 (vI (k a)) ∧ Ev Y tv σ2 H1 (vD (f a)))) :
    EvNM X (tDc wi g tt tk tv vs) σ H ((l.filter p).map fun a => (k a, f a)) := fun Y H1 e Q q => hs Y H1 e _ fun J H2 e2 sq D hD => by
  have i2 := e2.inv
  let ms : Nat → Mp := fun i => ((l.take i).filter p).map fun a => (k a, f a)
  have mlen : ∀ i, i ≤ l.length → (ms i).length ≤ i := fun i hi => by
    show ((List.map _ _).length) ≤ i
    rw [List.length_map]
    exact Nat.le_trans (List.length_filter_le _ _) (by rw [List.length_take]; omega)
  let Inv : Nat → Hp → Prop := fun i H' => MakM Y H2 D H' (ms i)
  refine ⟨fun i m H => m = l.length - i ∧ i ≤ l.length ∧ Inv i H, ⟨l.length, by simp, Nat.zero_le _, MakM.start i2 hD⟩, ?_⟩
  rintro i m H' ⟨rfl, hi, mk⟩
  have hlm : (l.map dd).length = l.length := List.length_map ..
  by_cases hlt : i < l.length
  · refine .inr ⟨sq.go _ _ _ mk.wk (by rw [hlm]; exact hlt), Inv (i + 1), fun H'' p => ⟨l.length - (i + 1), by omega, rfl, hlt, p⟩, fun x H'' y => ?_⟩
    obtain ⟨d, hd, e3, hx⟩ := sq.yld _ _ _ _ _ mk.wk (by rw [hlm]; exact hlt) y
    obtain ⟨a, ha, rfl⟩ := getT hd
    have m3 := mk.ext e3
    refine step (Y.add D) i a x H'' ha ((e.trans e2).trans m3.sub) hx _ ?_
    rintro σ2 H3 ⟨rfl, hw, hb, ht⟩
    refine ⟨hw, hb.go m3.inv fun H4 e4 => ?_⟩
    have m4 := m3.ext e4
    have tk1 : ms (i + 1) = ms i ++ (if p a = true then [(k a, f a)] else []) := by
      show List.map _ _ = List.map _ _ ++ _
      rw [Wm.take_snoc ha, List.filter_append, List.map_append]
      congr 1
      by_cases h : p a = true
      · rw [if_pos h, List.filter_cons_of_pos h]; rfl
      · rw [if_neg h, List.filter_cons_of_neg h]; rfl
    cases hpa : p a with
    | false =>
      refine iteF ?_
      show MakM Y H2 D H4 (ms (i + 1))
      rw [tk1, hpa, if_neg Bool.false_ne_true, List.append_nil]
      exact m4
    | true =>
      obtain ⟨hk, hv⟩ := ht hpa
      refine iteT ((hk.mono e4) (Y.add D) H4 (.refl m4.inv) _ fun y H5 e5 p5 => ?_)
      cases p5
      refine (hv.mono (e4.trans e5)) (Y.add D) H5 (.refl e5.inv) _ fun z H6 e6 p6 => ?_
      have m6 := m4.ext (e5.trans e6)
      obtain ⟨kvs, h1, h2⟩ := m6.ex
      have new : k a ∉ (ms i).map (·.1) := by
        show k a ∉ List.map _ (List.map _ _)
        rw [List.map_map]
        show k a ∉ ((l.take i).filter p).map k
        have e1 : l.filter p = (l.take i).filter p ++ (a :: (l.drop (i + 1)).filter p) := by
          conv => lhs; rw [← List.take_append_drop i l]
          rw [List.filter_append]
          congr 1
          have : l.drop i = a :: l.drop (i + 1) := by
            rw [List.drop_eq_getElem_cons hlt]
            rw [List.getElem?_eq_getElem hlt] at ha
            cases ha
            rfl
          rw [this, List.filter_cons_of_pos hpa]
        rw [e1, List.map_append, List.nodup_append] at nd
        exact fun z => nd.2.2 _ z _ (List.mem_cons_self ..) rfl
      refine ⟨kvs, Sum.inl (k a), rfl, h1, ?_, ?_⟩
      · rw [h2.len]
        refine Nat.lt_of_le_of_lt (mlen i hi) (Nat.lt_of_lt_of_le hlt (Nat.le_trans hn (by decide)))
      · show MakM Y H2 D _ (ms (i + 1))
        rw [tk1, if_pos hpa, ← putM_new new]
        refine ⟨m6.i0, m6.fr, m6.sub.put m6.i0 m6.fr, _, upd_same, ?_⟩
        rw [wo_put]
        exact h2.put p6
  · have e1 : i = l.length := by omega
    subst e1
    obtain ⟨x, pv⟩ := mk.done
    refine .inl ⟨sq.stop _ _ mk.wk |> fun h => by rw [hlm] at h; exact h, q _ H' (free_of e2 hD) (e2.trans x) ?_⟩
    have : ms l.length = (l.filter p).map fun a => (k a, f a) := by
      show ((l.take l.length).filter p).map _ = _
      rw [List.take_length]
    rw [← this]
    exact pv
/-- what is evaluated, a dict, while a dict that is walked over is locked -/
theorem ev_lockM {n : Nat} {a : Addr} {te : TE} {ms' : Mp} (hs : σ[n]? = some (some (.ref a))) (hm : (vM ms).at_ (X.wo H) (.ref a))
    (h : ∀ (Y : Vol) (H1 : Hp) (kv : List (Key × V)) (od : Obj), Y.pool = X.pool → Ag (X.wo H) (Y.wo H1) → Y.I H1 → Y.wo H1 a = some (.frz od (.dK kv)) → KvM (Y.wo H1) kv ms → EvNM Y te σ H1 ms') : EvNM X (tLockE te) σ H ms' := fun Y H1 e Q q => by
  obtain ⟨a', kv, ea, ha, hk⟩ := e.upP hm
  cases ea
  obtain ⟨ha1, haS⟩ := wo_some ha
  refine ⟨a, .dK kv, ha1, True.intro, fun od => ?_⟩
  have ne : ∀ {b : Addr}, Y.S b → b ≠ a := fun hb z => haS (z ▸ hb)
  have iv : Y.I (upd H1 a (.frz od (.dK kv))) := I_upd e.inv ha1 haS
  have ag1 : Ag (Y.wo H1) (Y.wo (upd H1 a (.frz od (.dK kv)))) := ag_lock ha1
  refine h Y _ kv od e.pool ((Ag.of e.wo).trans ag1) iv (by rw [wo_out haS, upd_same]) (hk.ag ag1) Y _ (.refl iv) _ fun l H2 hl e2 ⟨l', kv2, el, hl2, hk2⟩ => ?_
  cases el
  have f2 : H2 a = some (.frz od (.dK kv)) := e2.old a _ (fun z => haS (Y.subV _ z)) upd_same
  have la : l ≠ a := fun z => by rw [z, upd_same] at hl; cases hl
  rw [upd_ne la] at hl
  have ag2 : Ag (Y.wo H2) (Y.wo (upd H2 a (.dK kv))) := ag_free f2
  refine ⟨f2, q l _ hl ⟨rfl, rfl, fun _ z => z, fun _ z => .inl z, fun b o nb hb => ?_, I_upd e2.inv f2 haS⟩ ⟨l, kv2, rfl, ?_, hk2.ag ag2⟩⟩
  · by_cases hba : b = a
    · subst hba
      rw [upd_same]
      rw [ha1] at hb
      exact hb
    · rw [upd_ne hba]
      exact e2.old b o nb (by rw [upd_ne hba]; exact hb)
  · obtain ⟨h1, h2⟩ := wo_some hl2
    rw [wo_out h2, upd_ne la]
    exact h1
theorem MakM.cast {ms' : Mp} (m : MakM X H0 d H ms) (e : ms = ms') : MakM X H0 d H ms' := e ▸ m
theorem s_putMX {n : Nat} {k : Int} {R : PyData → Prop} (m : MakM X H0 d H ms) (hs : σ[n]? = some (some (.ref d))) (h : Ev (X.add d) te σ H (vX R)) (hk : Ev (X.add d) ty σ H (vI k)) (hl : ms.length ≤ 1000)
    (kk : ∀ e H1, R e → MakM X H0 d H1 (putM ms k e) → Wk (X.add d) H (X.add d) H1 → D.nx σ H1) : sDPut (tVar n) ty te D σ H := h.go m.sub.inv fun x H1 e1 ⟨z, hz, px⟩ => by
  refine ⟨_, hs, (hk.mono e1).go e1.inv fun y H2 e2 py => ?_⟩
  cases py
  have m2 := m.ext (e1.trans e2)
  obtain ⟨kvs, h1, h2⟩ := m2.ex
  refine ⟨d, _, rfl, DPut.k (k := Sum.inl k) h1 (by rw [h2.len]; exact small1000 hl), kk z _ hz ⟨m2.i0, m2.fr, m2.sub.put m2.i0 m2.fr, _, upd_same, ?_⟩ ((e1.trans e2).wk.trans m2.wkput)⟩
  rw [wo_put]
  exact h2.put (e2.upD px)
theorem q_putMX {n : Nat} {k : Int} {R : PyData → Prop} (m : MakM X H0 d H ms) (hs : σ[n]? = some (some (.ref d))) (h : Ev (X.add d) te σ H (vX R)) (hk : Ev (X.add d) ty σ H (vI k)) (hl : ms.length ≤ 1000)
    (kk : ∀ e H1, R e → MakM X H0 d H1 (putM ms k e) → Wk (X.add d) H (X.add d) H1 → tz D σ H1) : tSeq (sDPut (tVar n) ty te) tz D σ H := s_putMX (D := { D with nx := tz D }) m hs h hk hl kk
end
end Ee

/-! ## the text of a list whose entries may be dicts of numbers -/
namespace Ee
open PySem PySem.Spec PyProof.Rows L2
def dictT (tg : List (Nat × Int)) : PyData := .dict (tg.map fun p => (.int (p.1 : Int), .int p.2))
inductive ItD (K : Fr) (H : Hp) : V → PyData → Prop
  | dat {v : V} {d : PyData} : Dp K H v d → d.hasDict = false → ItD K H v d
  | dic {a : Addr} {kv : List (Key × V)} {tg : List (Nat × Int)} : H a = some (.dK kv) → KvM H kv (mT tg) → ItD K H (.ref a) (dictT tg)
  | emp {a : Addr} : Rd H a (.dK []) → ItD K H (.ref a) (.dict [])
abbrev ItDs (K : Fr) (H : Hp) : List V → List PyData → Prop := Paired fun v d => ItD K H v d
def encK : Key → PyData
  | .inl i => .int i
  | .inr x => .str x
theorem encK_reads {h : Heap} : ∀ (k : Key) (key : Value), keyIs k key = true → Reads h key (encK k) [] := by
  intro k key hk
  rcases keyIs_shape hk with ⟨i, t, rfl, rfl⟩ | ⟨x, t, rfl, rfl⟩
  · exact Reads.int i t
  · exact Reads.str x t
theorem pairs_ints {H : Hp} {h : Heap} : ∀ {kv : List (Key × V)} {tg : List (Nat × Int)} {vs : List (Key × Value)}, KvM H kv (mT tg) → KV kv vs → PyProof.V.PairsRead h encK vs (tg.map fun p => (PyData.int (p.1 : Int), PyData.int p.2)) []
  | _, [], _, .nil, .nil => .nil
  | _, p :: tg, _, .cons (a := k) ⟨a1, a2⟩ t, .cons (b := r) ⟨r1, r2⟩ rt => by
    have ih := pairs_ints (h := h) t rt
    obtain ⟨k1, k2⟩ := k
    obtain ⟨q1, q2⟩ := r
    dsimp only at a1 a2 r1 r2
    subst a1
    subst r1
    cases a2
    obtain ⟨tk, rfl⟩ := r2
    exact .cons (as := []) (.int _ _) ih
section
variable {X : Cx} {pins : List (Addr × Obj)} {σ : L2.St} {H : Hp} {s : Shared}
theorem ItD.rd (I : Inv X pins σ H s) {v : V} {d : PyData} {u : Value} (h : ItD X.K H v d) (r : RelV v u) : ∃ as, Reads s.heap u d as := by
  cases h with
  | dat h nd => exact Dp.reads I d v u h r
  | dic ha hk =>
    cases r
    obtain ⟨_, na, vs, kv, dd⟩ := I.hok _ _ ha
    exact ⟨_, PyProof.V.reads_dictOf (enc := encK) encK_reads dd (pairs_ints hk kv)⟩
  | emp ha =>
    cases r
    obtain ⟨_, na, vs, kv, dd⟩ := ha.ok I.hok
    cases kv
    exact ⟨_, PyProof.V.reads_dictOf (enc := encK) (D := []) (bs := []) encK_reads dd .nil⟩
theorem ItDs.rd (I : Inv X pins σ H s) : ∀ {vs : List V} {ds : List PyData} {us : List Value}, ItDs X.K H vs ds → Vals vs us → ∃ as, ReadsAll s.heap us ds as
  | _, _, _, .nil, .nil => ⟨_, .nil⟩
  | _, _, _, .cons h hs, .cons r rs => by
    obtain ⟨as, q1⟩ := h.rd I r
    obtain ⟨bs, q2⟩ := ItDs.rd I hs rs
    exact ⟨_, .cons q1 q2⟩
theorem ItD.rep (I : Inv X pins σ H s) {v : V} {d : PyData} {u : Value} (h : ItD X.K H v d) (r : RelV v u) (hs : d.showable = true) (hz : d.shown.length ≤ sizeLine) : ∃ bs, ReadAtMost s.heap d.depth bs ∧ ReprK X.prog X.w bs s.heap d.depth u d.shown := by
  cases h with
  | dat h nd =>
    obtain ⟨as, rd⟩ := Dp.reads I d v u h r
    exact ReprK.of_reads rd hs (PyData.noDict_hsm nd) hz
  | dic ha hk =>
    cases r
    obtain ⟨_, na, vs, kv, dd⟩ := I.hok _ _ ha
    have rd := PyProof.V.reads_dictOf (enc := encK) encK_reads dd (pairs_ints hk kv)
    refine ReprK.of_reads rd hs (fun _ z => ?_) hz
    have z' := List.mem_singleton.mp z
    rw [← z'] at na
    simp at na
  | emp ha =>
    cases r
    obtain ⟨_, na, vs, kv, dd⟩ := ha.ok I.hok
    cases kv
    have rd := PyProof.V.reads_dictOf (enc := encK) (D := []) (bs := []) encK_reads dd .nil
    refine ReprK.of_reads rd hs (fun _ z => ?_) hz
    have z' := List.mem_singleton.mp z
    rw [← z'] at na
    simp at na
theorem ItDs.rep (I : Inv X pins σ H s) : ∀ {vs : List V} {ds : List PyData} {us : List Value}, ItDs X.K H vs ds → Vals vs us → PyData.showableAll ds = true → (∀ t ∈ PyData.shownAll ds, t.length ≤ sizeLine) →
    ∃ bs, ReadAtMost s.heap (PyData.depthAll ds) bs ∧ ReprAllK X.prog X.w bs s.heap (PyData.depthAll ds) us (PyData.shownAll ds)
  | _, _, _, .nil, .nil, _, _ => ⟨[], (fun _ h => nomatch h), by simp only [PyData.shownAll]; exact .nil⟩
  | _, _, _, .cons (b := d) (l₂ := ds) h hs, .cons r rs, hw, hz => by
    have hw' : d.showable = true ∧ PyData.showableAll ds = true := by simpa [PyData.showableAll] using hw
    obtain ⟨b1, hb1, k1⟩ := h.rep I r hw'.1 (hz _ (by simp only [PyData.shownAll]; exact List.mem_cons_self ..))
    obtain ⟨b2, hb2, k2⟩ := ItDs.rep I hs rs hw'.2 (fun t ht => hz t (by simp only [PyData.shownAll]; exact List.mem_cons_of_mem _ ht))
    refine ⟨b1 ++ b2, ?_, ?_⟩
    · intro b hm
      simp only [PyData.depthAll]
      rcases List.mem_append.mp hm with hm | hm
      · obtain ⟨d', as', r', hd'⟩ := hb1 b hm
        exact ⟨d', as', r', Nat.le_trans hd' (Nat.le_max_left _ _)⟩
      · obtain ⟨d', as', r', hd'⟩ := hb2 b hm
        exact ⟨d', as', r', Nat.le_trans hd' (Nat.le_max_right _ _)⟩
    · simp only [PyData.depthAll, PyData.shownAll]
      exact .cons ((k1.more fun b hb => List.mem_append_left _ hb).level_le (Nat.le_max_left _ _)) (k2.more_le (fun b hb => List.mem_append_right _ hb) (Nat.le_max_right _ _))
end
def rReprL (K : Fr) : List V → Hp → VK → Prop := fun xs H Q => ∃ a vs ds, xs = [.ref a] ∧ H a = some (.lst vs) ∧ ItDs K H vs ds ∧ (PyData.list ds).showable = true ∧ (PyData.list ds).depth ≤ 64 ∧ (PyData.list ds).shown.length ≤ sizeLine ∧ Q (.str (PyData.list ds).shown) H
theorem paired_deep {H : Hp} {K : Fr} {vs : List V} {ds : List PyData} (h : ItDs K H vs ds) : vs.length = ds.length := Paired.length h
/-- repr(list) where all is quiet: a list of at least one entry -/
theorem call_reprL {X : Cx} {K : Fr} (quiet : Gd.Quiet X.A) (hu : X.A.units + 70 < cLine) (e : X.K = K := by rfl) : CallR X (.builtin "repr") (rReprL K) := by
  subst e
  intro pins s σ H xs us Q I r h
  obtain ⟨a, vs, ds, rfl, ha, hi, hs, hd, hz, q⟩ := h
  cases r with
  | cons r1 r2 =>
    cases r2
    cases r1
    obtain ⟨_, its, n, rv, ho⟩ := I.hok a _ ha
    have hz' : (listText (PyData.shownAll ds)).length ≤ sizeLine := by simpa only [PyData.shown] using hz
    obtain ⟨bs, hb, hk⟩ := ItDs.rep I hi rv (by simpa [PyData.showable] using hs) (fun t ht => Nat.le_trans (listText_mem_le ht) hz')
    have hq : ∀ h' u tk, (∀ b o, s.heap.get? b = some o → h'.get? b = some o) → EP X pins σ Q (.str (listText (PyData.shownAll ds)) u) { s with heap := h', toks := tk } := fun h' u tk k => ⟨.str _, H, I.kept (t' := tk) k, ⟨_, rfl⟩, by
      have e1 : (PyData.list ds).shown = listText (PyData.shownAll ds) := by simp only [PyData.shown]
      rw [← e1]
      exact q⟩
    have hu2 : X.A.units + 2 + PyData.depthAll ds < cLine := by
      have : (PyData.list ds).depth = PyData.depthAll ds + 1 := by simp only [PyData.depth]
      omega
    refine call_repr_slot (by omega) ⟨_, ho, rfl⟩ F.slot_list_repr.toG ?_
    cases its with
    | nil =>
      cases rv
      cases hi
      simp only [PyData.shownAll, listText_nil] at hq
      exact call_list_repr_empty ⟨_, ho, rfl⟩ ho rfl ⟨_, _, rfl, hq s.heap _ _ fun _ _ e => e⟩
    | cons x l =>
      have hm : a ∉ bs := by
        obtain ⟨as, ra⟩ := ItDs.rd I hi rv
        exact not_mem_of_deeper (.list (vs := (x :: l).toArray) ho rfl rfl ra) (by simp only [PyData.depth]; omega) hb
      exact call_list_reprK (A := X.A.in1) ho rfl rfl hm (by simpa using hk.length_eq) (fun i y e => hk.item i y (by simpa using e)) quiet (fun b _ => Clear.nil b) (by show X.A.units + 1 + (PyData.depthAll ds + 1) < cLine; omega) (fun _ _ e => e) (fun h' u tk k => ⟨_, _, rfl, hq h' u tk k⟩) hz'
structure Ty (B k : Nat) (d : PyData) : Prop where
  ls : d.leavesShort 120 = true
  bk : d.bulk ≤ B
  sh : d.showable = true
  dp : d.depth ≤ k
structure TyL (B k : Nat) (ds : List PyData) : Prop where
  ls : PyData.leavesShortAll 120 ds = true
  bk : PyData.bulkAll ds ≤ B
  sh : PyData.showableAll ds = true
  dp : PyData.depthAll ds ≤ k
theorem Tx.ty {B k : Nat} {d : PyData} (h : Tx B k d) : Ty B k d := ⟨h.ls, h.bk, h.sh, h.dp⟩
theorem Ty.mono {B B' k k' : Nat} {d : PyData} (h : Ty B k d) (a : B ≤ B') (b : k ≤ k') : Ty B' k' d := ⟨h.ls, Nat.le_trans h.bk a, h.sh, Nat.le_trans h.dp b⟩
theorem TyL.nil : TyL 0 0 [] := ⟨by simp [PyData.leavesShortAll], by simp [PyData.bulkAll], by simp [PyData.showableAll], by simp [PyData.depthAll]⟩
theorem TyL.cons {A B k l : Nat} {d : PyData} {ds : List PyData} (h : Ty A k d) (t : TyL B l ds) : TyL (A + 1 + B) (max k l) (d :: ds) := by
  refine ⟨?_, ?_, ?_, ?_⟩
  · rw [PyData.leavesShortAll, h.ls, t.ls]; rfl
  · rw [PyData.bulkAll]; have := h.bk; have := t.bk; omega
  · rw [PyData.showableAll, h.sh, t.sh]; rfl
  · rw [PyData.depthAll]; have := h.dp; have := t.dp; omega
theorem Ty.lst {B k : Nat} {ds : List PyData} (h : TyL B k ds) : Ty B (k + 1) (.list ds) := by
  refine ⟨?_, ?_, ?_, ?_⟩
  · rw [PyData.leavesShort]; exact h.ls
  · rw [PyData.bulk]; exact h.bk
  · rw [PyData.showable]; exact h.sh
  · rw [PyData.depth]; have := h.dp; omega
theorem Ty.fits {B k : Nat} {d : PyData} (h : Ty B k d) (b : B ≤ 100000) : d.shown.length ≤ sizeLine := by
  have e := PyData.shown_le_bulk 120 (by decide) d h.ls
  have h2 : (120 + 2) * d.bulk ≤ 122 * 100000 := Nat.mul_le_mul (by decide) (Nat.le_trans h.bk b)
  rw [sizeLine_eq]
  omega
theorem ty_dict {tg : List (Nat × Int)} (h : ∀ p ∈ tg, p.1 ≤ 1000000 ∧ -(10 ^ 40) ≤ p.2 ∧ p.2 ≤ 10 ^ 40) : Ty (2 * tg.length) 1 (dictT tg) := by
  have key : ∀ l : List (Nat × Int), (∀ p ∈ l, p.1 ≤ 1000000 ∧ -(10 ^ 40) ≤ p.2 ∧ p.2 ≤ 10 ^ 40) → PyData.leavesShortKv 120 (l.map fun p => (.int (p.1 : Int), .int p.2)) = true ∧ PyData.bulkKv (l.map fun p => (.int (p.1 : Int), .int p.2)) = 2 * l.length ∧ PyData.showableKv (l.map fun p => (.int (p.1 : Int), .int p.2)) = true ∧ PyData.depthKv (l.map fun p => (.int (p.1 : Int), .int p.2)) = 0 := by
    intro l
    induction l with
    | nil => intro _; simp [PyData.leavesShortKv, PyData.bulkKv, PyData.showableKv, PyData.depthKv]
    | cons p l ih =>
      intro hl
      obtain ⟨i1, i2, i3, i4⟩ := ih fun q hq => hl q (List.mem_cons_of_mem _ hq)
      obtain ⟨q1, q2, q3⟩ := hl p (List.mem_cons_self ..)
      have tk : Tx 0 0 (.int (p.1 : Int)) := .num (by omega) (by omega)
      have tv : Tx 0 0 (.int p.2) := .num q2 q3
      rw [List.map_cons]
      refine ⟨?_, ?_, ?_, ?_⟩
      · rw [PyData.leavesShortKv, tk.ls, tv.ls, i1]; rfl
      · rw [PyData.bulkKv, i2, PyData.bulk, PyData.bulk, List.length_cons]; omega
      · rw [PyData.showableKv, tk.sh, tv.sh, i3]; rfl
      · rw [PyData.depthKv, i4, PyData.depth, PyData.depth]; rfl
  obtain ⟨k1, k2, k3, k4⟩ := key tg h
  unfold dictT
  refine ⟨?_, ?_, ?_, ?_⟩
  · rw [PyData.leavesShort]; exact k1
  · rw [PyData.bulk, k2]; exact Nat.le_refl _
  · rw [PyData.showable]; exact k3
  · rw [PyData.depth, k4]; exact Nat.le_refl _
mutual
theorem dp_same {K : Fr} {H H' : Hp} (s : Same H H') : ∀ {x : V} {d : PyData}, Dp K H x d → Dp K H' x d
  | _, _, .non => .non
  | _, _, .bl b => .bl b
  | _, _, .int i => .int i
  | _, _, .str z => .str z
  | _, _, .lst h t => .lst (s.seq h) (dpAll_same s t)
  | _, _, .tup h t => .tup (by
      rcases h with (h | ⟨o, h⟩) | h
      · exact .inl (.inl (s _ _ h))
      · exact .inl (.inr ⟨o, s _ _ h⟩)
      · exact .inr h) (dpAll_same s t)
theorem dpAll_same {K : Fr} {H H' : Hp} (s : Same H H') : ∀ {xs : List V} {ds : List PyData}, DpAll K H xs ds → DpAll K H' xs ds
  | _, _, .nil => .nil
  | _, _, .cons h t => .cons (dp_same s h) (dpAll_same s t)
end
theorem ItD.same {K : Fr} {H H' : Hp} {v : V} {d : PyData} (s : Same H H') (h : ItD K H v d) : ItD K H' v d := by
  cases h with
  | dat h nd => exact .dat (dp_same s h) nd
  | dic ha hk => exact .dic (s _ _ ha) (hk.same s)
  | emp ha => exact .emp (rd_same s ha)
/-- P is the data d -/
def IsIt (K : Fr) (P : VP) (d : PyData) : Prop := ∀ (G : Hp) (v : V), P.at_ G v → ItD K G v d
theorem isIt_D {K : Fr} {d : PyData} (h : d.hasDict = false) : IsIt K (vD d) d := fun G v hv => .dat (Dx.dp _ _ hv h) h
theorem isIt_M {K : Fr} {tg : List (Nat × Int)} : IsIt K (vM (mT tg)) (dictT tg) := fun G v ⟨a, kv, hv, ha, hk⟩ => by
  subst hv
  exact .dic ha hk
abbrev IsIts (K : Fr) (Ps : List VP) (ds : List PyData) : Prop := Paired (fun P d => IsIt K P d) Ps ds
theorem IsIts.all {K : Fr} {G H : Hp} (s : Same G H) : ∀ {Ps : List VP} {ds : List PyData} {vs : List V}, IsIts K Ps ds → AllP G Ps vs → ItDs K H vs ds
  | _, _, _, .nil, .nil => .nil
  | _, _, _, .cons a t, .cons b u => .cons ((a _ _ b).same s) (IsIts.all s t u)
theorem ev_reprP {X : Vol} {σ : L2.St} {H : Hp} {te : TE} {K : Fr} {Ps : List VP} {ds : List PyData} {B k : Nat} (h : Ev X te σ H (vLs Ps)) (hi : IsIts K Ps ds) (t : Ty B k (.list ds)) (hB : B ≤ 100000) (hk : k ≤ 64) : Ev X (tCB (rReprL K) (tCons te tNil)) σ H (vD (.str (PyData.list ds).shown)) := fun Y H1 e Q q => h Y H1 e _ fun v H2 e2 ⟨a, vs, hv, ha, al⟩ => by
  subst hv
  exact ⟨a, vs, ds, rfl, wo_le _ _ ha, hi.all wo_le al, t.sh, Nat.le_trans t.dp hk, t.fits hB, q _ H2 e2 (.str _)⟩
end Ee

/-! ## three names from a list, slices with a drawn end, lists joined with drawn lists -/
namespace Ee
open PySem L2
section
variable {X : Vol} {σ : L2.St} {H : Hp} {te ta tb tx : TE} {K : Fr} {ds : List PyData} {D : Ends} {tz : TS} {P1 P2 P3 : VP} {R : PyData → Prop}
theorem q_unpackP3 {i j k : Nat} (h : Ev X te σ H (vLs [P1, P2, P3])) (iv : X.I H) (kk : ∀ v1 v2 v3 H1, Ext X H H1 → P1.at_ (X.wo H1) v1 → P2.at_ (X.wo H1) v2 → P3.at_ (X.wo H1) v3 → tz D (((σ.set i (some v1)).set j (some v2)).set k (some v3)) H1) :
    tSeq (tAsg te (gLst K 3 (gCons (gName i) (gCons (gName j) (gCons (gName k) gNil))))) tz D σ H := h.go iv fun v H1 e ⟨a, vs, hv, ha, al⟩ => by
  subst hv
  cases al with
  | cons x1 t =>
    cases t with
    | cons x2 t =>
      cases t with
      | cons x3 t =>
        cases t
        exact ⟨_, _, rfl, SqL.of (wo_le _ _ ha), rfl, _, _, rfl, _, _, rfl, _, _, rfl, rfl, kk _ _ _ H1 e x1 x2 x3⟩
theorem eo_someX {pr : Int → Prop} (h : Ev X te σ H (vX fun d => ∃ r, d = .int r ∧ pr r)) : ∀ (Y : Vol) (H1 : Hp), Sub X H Y H1 → ∀ Q : Option Int → Hp → Prop, (∀ r H2, Ext Y H1 H2 → pr r → Q (some r) H2) → tPart te σ H1 Q := fun Y H1 e Q q => h Y H1 e _ fun v H2 e2 ⟨_, ⟨r, rfl, hr⟩, p⟩ => by
  cases p
  exact ⟨r, rfl, q r H2 e2 hr⟩
theorem er_slTo {pr : Int → Prop} (h : Ev X te σ H (vL ds)) (hx : Ev X tx σ H (vX fun d => ∃ r, d = .int r ∧ pr r)) : EvR X (tSl (rSlL K) te tNoPart (tPart tx)) σ H (fun d => ∃ r, pr r ∧ d = .list (cutD ds none (some r))) := fun Y H1 e Q q =>
  h Y H1 e _ fun v H2 e2 p2 => hx Y H2 (e.trans e2) _ fun w H3 e3 ⟨_, ⟨r, rfl, hr⟩, pw⟩ => by
    cases pw
    refine ⟨r, rfl, ?_⟩
    cases e3.upP p2 with
    | lst ea al => exact ⟨_, _, rfl, SqL.of (wo_le _ _ ea), laid e3.inv (al.cut (lo := none) (hi := some r)) fun l H4 n e4 p4 => q l H4 _ (free_of e2 (free_of e3 n)) ((e2.trans e3).trans e4) ⟨r, hr, rfl⟩ p4⟩
theorem er_catR (ha : Ev X ta σ H (vL ds)) (hb : Ev X tb σ H (vX R)) (hR : ∀ d, R d → ∃ es, d = .list es ∧ ds.length + es.length ≤ 40000) : EvR X (tOp rCat ta tb) σ H (fun d => ∃ es, R (.list es) ∧ d = .list (ds ++ es)) := fun Y H1 e Q q =>
  ha Y H1 e _ fun x H2 e2 p2 => hb Y H2 (e.trans e2) _ fun y H3 e3 ⟨d, hd, p3⟩ => by
    obtain ⟨es, rfl, hl⟩ := hR d hd
    cases e3.upP p2 with
    | lst ea al =>
      cases p3 with
      | lst eb bl =>
        exact ⟨_, _, _, _, rfl, rfl, wo_le _ _ ea, wo_le _ _ eb, by rw [al.len, bl.len]; exact Nat.le_trans hl (by decide), laid e3.inv (al.app bl) fun l H4 n e4 p4 => q l H4 _ (free_of e2 (free_of e3 n)) ((e2.trans e3).trans e4) ⟨es, hd, rfl⟩ p4⟩
theorem ev_Iy {C : Int → Int → Prop} {g : Int → Int → Int} {j : Int} {p : Int → Prop} (ha : Ev X ta σ H (vX fun d => ∃ r, d = .int r ∧ p r)) (hb : Ev X tb σ H (vI j)) (hc : ∀ r, p r → C r j) : Ev X (tOp (rI C fun i j => .int (g i j)) ta tb) σ H (vX fun d => ∃ r, d = .int (g r j) ∧ p r) := ev_op2 ha hb fun Y x y H1 e px py Q q => by
  cases py
  obtain ⟨_, ⟨r, rfl, hr⟩, hy⟩ := px
  cases hy
  exact ⟨r, j, rfl, rfl, hc r hr, q _ H1 (.refl e.inv) ⟨_, ⟨r, rfl, hr⟩, .int _⟩⟩
end
end Ee

/-! ## isinstance(x, str), lists repeated, tuples joined, data measured -/
namespace Ee
open PySem L2
def isStr : PyData → Bool
  | .str _ => true
  | _ => false
section
variable {X : Vol} {σ : L2.St} {H : Hp} {te ta tb tx : TE} {K : Fr} {ds es : List PyData} {d : PyData} {i : Int}
theorem kit_strD : ∀ d : PyData, PySem.W.kitOne K (tyD d) (.type "str") = some (isStr d)
  | .none => kit_ty (r := false) (by decide +kernel)
  | .bool _ => kit_ty (r := false) (by decide +kernel)
  | .int _ => kit_ty (r := false) (by decide +kernel)
  | .str _ => kit_ty (r := true) (by decide +kernel)
  | .list _ => kit_ty (r := false) (by decide +kernel)
  | .tuple _ => kit_ty (r := false) (by decide +kernel)
  | .dict _ => kit_ty (r := false) (by decide +kernel)
theorem ev_isStrD (h : Ev X te σ H (vD d)) : Ev X (tCB (rIsi K) (tCons te (tCons (tC (.ty "str")) tNil))) σ H (vB (isStr d)) := fun Y H1 e Q q => h Y H1 e _ fun v H2 e2 p2 =>
  ⟨v, _, _, _, _, rfl, .ty _, Dx.ty (Dx.same wo_le _ _ p2), kit_strD d, q _ H2 e2 (.bl _)⟩
theorem dx_flat {vs : List V} (h : DxAll H vs ds) : ∀ n, DxAll H (List.replicate n vs).flatten (List.replicate n ds).flatten
  | 0 => .nil
  | n + 1 => by
    rw [List.replicate_succ, List.replicate_succ, List.flatten_cons, List.flatten_cons]
    exact h.app (dx_flat h n)
theorem en_repL {k : Nat} (ha : Ev X ta σ H (vL ds)) (hb : Ev X tb σ H (vI (k : Int))) (h1 : ds.length * k ≤ 40000) (h2 : k ≤ 40000) : EvN X (tOp rRep ta tb) σ H (.list (List.replicate k ds).flatten) := fun Y H1 e Q q =>
  ha Y H1 e _ fun x H2 e2 p2 => hb Y H2 (e.trans e2) _ fun y H3 e3 p3 => by
    cases p3
    cases e3.upP p2 with
    | lst ea al =>
      refine ⟨_, _, _, rfl, rfl, wo_le _ _ ea, by omega, by omega, ?_, ?_⟩
      · rw [Int.toNat_natCast, al.len]; exact Nat.le_trans h1 (by decide)
      · rw [Int.toNat_natCast]
        exact laid e3.inv (dx_flat al k) fun l H4 n e4 p4 => q l H4 (free_of e2 (free_of e3 n)) ((e2.trans e3).trans e4) p4
theorem ev_catT (ha : Ev X ta σ H (vT ds)) (hb : Ev X tb σ H (vT es)) (h1 : ds ≠ []) (h2 : es ≠ []) (hl : ds.length + es.length ≤ 40000) : Ev X (tOp (rCatT K) ta tb) σ H (vT (ds ++ es)) := ev_op2 ha hb fun Y x y H1 e px py Q q => by
  cases px with
  | tup ea al =>
    cases py with
    | tup eb bl =>
      rename_i a1 xs b1 ys
      have xe : xs ≠ [] := fun z => by rw [z] at al; cases al; exact h1 rfl
      have ye : ys ≠ [] := fun z => by rw [z] at bl; cases bl; exact h2 rfl
      refine ⟨_, _, xs, ys, rfl, rfl, .inl (.inl (wo_le _ _ ea)), .inl (.inl (wo_le _ _ eb)), xe, by rw [al.len, bl.len]; exact Nat.le_trans hl (by decide), fun z => absurd z ye, fun _ p hp => ?_⟩
      have x := Sub.new (X := Y) (o := .tup (xs ++ ys)) e.inv hp
      exact q _ _ x (.tup (wo_new e.inv hp) (x.upA (al.app bl)))
/-- a walk over a drawn list -/
theorem s_forR {g : TG} {tb : TS} {D : Ends} {R : PyData → Prop} {tl : TE} (h : Ev X tl σ H (vX fun d => ∃ ds, d = .list ds ∧ ∀ t ∈ ds, R t)) (i : X.I H)
    (k : ∀ (H1 : Hp) (ds : List PyData) (wi : TI), Ext X H H1 → (∀ t ∈ ds, R t) → EvS X wi σ H1 (ds.map fun d => d) → tFor wi g tb D σ H1) : tFor (iList K tl) g tb D σ H := h.go i fun v H1 e hv => by
  obtain ⟨d, ⟨ds, rfl, hd⟩, p⟩ := hv
  cases p with
  | lst ea al =>
    rename_i a xs
    refine ⟨a, rfl, ⟨xs, SqL.of (wo_le _ _ ea)⟩, ?_⟩
    exact k H1 ds (fun _ H R => R (Itl K a) H) e hd (by rw [List.map_id']; exact es_at (.lst ea al))
theorem q_forR {g : TG} {tb tz : TS} {D : Ends} {R : PyData → Prop} {tl : TE} (h : Ev X tl σ H (vX fun d => ∃ ds, d = .list ds ∧ ∀ t ∈ ds, R t)) (i : X.I H)
    (k : ∀ (H1 : Hp) (ds : List PyData) (wi : TI), Ext X H H1 → (∀ t ∈ ds, R t) → EvS X wi σ H1 (ds.map fun d => d) → tSeq (tFor wi g tb) tz D σ H1) : tSeq (tFor (iList K tl) g tb) tz D σ H := s_forR (D := { D with nx := tz D }) h i k
end
theorem bulk_len : ∀ ds : List PyData, ds.length ≤ PyData.bulkAll ds
  | [] => Nat.zero_le _
  | d :: ds => by
    rw [PyData.bulkAll, List.length_cons]
    have := bulk_len ds
    omega
theorem bulk_mem {d : PyData} : ∀ {ds : List PyData}, d ∈ ds → d.bulk ≤ PyData.bulkAll ds
  | e :: ds, h => by
    rw [PyData.bulkAll]
    rcases List.mem_cons.mp h with rfl | h
    · omega
    · have := bulk_mem h
      omega
/-- how long a list in a tuple is -/
theorem Tx.short {B k : Nat} {xs ds : List PyData} (h : Tx B k (.tuple xs)) (hm : PyData.list ds ∈ xs) : ds.length ≤ B := by
  have h1 := h.bk
  rw [PyData.bulk] at h1
  have h2 := bulk_mem hm
  rw [PyData.bulk] at h2
  have := bulk_len ds
  omega
theorem inV_strs (a : Str) : ∀ l : List Str, inV (.str a) (l.map V.str) = decide (a ∈ l)
  | [] => rfl
  | b :: l => by
    have ih := inV_strs a l
    have e : inV (.str a) ((b :: l).map V.str) = ((b == a) || inV (.str a) (l.map V.str)) := rfl
    rw [e, ih]
    by_cases h : a = b
    · subst h; simp
    · have h2 : (b == a) = false := beq_eq_false_iff_ne.mpr (Ne.symm h)
      rw [h2, Bool.false_or]
      simp [h]
theorem flat_strs (l : List Str) : (l.map V.str).all flatV = true := by
  rw [List.all_map]
  exact List.all_eq_true.mpr fun _ _ => rfl
theorem DxAll.strs {H : Hp} : ∀ {l : List Str} {vs : List V}, DxAll H vs (l.map PyData.str) → vs = l.map V.str
  | [], _, h => by cases h; rfl
  | i :: l, _, h => by
    cases h with
    | cons a t =>
      cases a
      rw [DxAll.strs t]
      rfl
theorem ev_niStr {X : Vol} {σ : L2.St} {H : Hp} {ta tb : TE} {K : Fr} {s : Str} {l : List Str} (ha : Ev X ta σ H (vD (.str s))) (hb : Ev X tb σ H (vL (l.map PyData.str))) : Ev X (tOp (rIn K true) ta tb) σ H (vB (!decide (s ∈ l))) := ev_op2 ha hb fun Y x y H1 e px py Q q => by
  cases px
  cases py with
  | lst ea al =>
    have hv := al.strs
    subst hv
    refine ⟨_, _, rfl, .inl (SqL.of (wo_le _ _ ea)), rfl, flat_strs l, ?_⟩
    rw [if_pos rfl, inV_strs]
    exact q _ H1 (.refl e.inv) (.bl _)
theorem ev_inStr {X : Vol} {σ : L2.St} {H : Hp} {ta tb : TE} {K : Fr} {s : Str} {l : List Str} (ha : Ev X ta σ H (vD (.str s))) (hb : Ev X tb σ H (vL (l.map PyData.str))) : Ev X (tOp (rIn K false) ta tb) σ H (vB (decide (s ∈ l))) := ev_op2 ha hb fun Y x y H1 e px py Q q => by
  cases px
  cases py with
  | lst ea al =>
    have hv := al.strs
    subst hv
    refine ⟨_, _, rfl, .inl (SqL.of (wo_le _ _ ea)), rfl, flat_strs l, ?_⟩
    rw [if_neg Bool.false_ne_true, inV_strs]
    exact q _ H1 (.refl e.inv) (.bl _)
end Ee

/-! ## data that is small: its text, its shape; drawn lists joined -/
namespace Ee
open PySem L2
abbrev Th (B k : Nat) (d : PyData) : Prop := Tx B k d ∧ d.canLay0 = true
abbrev ThL (B k : Nat) (ds : List PyData) : Prop := TxL B k ds ∧ PyData.canLayAll0 ds = true
theorem Th.mono {B B' k k' : Nat} {d : PyData} (h : Th B k d) (a : B ≤ B') (b : k ≤ k') : Th B' k' d := ⟨h.1.mono a b, h.2⟩
theorem ThL.mono {B B' k k' : Nat} {ds : List PyData} (h : ThL B k ds) (a : B ≤ B') (b : k ≤ k') : ThL B' k' ds := ⟨h.1.mono a b, h.2⟩
theorem ThL.nil : ThL 0 0 [] := ⟨TxL.nil, by simp [PyData.canLayAll0]⟩
theorem ThL.cons {A B k l : Nat} {d : PyData} {ds : List PyData} (h : Th A k d) (t : ThL B l ds) : ThL (A + 1 + B) (max k l) (d :: ds) := ⟨TxL.cons h.1 t.1, by rw [PyData.canLayAll0, h.2, t.2]; rfl⟩
theorem lay_all : ∀ {ds : List PyData}, (∀ d ∈ ds, d.canLay0 = true) → PyData.canLayAll0 ds = true
  | [], _ => by simp [PyData.canLayAll0]
  | d :: ds, h => by
    rw [PyData.canLayAll0, h d (List.mem_cons_self ..), lay_all fun e he => h e (List.mem_cons_of_mem _ he)]
    rfl
theorem ThL.of {B k : Nat} {ds : List PyData} (h : ∀ d ∈ ds, Th B k d) : ThL (ds.length * (B + 1)) k ds := ⟨TxL.of fun d hd => (h d hd).1, lay_all fun d hd => (h d hd).2⟩
theorem Th.lst {B k : Nat} {ds : List PyData} (h : ThL B k ds) : Th B (k + 1) (.list ds) := ⟨Tx.lst h.1, by rw [PyData.canLay0]; exact h.2⟩
theorem Th.tup {B k : Nat} {ds : List PyData} (h : ThL B k ds) : Th B (k + 1) (.tuple ds) := ⟨Tx.tup h.1, by rw [PyData.canLay0]; exact h.2⟩
theorem Th.int {i : Int} (h : -(10 ^ 40) ≤ i ∧ i ≤ 10 ^ 40) : Th 0 0 (.int i) := ⟨.num h.1 h.2, by simp [PyData.canLay0]⟩
theorem Th.non : Th 0 0 .none := ⟨.non, by simp [PyData.canLay0]⟩
theorem Th.bl (b : Bool) : Th 0 0 (.bool b) := ⟨.bl b, by simp [PyData.canLay0]⟩
theorem Th.str {B : Nat} {x : Str} (h : (x.cps.toList.all fun c => decide (c < 16 ^ 8)) = true) (s : x.cps.size ≤ B) (o : PyData.strOk x = true) : Th B 0 (.str x) := ⟨.str h s, by simp [PyData.canLay0, o]⟩
theorem th_ints {l : List Int} (h : ∀ x ∈ l, -(10 ^ 40) ≤ x ∧ x ≤ 10 ^ 40) : Th l.length 1 (.list (l.map PyData.int)) := by
  have := ThL.of (B := 0) (k := 0) (ds := l.map PyData.int) fun d hd => by
    obtain ⟨x, hx, rfl⟩ := List.mem_map.mp hd
    exact .int (h x hx)
  rw [List.length_map] at this
  exact Th.lst (this.mono (by omega) (Nat.le_refl _))
/-- the bound itself, for many things -/
def ThOk (d : PyData) : Prop := Th 5000 60 d
theorem Th.ok {B k : Nat} {d : PyData} (h : Th B k d) (b : B ≤ 5000) (c : k ≤ 60) : ThOk d := h.mono b c
def AllOk (ds : List PyData) : Prop := ∀ t ∈ ds, ThOk t
theorem AllOk.app {ds es : List PyData} (h : AllOk ds) (g : AllOk es) : AllOk (ds ++ es) := fun t ht => (List.mem_append.mp ht).elim (h t) (g t)
theorem AllOk.cons {d : PyData} {ds : List PyData} (h : ThOk d) (g : AllOk ds) : AllOk (d :: ds) := fun t ht => by
  rcases List.mem_cons.mp ht with rfl | ht
  · exact h
  · exact g t ht
theorem AllOk.nil : AllOk [] := fun t ht => nomatch ht
section
variable {X : Vol} {σ : L2.St} {H : Hp} {te ta tb tx : TE} {K : Fr} {ds es : List PyData} {d : PyData} {i : Int} {R R1 R2 : PyData → Prop} {D : Ends}
theorem EvN.toR (h : EvN X te σ H d) (r : R d) : EvR X te σ H R := fun Y H1 e Q q => h Y H1 e Q fun l H2 n e2 p => q l H2 d n e2 r p
theorem EvR.weak {S : PyData → Prop} (h : EvR X te σ H R) (w : ∀ d, R d → S d) : EvR X te σ H S := fun Y H1 e Q q => h Y H1 e Q fun l H2 d n e2 r p => q l H2 d n e2 (w d r) p
theorem s_asgR {n : Nat} (h : EvR X te σ H R) (i : X.I H) (k : ∀ l H1 d, H l = none → Ext X H H1 → R d → Dx (X.wo H1) (.ref l) d → D.nx (σ.set n (some (.ref l))) H1) : tAsg te (gName n) D σ H := h X H (.refl i) _ k
theorem er_cat2 (ha : Ev X ta σ H (vX R1)) (hb : Ev X tb σ H (vX R2)) (hR : ∀ d e, R1 d → R2 e → ∃ ds es, d = .list ds ∧ e = .list es ∧ ds.length + es.length ≤ 40000) : EvR X (tOp rCat ta tb) σ H (fun d => ∃ ds es, R1 (.list ds) ∧ R2 (.list es) ∧ d = .list (ds ++ es)) := fun Y H1 e Q q =>
  ha Y H1 e _ fun x H2 e2 ⟨d1, hd1, p2⟩ => hb Y H2 (e.trans e2) _ fun y H3 e3 ⟨d2, hd2, p3⟩ => by
    obtain ⟨ds, es, rfl, rfl, hl⟩ := hR d1 d2 hd1 hd2
    cases e3.upD p2 with
    | lst ea al =>
      cases p3 with
      | lst eb bl =>
        exact ⟨_, _, _, _, rfl, rfl, wo_le _ _ ea, wo_le _ _ eb, by rw [al.len, bl.len]; exact Nat.le_trans hl (by decide), laid e3.inv (al.app bl) fun l H4 n e4 p4 => q l H4 _ (free_of e2 (free_of e3 n)) ((e2.trans e3).trans e4) ⟨ds, es, hd1, hd2, rfl⟩ p4⟩
end
end Ee

/-! ## == and != of own objects by their own ==; isinstance with an own class -/
namespace PySem.W
open PySem PyProof PyProof.Rows PySem.Spec
section
variable {M : Model} {A : Around} {E : Value → Shared → Prop} {s : Shared} {K : Frag} {x C f : Addr} {ox : Obj} {od : Option Obj} {name : Str} {id : String}
theorem ifBound_Bz {args : List Value} {Q : Option Value → Shared → Prop} (X : K.In s.heap) (I : InstAt s.heap x ox C od) (hs : findIn K (.ref C) name = some (some (.builtin id))) (hb : ∀ self : Value, bindSpecial (.builtin id) self = (pure (Value.builtin id, [self]) : Sem (Value × List Value)))
    (h : wpAny M A (call (.builtin id) (.ref x :: args)) (fun v => Q (some v)) E s) : wpAny M A (callSpecialIfBound? (.ref x) name args) Q E s := by
  simp only [callSpecialIfBound?, bindSpecialIfBound?]
  refine wpAny_holding (wpAny_bind (wpAny_bind (wpAny_bind (I.type.here ((looks_findIn X hs).here ?_)))))
  simp only [hb]
  refine wpAny_bind (wpAny_askSetting (wpAny_ite ?_))
  have fin : wpAny M A (call (.builtin id) ([.ref x] ++ args) >>= fun v => pure (some v)) Q E s := wpAny_bind (wpAny_mono h (fun v s' h' => wpAny_pure h') fun _ _ h' => h')
  split
  · exact wpAny_bind (wpAny_pure (wpAny_pure fin))
  · exact wpAny_tryCatch (wpAny_bind (wpAny_pure (wpAny_pure fin)))
theorem check_Kz {owner n : String} {rest : List Value} {Q : Unit → Shared → Prop} (hk : builtinKind id = some .slot) (hs : splitId id = some (owner, n)) (ha : argsOk id ⟨.ref x :: rest, []⟩) (X : K.In s.heap) (I : InstAt s.heap x ox C od)
    (hm : mroIn K C (.type owner) = some true) (hq : Q () s) : wpAny M A (checkBuiltinCall id ⟨.ref x :: rest, []⟩) Q E s := by
  simp only [checkBuiltinCall, hk, hs]
  refine wpAny_bind ?_
  unfold isInstance
  refine wpAny_bind (I.type.here ((looks_mroIn X hm).here ?_))
  simp only [Bool.not_true, Bool.false_eq_true, if_false]
  cases hsig : Manifest.signature? id with
  | none => exact wpAny_pure hq
  | some sig =>
    simp only [argsOk, hsig] at ha
    have h2 : Bind.checkArgs id sig ⟨.ref x :: rest, []⟩ = pure () := ha
    show wpAny M A (Bind.checkArgs id sig ⟨.ref x :: rest, []⟩) Q E _
    rw [h2]; exact wpAny_pure hq
end
section
variable {prog : Program} {w : World} {A : Around} {E : Value → Shared → Prop} {s : Shared} {K : Frag} {x y C L f : Addr} {h₀ : Heap} {m : Str → Option Value} {ox oy : Obj} {od ody : Option Obj}
theorem objNe_Kz (X : K.In s.heap) (I : InstAt s.heap x ox C od) (hs : findIn K (.ref C) "__eq__" = some (some (.ref f))) (hf : isFn K (.ref f) = true) (hu : A.units < cLine) {Q : Fin → Shared → Prop}
    (hcall : wpAny (model prog w) A (call (.ref f) [.ref x, .ref y]) (fun v s' => ∃ b, v = .bool b ∧ Q (.done (.ret (.bool (!b)))) s') E s) :
    wpAny (model prog w) A (Builtin.«object.__ne__» ⟨[.ref x, .ref y], []⟩) Q E s := by
  unfold Builtin.«object.__ne__»
  repeat (first
    | with_reducible refine wpAny_cRoomFor hu ?_
    | (refine wpAny_bind (m := callSpecialIfBound? (.ref x) (Str.ofString "__eq__") [.ref y])
        (ifBound_K X I hs hf (wpAny_mono hcall (fun r s' hr => by
          obtain ⟨b, rfl, hq⟩ := hr
          repeat (first | exact hq | exact wpAny_pure hq | exact wpAny_truthy_bool hq | (refine wpAny_bind (m := truthy (.bool _)) (wpAny_truthy_bool ?_)) | wp_step)) fun _ _ e => e)))
    | wp_step)
theorem ne_Kz {Q : Value → Shared → Prop} (hu : A.units + 1 < cLine) (Fz : Fr h₀ L s.heap m) (X₀ : K.In h₀) (I : InstAt s.heap x ox C od) (J : InstAt s.heap y oy C ody)
    (hn : findIn K (.ref C) "__ne__" = some (some (.builtin "object.__ne__"))) (hm : mroIn K C (.type "object") = some true) (hs : findIn K (.ref C) "__eq__" = some (some (.ref f))) (hf : isFn K (.ref f) = true)
    (h : wpAny (model prog w) A.in1 (call (.ref f) [.ref x, .ref y]) (fun v s' => ∃ b, v = .bool b ∧ Q (.bool (!b)) s') E s) : wpAny (model prog w) A (richCompare .NotEq (.ref x) (.ref y)) Q E s := by
  have X := X₀.keeps Fz.keep
  have one : wpAny (model prog w) A (tryCompare (.ref x) (cmpInfo .NotEq).2.1 (.ref y)) (fun r s' => ∃ v, r = some v ∧ Q v s') E s := by
    unfold tryCompare
    refine wpAny_bind (ifBound_Bz X I (by rw [cmpInfo_NotEq]; exact hn) F.cmp_object.ne.bind (wpAny_call (codeAny_call_builtin F.cmp_object.ne.plain F.cmpEntry_ne
      (check_Kz F.cmpKind_ne F.cmpSplit_ne (F.cmpArgs_ne _ _) X I hm (objNe_Kz (A := A.in1) X I hs hf (by exact hu) (wpAny_mono h (fun v s' hv => ?_) fun _ _ e => e))))))
    obtain ⟨b, rfl, hq⟩ := hv
    exact ⟨b, rfl, wpAny_pure ⟨_, rfl, hq⟩⟩
  unfold richCompare
  simp only [oneThing_ref]
  refine wpAny_holding (wpAny_bind (wpAny_cRoomFor (by omega) ?_))
  refine wpAny_bind (I.type.here (wpAny_bind (J.type.here ?_)))
  rw [show (Value.ref C != Value.ref C) = false from by simp]
  simp only [Bool.false_eq_true, if_false]
  refine wpAny_bind (wpAny_pure ?_)
  simp only [Bool.false_eq_true, if_false]
  refine wpAny_bind (wpAny_mono one (fun r s' z => ?_) fun _ _ e => e)
  obtain ⟨v, rfl, hq⟩ := z
  exact wpAny_pure hq
end
end PySem.W
namespace Ee
open PySem L2
/-- == or != by an own __eq__ of which sp speaks -/
def rCmpO (C : Addr) (neg : Bool) (sp : Sp) : R2 := fun x y H Q => ∃ a b dx dy fs gs, x = .ref a ∧ y = .ref b ∧ H a = some (.ins C dx fs) ∧ H b = some (.ins C dy gs) ∧ sp [.ref a, .ref b] H (fun v H' => ∃ r : Bool, v = .bl r ∧ Q (.bl (if neg then !r else r)) H') L2.E0
section
variable {X : Cx} {C f : Addr} {fd : FuncData} {k : Nat} {sp : Sp}
theorem op_eqO (m : Meth X.K C "__eq__" f) (F : FnOk X.prog X.w X.K X.mg X.base CX0 k f fd ["self", "other"] sp) (b : Binds X.K fd ["self", "other"] []) (hr : Room (k + 1) X.A) : OpR X (compareOp .Eq) (rCmpO C false sp) := by
  intro pins s σ H x y v u Q I rx ry h
  obtain ⟨a, a', dx, dy, fs, gs, rfl, rfl, ea, eb, h⟩ := h
  cases rx
  cases ry
  obtain ⟨mm, hF⟩ := I.fr
  obtain ⟨mA, O, _⟩ := ins_get I.hok ea
  obtain ⟨mB, O', _⟩ := ins_get I.hok eb
  obtain ⟨od, J, _⟩ := O.look
  obtain ⟨od', J', _⟩ := O'.look
  refine PySem.W.cmp_K (op := .Eq) (tb := .ref C) hr.units0 hF I.ok.mod.kin J J'.type (by simp [PySem.W.notFirst]) m.at_ m.fn ?_
  refine wpAny_call (codeAny_mono (F.run X.A X.stack s H ⟨[.ref a, .ref a'], []⟩ [.ref a, .ref a'] [.ref a, .ref a'] _ L2.E0 (hr.mono (by omega)) I.env0 (b s [.ref a, .ref a'] I.kIn rfl) (.cons rfl (.cons rfl .nil)) h) fun out s' got => ?_)
  match out, got with
  | .error e, got => exact got.elim
  | .ok .next, got => exact got.elim
  | .ok .brk, got => exact got.elim
  | .ok .cont, got => exact got.elim
  | .ok (.ret u), got =>
    obtain ⟨v, H', I', rv, r, rfl, q⟩ := I.after got
    cases (show u = Value.bool r from rv)
    exact ⟨.bl r, H', I', rfl, q⟩
theorem op_neO (m : Meth X.K C "__eq__" f) (F : FnOk X.prog X.w X.K X.mg X.base CX0 k f fd ["self", "other"] sp) (b : Binds X.K fd ["self", "other"] []) (hn : PySem.W.findIn X.K (.ref C) "__ne__" = some (some (.builtin "object.__ne__"))) (hm : PySem.W.mroIn X.K C (.type "object") = some true) (hr : Room (k + 1) X.A) : OpR X (compareOp .NotEq) (rCmpO C true sp) := by
  intro pins s σ H x y v u Q I rx ry h
  obtain ⟨a, a', dx, dy, fs, gs, rfl, rfl, ea, eb, h⟩ := h
  cases rx
  cases ry
  obtain ⟨mm, hF⟩ := I.fr
  obtain ⟨mA, O, _⟩ := ins_get I.hok ea
  obtain ⟨mB, O', _⟩ := ins_get I.hok eb
  obtain ⟨od, J, _⟩ := O.look
  obtain ⟨od', J', _⟩ := O'.look
  refine PySem.W.ne_Kz hr.in1.units0 hF I.ok.mod.kin J J' hn hm m.at_ m.fn ?_
  refine wpAny_call (codeAny_mono (F.run X.A.in1 X.stack s H ⟨[.ref a, .ref a'], []⟩ [.ref a, .ref a'] [.ref a, .ref a'] _ L2.E0 hr.in1 I.env0.in1 (b s [.ref a, .ref a'] I.kIn rfl) (.cons rfl (.cons rfl .nil)) h) fun out s' got => ?_)
  match out, got with
  | .error e, got => exact got.elim
  | .ok .next, got => exact got.elim
  | .ok .brk, got => exact got.elim
  | .ok .cont, got => exact got.elim
  | .ok (.ret u), got =>
    obtain ⟨v, H', I', rv, r, rfl, q⟩ := I.after got
    cases (show u = Value.bool r from rv)
    exact ⟨r, rfl, .bl (!r), H', I', rfl, q⟩
end
def eqW (w u : WD) : Bool := decide (w.n = u.n) && decide (w.ps = u.ps) && decide (w.m = u.m)
theorem eqv_edges : ∀ (p q : List (Nat × Nat)), PyData.eqv (dEdges p) (dEdges q) = decide (p = q)
  | [], [] => by simp [dEdges, PyData.eqv, PyData.eqvAll]
  | [], _ :: _ => by simp [dEdges, PyData.eqv, PyData.eqvAll]
  | _ :: _, [] => by simp [dEdges, PyData.eqv, PyData.eqvAll]
  | (a, b) :: p, (c, d) :: q => by
    have ih := eqv_edges p q
    unfold dEdges at ih ⊢
    rw [PyData.eqv] at ih ⊢
    rw [List.map_cons, List.map_cons, PyData.eqvAll, ih]
    have e : PyData.eqv (dPair (a, b)) (dPair (c, d)) = decide ((a, b) = (c, d)) := by
      show PyData.eqv (.tuple [.int (a : Int), .int (b : Int)]) (.tuple [.int (c : Int), .int (d : Int)]) = _
      simp only [PyData.eqv, PyData.eqvAll, Bool.and_true]
      rw [Bool.eq_iff_iff, Bool.and_eq_true, beq_iff_eq, beq_iff_eq, decide_eq_true_eq, Prod.mk.injEq]
      omega
    rw [e]
    by_cases h : ((a, b) : Nat × Nat) = (c, d)
    · rw [h]; simp
    · rw [decide_eq_false h, Bool.false_and, decide_eq_false fun z => h (List.cons.inj z).1]
theorem eqW_self (w : WD) : eqW w w = true := by simp [eqW]
def spEqW (C : Addr) : Sp := spF (α := WD × WD) (fun _ => True) (fun a => [vW C a.1, vW C a.2]) (fun a => vB (eqW a.1 a.2))
theorem eqW_of (w u : WD) : ((true && (decide ((w.n : Int) = (u.n : Int)) && (PyData.eqv (dEdges w.ps) (dEdges u.ps) && decide (w.m = u.m))))) = eqW w u := by
  unfold eqW
  rw [eqv_edges, Bool.true_and, Bool.and_assoc]
  refine congrArg (fun b => b && _) (decide_eq_decide.mpr ⟨fun h => by omega, fun h => by rw [h]⟩)
/-- what the text tells of Web as a class -/
structure Wi (K : PySem.W.Frag) (C : Addr) : Prop where
  ha : PySem.W.findIn K (.ref C) "__class__" = some (some (.builtin "object.__class__"))
  hn : PySem.W.specialIn K (.builtin "object.__class__") "__get__" = some (some (.builtin "getset_descriptor.__get__"))
  ht : PySem.W.takesIn K (.builtin "object.__class__") = some true
  hm : PySem.W.mroIn K C (.type "object") = some true
  ne : PySem.W.findIn K (.ref C) "__ne__" = some (some (.builtin "object.__ne__"))
section
variable {X : Vol} {σ : L2.St} {H : Hp} {ta tb te : TE} {C : Addr} {w u : WD} {neg : Bool} {K : Fr} {mg : Str → Option Value}
theorem ev_cmpW (h : Ev X ta σ H (vW C w)) (h' : Ev X tb σ H (vW C u)) : Ev X (tOp (rCmpO C neg (spEqW C)) ta tb) σ H (vB (if neg then !eqW w u else eqW w u)) := fun Y H1 e Q q => h Y H1 e _ fun v H2 e2 p2 => h' Y H2 (e.trans e2) _ fun v' H3 e3 p3 => by
  have p2' := e3.upP p2
  obtain ⟨ok, p, dx, le, lf, lfn, lt, rfl, h1, _⟩ := id p2'
  obtain ⟨ok', p', dx', le', lf', lfn', lt', rfl, h1', _⟩ := id p3
  refine ⟨_, _, dx, dx', _, _, rfl, rfl, wo_le _ _ h1, wo_le _ _ h1', (w, u), Y.S, True.intro, e3.inv.live, .cons p2' (.cons p3 .nil), fun v H' s r => ?_⟩
  cases r
  exact ⟨_, rfl, q _ H' ((e2.trans e3).trans (.same s e3.inv)) (.bl _)⟩
theorem ev_isW (T : Txt K mg C) (W : Wi K C) (h : Ev X te σ H (vW C w)) : Ev X (tCB (rIsi K) (tCons te (tCons (tC (.ref C)) tNil))) σ H (vB true) := fun Y H1 e Q q => h Y H1 e _ fun v H2 e2 p2 => by
  obtain ⟨ok, p, dx, le, lf, lfn, lt, rfl, h1, _⟩ := id p2
  refine ⟨_, _, _, _, true, rfl, .own C, .base (.ins (wo_le _ _ h1) T.cl W.ha W.hn W.ht W.hm), ?_, q _ H2 e2 (.bl _)⟩
  simp [PySem.W.kitOne]
end
end Ee

/-! ## calls with drawn arguments that give new lists -/
namespace Ee
open PySem L2
section
variable {X Y : Vol} {σ : L2.St} {H H' H0 H1 : Hp} {ta tb te : TE} {K : Fr} {p : Addr} {R : PyData → Prop} {Rs : List (PyData → Prop)}
theorem er_drawX {α : Type} {pre : α → Prop} {Ps : α → List VP} {R0 : α → PyData → Prop} {E : XK} {tr : TA} {n : Nat} (hs : σ[n]? = some (some (.ref p))) (hp : X.pool = some p) (h : EvAx X tr σ H Rs) (ha : ∀ ds, RR Rs ds → ∃ a, Ps a = ds.map vD ∧ pre a ∧ ∀ d, R0 a d → R d) :
    EvR X (tCall (spDN pre Ps R0) [] E (tCons (tVar n) tr)) σ H R := fun Y H1 e Q q =>
  ⟨_, hs, h Y H1 e _ fun vs ds H2 e2 r p2 => by
    obtain ⟨a, hq, hpre, ho⟩ := ha ds r
    show spDN pre Ps R0 ((.ref p :: vs) ++ []) H2 Q E
    rw [List.append_nil]
    exact ⟨a, Y, p, vs, rfl, e.pool.trans hp, e2.inv, hpre, by rw [hq]; exact allP_D p2, fun l H' d s n r x => q l H' d (free_of e2 n) (e2.trans s) (ho d r) x⟩⟩
theorem er_callX {α : Type} {pre : α → Prop} {Ps : α → List VP} {D : α → PyData} {E : XK} {tr : TA} (h : EvAx X tr σ H Rs) (ha : ∀ ds, RR Rs ds → ∃ a, Ps a = ds.map vD ∧ pre a ∧ R (D a)) :
    EvR X (tCall (spN pre Ps D) [] E tr) σ H R := fun Y H1 e Q q => h Y H1 e _ fun vs ds H2 e2 r p2 => by
  obtain ⟨a, hq, hpre, ho⟩ := ha ds r
  show spN pre Ps D (vs ++ []) H2 Q E
  rw [List.append_nil]
  exact ⟨a, Y.S, hpre, e2.inv.live, by rw [hq]; exact allP_D p2, fun l H' s n x => q l H' _ (free_of e2 n) (e2.trans (.same s e2.inv)) ho x⟩
end
theorem all_of {α : Type} {l : List α} {zs : List Int} {S : Int → Prop} (hl : zs.length = l.length) (h : ∀ (i : Nat) (z : Int) (a : α), zs[i]? = some z → l[i]? = some a → S z) : ∀ x ∈ zs, S x := fun x hx => by
  obtain ⟨i, hi, rfl⟩ := List.getElem_of_mem hx
  exact h i _ (l[i]'(by omega)) (List.getElem?_eq_getElem hi) (List.getElem?_eq_getElem (by omega))
end Ee

/-! ## lists of ints that are changed, several of them at once; *=, l[i] += -/
namespace Ee
open PySem L2 PyProof.Rows
section
variable {X : Cx}
def ipMul : TIp := fun x y H Q => ∃ i j, x = .int i ∧ y = .int j ∧ CMul i j ∧ Q (.int (i * j)) H
theorem ip_mul : PIp X .Mult ipMul := by
  intro pins s σ H x y v u Q I r1 r2 h
  obtain ⟨i, j, e1, e2, c, q⟩ := h
  subst e1; subst e2
  obtain ⟨t, rfl⟩ := r1
  obtain ⟨t', rfl⟩ := r2
  exact imul_int ⟨.int _, H, I.tok _, ⟨_, rfl⟩, q⟩ c.ok
def rIxP (K : PySem.W.Frag) : V → V → Hp → VK → Prop := fun x y H Q => ∃ p xs i z, x = .ref p ∧ y = .int i ∧ 0 ≤ i ∧ H p = some (.lst xs) ∧ atI xs i = some z ∧ Q z H
theorem pget_list {K : PySem.W.Frag} : PGet X (rIxP K) := by
  intro pins s σ H x y v u Q I rx ry h
  obtain ⟨p, xs, i, z, rfl, rfl, h0, hq, he, q⟩ := h
  cases rx
  obtain ⟨t, rfl⟩ := ry
  obtain ⟨its, r, pl, hz⟩ := I.list (.inl (.inl hq))
  obtain ⟨j, h1, h2, h3, h4, h5⟩ := atI_get he
  obtain ⟨w, ew, rw'⟩ := r.get h2
  have hl := r.length
  have hn := line63
  have hj : i.toNat = j := by
    rw [seqIndex_of h0 h5] at h1
    exact Option.some.inj h1
  exact wpAny_getItem_list pl.isList h0 (by omega) (by rw [hj]; simpa using ew) ⟨z, H, I, rw', q⟩
end
/-- a list of ints at l, which may change -/
structure IL (X : Vol) (H : Hp) (l : Addr) (ns : List Int) : Prop where
  s : X.S l
  np : ¬ X.V l
  at_ : H l = some (.lst (ns.map V.int))
/-- the object at l is written, nothing else -/
structure Wr (X : Vol) (l : Addr) (H H' : Hp) : Prop where
  wk : Wk X H X H'
  oth : ∀ b o, ¬ X.V b → b ≠ l → H b = some o → H' b = some o
section
variable {X Y X0 : Vol} {σ : L2.St} {H H' H0 H1 H2 : Hp} {ta tb tc te tl ti : TE} {K : Fr} {i j z : Int} {l l' : Addr} {ns ms : List Int} {tz : TS} {D : Ends} {R : PyData → Prop}
theorem IL.ext (h : IL X H l ns) (e : Sub X H Y H') : IL Y H' l ns := ⟨e.up _ h.s, fun z => h.np ((e.vv _).mp z), e.old _ _ h.np h.at_⟩
theorem IL.wr (h : IL X H l ns) (w : Wr X l' H H') (ne : l ≠ l') : IL X H' l ns := ⟨h.s, h.np, w.oth _ _ h.np ne h.at_⟩
theorem Sub.wr (m : Sub X0 H0 X H) (w : Wr X l H H') (hl : H0 l = none) : Sub X0 H0 X H' :=
  ⟨m.pool, m.tt, m.up, m.dn, fun b o n h => w.oth b o (fun z => n ((m.vv _).mp z)) (ne_of_none h hl) (m.old b o n h), w.wk.inv⟩
theorem Wr.put {acc : List V} (iv : X.I H) (h : IL X H l ns) : Wr X l H (upd H l (.lst acc)) := by
  refine ⟨⟨rfl, fun _ z => z, fun _ z => .inl z, fun b u n q => ?_, ⟨fun a ha => ?_, fun p hp => ?_, iv.ti.put rfl (fun _ z => .inr z) (.inr h.s) (fun q hq => h.np (.inr ⟨q, hq⟩)) True.intro⟩⟩, fun b o _ n q => ?_⟩
  · rw [upd_ne fun z => n (by rw [z]; exact h.s)]
    exact q
  · by_cases e : a = l
    · subst e; rw [upd_same]; exact fun z => nomatch z
    · rw [upd_ne e]; exact iv.live a ha
  · obtain ⟨a, b, q, r⟩ := iv.pl p hp
    exact ⟨a, b, by rw [upd_ne fun z => h.np (.inl (by rw [← z]; exact hp))]; exact q, r⟩
  · rw [upd_ne n]
    exact q
theorem IL.put (h : IL X H l ns) : IL X (upd H l (.lst (ms.map V.int))) l ms := ⟨h.s, h.np, upd_same⟩
theorem Mak.il (m : Mak X H0 l H (ns.map PyData.int)) : IL (X.add l) H l ns := by
  obtain ⟨acc, h1, h2⟩ := m.ex
  exact ⟨.inr rfl, fun z => m.i0.live l (X.subV _ z) m.fr, by rw [h1, h2.ints]⟩
theorem Sub.all (e : Sub X H0 Y H) : Ext X H0 H := ⟨rfl, rfl, fun _ h => h, fun _ h => .inl h, e.old, ⟨fun a z => e.inv.live a (e.up a z), fun p hp => e.inv.pl p (e.pool.trans hp), e.inv.ti.less e.tt.symm e.up⟩⟩
/-- it is made: plain data from here on -/
theorem IL.done (h : IL Y H l ns) (i : X.I H0) (hl : H0 l = none) : Dx (X.wo H) (.ref l) (.list (ns.map PyData.int)) := by
  refine .lst (xs := ns.map V.int) ?_ (dx_ints ns)
  rw [wo_out fun z => i.live l z hl]
  exact h.at_
theorem ev_ixIL {n : Nat} (m : IL X H l ns) (hs : σ[n]? = some (some (.ref l))) (hi : Ev X ti σ H (vI i)) (ha : atI (ns.map V.int) i = some (.int z)) : Ev X (tOp (rIxL K) (tVar n) ti) σ H (vI z) := fun Y H1 e Q q =>
  ⟨_, hs, hi Y H1 e _ fun v H2 e2 p2 => by
    cases p2
    exact ⟨l, _, i, .int z, rfl, rfl, SqL.of ((m.ext e).ext e2).at_, ha, q _ H2 e2 (.int z)⟩⟩
/-- l[i] = e -/
theorem s_setIL {n : Nat} {j : Nat} (m : IL X H l ns) (hs : σ[n]? = some (some (.ref l))) (h : Ev X te σ H (vI z)) (hi : Ev X ti σ H (vI (j : Int))) (iv : X.I H) (hj : j < ns.length)
    (k : ∀ H1 H2, Ext X H H1 → Wr X l H1 H2 → IL X H2 l (ns.set j z) → D.nx σ H2) : tAsg te (gSub (tVar n) ti rSetL) D σ H := by
  refine h.go iv fun v H1 e p => ⟨_, hs, (hi.mono e).go e.inv fun w H2 e2 p2 => ?_⟩
  cases p
  cases p2
  have m2 := (m.ext e).ext e2
  refine ⟨l, ns.map V.int, (j : Int), j, rfl, rfl, m2.at_, ?_, ?_⟩
  · rw [List.length_map]
    unfold ixN
    rw [if_pos (by omega), if_pos (by omega)]
    simp
  · have w := Wr.put (acc := (ns.map V.int).set j (.int z)) e2.inv m2
    exact k H2 _ (e.trans e2) w ⟨m2.s, m2.np, by rw [upd_same, List.map_set]⟩
/-- l[i] += e -/
theorem s_augIL {n : Nat} {j : Nat} {x : Int} (m : IL X H l ns) (hs : σ[n]? = some (some (.ref l))) (hi : Ev X ti σ H (vI (j : Int))) (hx : ns[j]? = some x) (h : Ev X te σ H (vI z)) (iv : X.I H)
    (k : ∀ H1 H2, Ext X H H1 → Wr X l H1 H2 → IL X H2 l (ns.set j (x + z)) → D.nx σ H2) : tAugS (tVar n) ti te (rIxP K) (ipI fun i j => i + j) rSetL D σ H := by
  have hj : j < ns.length := (List.getElem?_eq_some_iff.mp hx).1
  refine ⟨_, hs, hi.go iv fun w H1 e p => ?_⟩
  cases p
  have m1 := m.ext e
  refine ⟨l, _, (j : Int), .int x, rfl, rfl, by omega, m1.at_, atI_nat (by rw [List.getElem?_map, hx]; rfl), (h.mono e).go e.inv fun v H2 e2 p2 => ?_⟩
  cases p2
  have m2 := m1.ext e2
  refine ⟨x, z, rfl, rfl, l, ns.map V.int, (j : Int), j, rfl, rfl, m2.at_, ?_, ?_⟩
  · rw [List.length_map]
    unfold ixN
    rw [if_pos (by omega), if_pos (by omega)]
    simp
  · have w := Wr.put (acc := (ns.map V.int).set j (.int (x + z))) e2.inv m2
    exact k H2 _ (e.trans e2) w ⟨m2.s, m2.np, by rw [upd_same, List.map_set]⟩
/-- l.append(e) -/
theorem s_appIL {n : Nat} (m : IL X H l ns) (hs : σ[n]? = some (some (.ref l))) (h : Ev X te σ H (vI z)) (iv : X.I H) (hz : ns.length < 40000)
    (k : ∀ H1 H2, Ext X H H1 → Wr X l H1 H2 → IL X H2 l (ns ++ [z]) → D.nx σ H2) : tDrop (tBM K "list" rAppend (tVar n) (tCons te tNil)) D σ H := by
  refine ⟨_, hs, .inl ⟨rfl, _, SqL.of m.at_⟩, h.go iv fun v H1 e p => ?_⟩
  cases p
  have m1 := m.ext e
  refine ⟨l, ns.map V.int, .int z, rfl, rfl, m1.at_, ?_, ?_⟩
  · rw [List.length_map]
    exact Nat.lt_of_lt_of_le hz (by decide)
  · have w := Wr.put (acc := ns.map V.int ++ [.int z]) e.inv m1
    exact k H1 _ e w ⟨m1.s, m1.np, by rw [upd_same, List.map_append]; rfl⟩
theorem q_setIL {n : Nat} {j : Nat} (m : IL X H l ns) (hs : σ[n]? = some (some (.ref l))) (h : Ev X te σ H (vI z)) (hi : Ev X ti σ H (vI (j : Int))) (iv : X.I H) (hj : j < ns.length)
    (k : ∀ H1 H2, Ext X H H1 → Wr X l H1 H2 → IL X H2 l (ns.set j z) → tz D σ H2) : tSeq (tAsg te (gSub (tVar n) ti rSetL)) tz D σ H := s_setIL (D := { D with nx := tz D }) m hs h hi iv hj k
theorem q_augIL {n : Nat} {j : Nat} {x : Int} (m : IL X H l ns) (hs : σ[n]? = some (some (.ref l))) (hi : Ev X ti σ H (vI (j : Int))) (hx : ns[j]? = some x) (h : Ev X te σ H (vI z)) (iv : X.I H)
    (k : ∀ H1 H2, Ext X H H1 → Wr X l H1 H2 → IL X H2 l (ns.set j (x + z)) → tz D σ H2) : tSeq (tAugS (tVar n) ti te (rIxP K) (ipI fun i j => i + j) rSetL) tz D σ H := s_augIL (D := { D with nx := tz D }) m hs hi hx h iv k
/-- name *= e, drawn -/
theorem s_augX {n : Nat} {x : Int} {p : Int → Prop} (hs : σ[n]? = some (some (.int x))) (h : Ev X te σ H (vX fun d => ∃ r, d = .int r ∧ p r)) (iv : X.I H) (hc : ∀ r, p r → CMul x r) (k : ∀ r H1, Ext X H H1 → p r → D.nx (σ.set n (some (.int (x * r)))) H1) : tAug n te ipMul D σ H := by
  refine ⟨_, hs, h.go iv fun v H1 e ⟨d, ⟨r, hd, hr⟩, pv⟩ => ?_⟩
  subst hd
  cases pv
  exact ⟨x, r, rfl, rfl, hc r hr, k r H1 e hr⟩
end
section
variable {X Y X0 : Vol} {σ : L2.St} {H H' H0 H1 H2 : Hp} {ta tb tc te tl ti : TE} {K : Fr} {i j z : Int} {l l' : Addr} {ns ms : List Int} {tz : TS} {D : Ends} {R : PyData → Prop}
theorem ev_any {bs : List Bool} (h : Ev X te σ H (vL (bs.map PyData.bool))) : Ev X (tCB (rAny K) (tCons te tNil)) σ H (vB (bs.any id)) := ev_cbd (ed_cons h ed_nil) fun Y vs H1 e p Q q => by
  cases p with
  | cons a t =>
    cases t
    cases a with
    | lst ea al =>
      have hv := al.bls
      subst hv
      exact ⟨_, bs, rfl, SqL.of (wo_le _ _ ea), q _ H1 (.refl e.inv) (.bl _)⟩
/-- l[i] += e in a list in the making, both drawn -/
theorem s_augMX {n : Nat} {pz : Int → Prop} (m : Mak X H0 l H (ns.map PyData.int)) (hs : σ[n]? = some (some (.ref l))) (hi : Ev (X.add l) ti σ H (vX fun d => ∃ j : Nat, d = dN j ∧ j < ns.length)) (h : Ev (X.add l) te σ H (vX fun d => ∃ z, d = .int z ∧ pz z))
    (k : ∀ (j : Nat) (z : Int) H1, j < ns.length → pz z → Mak X H0 l H1 ((ns.set j (gAt ns j + z)).map PyData.int) → Wk (X.add l) H (X.add l) H1 → D.nx σ H1) : tAugS (tVar n) ti te (rIxP K) (ipI fun i j => i + j) rSetL D σ H := by
  refine ⟨_, hs, hi.go m.inv fun w H1 e ⟨d, ⟨j, hj, hlt⟩, p⟩ => ?_⟩
  subst hj
  cases p
  have m1 := m.ext e
  have a1 := m1.il
  refine ⟨l, _, (j : Int), .int (gAt ns j), rfl, rfl, by omega, a1.at_, atI_nat (by
    unfold gAt
    rw [List.getElem?_map, List.getD_eq_getElem?_getD, List.getElem?_eq_getElem hlt]
    rfl), (h.mono e).go e.inv fun v H2 e2 ⟨d, ⟨z, hd, hz⟩, p2⟩ => ?_⟩
  subst hd
  cases p2
  have m2 := m1.ext e2
  have a2 := m2.il
  refine ⟨gAt ns j, z, rfl, rfl, l, ns.map V.int, (j : Int), j, rfl, rfl, a2.at_, ?_, ?_⟩
  · rw [List.length_map]
    unfold ixN
    rw [if_pos (by omega), if_pos (by omega)]
    simp
  · refine k j z _ hlt hz (m2.put (vs := (ns.map V.int).set j (.int (gAt ns j + z))) ?_) ((e.trans e2).wk.trans m2.wkput)
    rw [← List.map_set (f := V.int)]
    exact dx_ints _
end
section
variable {X : Vol} {σ : L2.St} {H : Hp} {ta tb : TE} {i : Int}
abbrev rNoneIs : R2 := fun x y H Q => y = V.non ∧ Q (.bl (decide (x = V.non))) H
abbrev rNoneNot : R2 := fun x y H Q => y = V.non ∧ Q (.bl (!decide (x = V.non))) H
theorem ev_isNN (ha : Ev X ta σ H (vD .none)) (hb : Ev X tb σ H (vD .none)) : Ev X (tOp rNoneIs ta tb) σ H (vB true) := ev_op2 ha hb fun Y x y H1 e px py Q q => by
  cases px; cases py
  exact ⟨rfl, q _ H1 (.refl e.inv) (.bl _)⟩
theorem ev_isNI (ha : Ev X ta σ H (vI i)) (hb : Ev X tb σ H (vD .none)) : Ev X (tOp rNoneIs ta tb) σ H (vB false) := ev_op2 ha hb fun Y x y H1 e px py Q q => by
  cases px; cases py
  exact ⟨rfl, q _ H1 (.refl e.inv) (.bl _)⟩
theorem ev_notNN (ha : Ev X ta σ H (vD .none)) (hb : Ev X tb σ H (vD .none)) : Ev X (tOp rNoneNot ta tb) σ H (vB false) := ev_op2 ha hb fun Y x y H1 e px py Q q => by
  cases px; cases py
  exact ⟨rfl, q _ H1 (.refl e.inv) (.bl _)⟩
theorem ev_notNI (ha : Ev X ta σ H (vI i)) (hb : Ev X tb σ H (vD .none)) : Ev X (tOp rNoneNot ta tb) σ H (vB true) := ev_op2 ha hb fun Y x y H1 e px py Q q => by
  cases px; cases py
  exact ⟨rfl, q _ H1 (.refl e.inv) (.bl _)⟩
theorem ev_eqIN (ha : Ev X ta σ H (vI i)) (hb : Ev X tb σ H (vD .none)) : Ev X (tOp rEq ta tb) σ H (vB false) := ev_op2 ha hb fun Y x y H1 e px py Q q => by
  cases px; cases py
  exact ⟨rfl, q _ H1 (.refl e.inv) (.bl _)⟩
end
/-- a list by a function on its places -/
def tab (n : Nat) (f : Nat → Int) : List Int := (List.range n).map f
theorem tab_len (n : Nat) (f : Nat → Int) : (tab n f).length = n := by unfold tab; rw [List.length_map, List.length_range]
theorem tab_get {n : Nat} {f : Nat → Int} {i : Nat} (h : i < n) : (tab n f)[i]? = some (f i) := by unfold tab; rw [List.getElem?_map, List.getElem?_range h]; rfl
theorem tab_atV {n : Nat} {f : Nat → Int} {i : Nat} (h : i < n) : atI ((tab n f).map V.int) (i : Int) = some (.int (f i)) := atI_nat (by rw [List.getElem?_map, tab_get h]; rfl)
theorem tab_ext {n : Nat} {f g : Nat → Int} (h : ∀ v, v < n → f v = g v) : tab n f = tab n g := List.map_congr_left fun v hv => h v (List.mem_range.mp hv)
theorem tab_set {n : Nat} {f : Nat → Int} {i : Nat} {x : Int} : (tab n f).set i x = tab n fun v => if v = i then x else f v := by
  apply List.ext_getElem?
  intro j
  by_cases hj : j < n
  · rw [List.getElem?_set, tab_get hj, tab_len]
    by_cases e : i = j
    · subst e
      rw [if_pos rfl, if_pos hj, tab_get hj, if_pos rfl]
    · rw [if_neg e, tab_get hj, if_neg (fun z => e z.symm)]
  · rw [List.getElem?_eq_none (by rw [List.length_set, tab_len]; omega), List.getElem?_eq_none (by rw [tab_len]; omega)]
end Ee

/-! ## sorted(set(list of ints)) -/
namespace L2
open PySem PySem.Spec PyProof.Rows
/-- an empty set as it is laid -/
abbrev emptyS (w : World) : Obj := { cls := .type "set", dict := none, data := .set #[] 0 (.fresh 0 0 (!w.params.followText "set-order")) }
section
variable {P : Program} {w : World} {A : Around} {E : Value → Shared → Prop} {s : Shared}
theorem set_from_list {p : Addr} {vs : Array Value} (ks : List Int) {Q : Value → Shared → Prop} (calm : A.handled = none) (hp : s.heap.IsList p vs) (hi : IntsAre vs.toList ks) (few : ks.length + 1 < scanBound)
    (go : ∀ (h' : Heap) (tk c : Nat), SetR w h' s.heap.objs.size (fun j => decide (j ∈ ks)) c → c ≤ ks.length → (∀ b o, s.heap.get? b = some o → h'.get? b = some o) → Q (.ref s.heap.objs.size) { s with heap := h', toks := tk }) :
    wpAny (model P w) A (call (.type "set") [.ref p]) Q E s := by
  have sz : vs.size = ks.length := by rw [← hi.length, Array.length_toList]
  obtain ⟨mc, mt, mro⟩ := F.called_set.mro
  have m1 := F.called_set.made
  have m2 := F.called_set.sub
  refine wpAny_call (codeAny_of_tree ?_); show wpAny _ _ (callAny (.type "set") _) _ _ _
  refine wpAny_pure ⟨Code.quiet_builtin _ (by decide +kernel), ?_⟩
  refine codeAny_builtin F.entry_type_call ?_
  rw [Around.under_plain (weight_type_call_type "set" [.ref p] []) rfl]
  have m3 := F.called_set.notType
  have m4 := F.called_set.canCreate
  have m5 := F.typeCall_set_1 (.ref p)
  (repeat (any_goals (first | assumption | wp_step)))
  refine codeAny_mono (code_set_led1 (.ref p) (E := E) (Q₁ := fun ob t => ob = .ref s.heap.objs.size ∧ t = { s with heap := s.heap.push (emptyS w) }) ⟨rfl, rfl⟩) fun r1 t1 q1 => ?_
  match r1, q1 with
  | .error _, q1 => exact q1
  | .ok .next, q1 => exact q1.elim
  | .ok .brk, q1 => exact q1.elim
  | .ok .cont, q1 => exact q1.elim
  | .ok (.ret ob), q1 =>
    obtain ⟨rfl, rfl⟩ := q1
    have at0 : (s.heap.push (emptyS w)).get? s.heap.objs.size = some (emptyS w) := Heap.get?_push_size _ rfl
    have ty0 : Shared.TypeIs { s with heap := s.heap.push (emptyS w) } (.ref s.heap.objs.size) "set" := ⟨_, at0, rfl⟩
    have i1 := F.called_set.init.lookup
    have i2 := F.called_set.init.bind (.ref s.heap.objs.size)
    (repeat (any_goals (first | assumption | wp_step)))
    refine codeAny_mono (codeAny_call_builtin (R := wants (fun r t => r = .none ∧ ∃ h' tk c, t = { s with heap := h', toks := tk } ∧ SetR w h' s.heap.objs.size (fun j => decide (j ∈ ks)) c ∧ c ≤ ks.length ∧ ∀ b o, s.heap.get? b = some o → h'.get? b = some o) E) F.called_set.init.plain F.entry_set_init (check_set_init_1 ty0 ?_)) fun r2 t2 q2 => ?_
    · have lt0 : p < s.heap.objs.size := by
        obtain ⟨o, ho, _⟩ := id hp
        exact Heap.lt_size ho
      have hp1 := hp.push (emptyS w)
      obtain ⟨⟨oc, od, odt, osl⟩, ho, hc, nl, hd⟩ := id hp1
      simp only at hc hd
      subst hc hd
      have k1 := F.sub_list_set
      have k2 := F.sub_list_frozenset
      have k3 : (Value.type "list" == Value.type "dict") = false := by decide
      unfold Builtin.«set.__init__» noKeywords Builtin.Frozenset.updateFrom; generalize ePI : pyIter = it
      wp_walk
      subst ePI
      refine wpAny_pyIter_list hp1 (wpAny_bind (wpAny_runValue ?_))
      have calm3 : A.in1.in1.in1.handled = none := by simp [calm]
      have nI : p ≠ (s.heap.push (emptyS w)).objs.size := by
        rw [Heap.size_push]
        exact Nat.ne_of_lt (Nat.lt_succ_of_lt lt0)
      have nS : s.heap.objs.size ∉ [(s.heap.push (emptyS w)).objs.size, p] := by
        rw [Heap.size_push]
        intro hm
        rcases List.mem_cons.mp hm with e | e
        · exact Nat.ne_of_lt (Nat.lt_succ_self _) e
        · exact Nat.ne_of_gt lt0 (List.mem_singleton.mp e)
      have vals : ∀ (i : Nat) (v : Value), vs[i]? = some v → ∃ k t, ks[i]? = some k ∧ v = .int k t := fun i v hv => by
        have hlt : i < ks.length := by rw [← sz]; exact (Array.getElem?_eq_some_iff.mp hv).1
        obtain ⟨t, e⟩ := hi.int_at i v (by rw [Array.getElem?_toList]; exact hv)
        refine ⟨ks[i], t, List.getElem?_eq_getElem hlt, ?_⟩
        rw [e, List.getD_eq_getElem?_getD, List.getElem?_eq_getElem hlt]
        rfl
      refine set_update_ints ((Walks.list calm3 _ p nI vs).toS) s.heap.objs.size nS ks sz few vals vs.size 0 _ rfl (Nat.zero_le _) ⟨⟨_, Heap.get?_push_size _ rfl, rfl, rfl⟩, hp1.push _⟩ ⟨0, Nat.le_refl 0, setR_new_at (Heap.get?_push_of_some _ at0)⟩ fun t c mv hcs hS => ?_
      obtain ⟨h', g', d', tk', os'⟩ := t
      obtain rfl : g' = s.gens := mv.gens
      obtain rfl : d' = s.drawn := mv.drawn
      obtain rfl : os' = s.os := mv.os
      show wpAny _ _ _ _ _ _; refine wpAny_pure ?_; show wpAny _ _ (ret Value.none) _ _ _
      refine wpAny_pure ⟨rfl, h', tk', c, rfl, hS, by omega, fun b o e => ?_⟩
      have hb : b < s.heap.objs.size := Heap.lt_size e
      refine mv.heap b o (fun hm => ?_) (Heap.get?_push_of_some _ (Heap.get?_push_of_some _ e))
      rcases List.mem_cons.mp hm with z | z
      · exact Nat.ne_of_lt hb z
      · rw [List.mem_singleton.mp z, Heap.size_push] at hb
        exact Nat.lt_irrefl _ (Nat.lt_of_succ_lt hb)
    · match r2, q2 with
      | .error _, q2 => exact q2
      | .ok .next, q2 => exact q2.elim
      | .ok .brk, q2 => exact q2.elim
      | .ok .cont, q2 => exact q2.elim
      | .ok (.ret r), q2 =>
        obtain ⟨rfl, h', tk, c, rfl, hS, hc, kp⟩ := q2
        (repeat (any_goals (first | assumption | wp_step)))
        exact go _ _ _ hS hc kp
end
end L2
namespace Ee
open PySem L2
def tSortSetI (K : PySem.W.Frag) (ta : TE) : TE := fun σ H Q => ta σ H fun x H1 => ∃ (l : Addr) (ns : List Int), x = .ref l ∧ SqL K H1 l (ns.map V.int) ∧ ns.length < 64 ∧
  ∀ (ys : List Int) (p : Addr), ys.Pairwise (· < ·) → (∀ k, k ∈ ys ↔ k ∈ ns) → H1 p = none → Q (.ref p) (upd H1 p (.lst (ys.map V.int)))
section
open PySem.Spec PyProof.Rows
theorem pe_sortSetI {X : Cx} {a : Expr} {ta : TE} {pa pb pc pd : Pos} (g1 : Gl X "sorted") (n1 : X.mg "sorted" = none) (g2 : Gl X "set") (n2 : X.mg "set" = none) (hx : PE X a ta) (calm : X.calm = true := by rfl)
    (ns : starEach [a] X.env = (false, eval a X.env) :: starEach [] X.env := by rfl) : PE X (.Call (.Name "sorted" pa) [.Call (.Name "set" pb) [a] [] pc] [] pd) (tSortSetI X.K ta) := by
  refine ⟨fun pins s0 σ G Q I h => ?_⟩
  refine Call_ (ld_blt I g1 n1 (u := .builtin "sorted") (by decide +kernel) ?_)
  refine PyProof.Rows.callWith_builtin1 (PyProof.Rows.args_cons ?_ (by rfl)) rfl (by rfl)
  refine Call_ (ld_blt I g2 n2 boot_set ?_)
  refine PyProof.Rows.callWith_type1 (PyProof.Rows.args_cons (thn (hx.run pins s0 σ G _ I h) fun u s2 ⟨y, G2, J, ry, hy⟩ => PyProof.Rows.args_nil ?_) ns) ns (by rfl)
  obtain ⟨l, ks, rfl, hq, h64, q⟩ := hy
  cases ry
  obtain ⟨its, r, pl, hz⟩ := J.list hq
  refine set_from_list ks (J.ok.hd calm) pl.isList (by simpa using RZ.intsAre_vals r) (by unfold scanBound; omega) fun h2 tk c hR hc kp => PyProof.Rows.args_nil ?_
  have J2 : L2.Inv X pins σ G2 { s2 with heap := h2, toks := tk } := J.kept fun b ob z => kp b ob z
  refine sorted_set hR (J2.ok.hd calm) (Nat.lt_of_le_of_lt hc h64) fun s' p out c2 ys k g o hp hout hi hs hm hl => ?_
  have nn : G2 p = none := J2.hok.fresh hp
  have J3 : L2.Inv X pins σ (upd G2 p (.lst (ys.map V.int))) { s2 with heap := s'.heap, gens := s'.gens, drawn := s'.drawn, toks := s'.toks } :=
    L2.Inv.call (s := { s2 with heap := h2, toks := tk }) J2 (ch := []) (Un.laid k hp nn) (J2.hok.laid k hp ⟨by rw [List.length_map, hl, sizeLine_eq]; omega, out.toList, c2, vals_of_ints hi, hout⟩) (by rw [g]; exact J2.bare) (fun _ z => nomatch z)
  have es : s' = { s2 with heap := s'.heap, gens := s'.gens, drawn := s'.drawn, toks := s'.toks } := by cases s'; cases s2; cases o; rfl
  rw [es]
  exact ⟨.ref p, _, J3, rfl, q ys p hs (fun k => by rw [hm k, decide_eq_true_eq]) nn⟩
end
section
variable {X : Vol} {σ : L2.St} {H : Hp} {te : TE} {K : Fr}
theorem en_sortSet {l zs : List Int} (h : Ev X te σ H (vL (l.map PyData.int))) (hl : l.length < 64) (hz : zs.Pairwise (· < ·)) (hm : ∀ k, k ∈ zs ↔ k ∈ l) : EvN X (tSortSetI K te) σ H (.list (zs.map PyData.int)) := fun Y H1 e Q q => h Y H1 e _ fun v H2 e2 p2 => by
  cases p2 with
  | lst ea al =>
    have hv := al.ints
    subst hv
    refine ⟨_, l, rfl, SqL.of (wo_le _ _ ea), hl, fun ys p h1 h2 hp => ?_⟩
    have ey : ys = zs := by
      refine List.Perm.eq_of_pairwise (le := (· < ·)) (fun a b _ _ h1 h2 => by omega) h1 hz ?_
      refine (List.perm_ext_iff_of_nodup (h1.imp fun h => by omega) (hz.imp fun h => by omega)).mpr fun k => (h2 k).trans (hm k).symm
    subst ey
    have x := Sub.new (X := Y) (o := .lst (ys.map V.int)) e2.inv hp
    exact q p _ (free_of e2 hp) (e2.trans x) (.lst (wo_new e2.inv hp) (dx_ints _))
end
end Ee

/-! ## lists of numbers and None; tuples whose second part is new -/
namespace Ee
open PySem L2
section
variable {X Y : Vol} {σ : L2.St} {H H' H0 H1 : Hp} {ta tb tc te tl tf : TE} {P P' : VP} {K : Fr} {i j k : Int} {b : Bool} {d e : PyData} {ds es : List PyData} {D : Ends} {tz ty tw : TS} {l : Addr}
def dO : Option Int → PyData
  | none => .none
  | some x => .int x
def vOf : Option Int → V
  | none => .non
  | some x => .int x
theorem DxAll.opts : ∀ {l : List (Option Int)} {vs : List V}, DxAll H vs (l.map dO) → vs = l.map vOf
  | [], _, h => by cases h; rfl
  | none :: l, _, h => by
    cases h with
    | cons a t =>
      cases a
      rw [DxAll.opts t]
      rfl
  | some x :: l, _, h => by
    cases h with
    | cons a t =>
      cases a
      rw [DxAll.opts t]
      rfl
theorem dx_opts : ∀ (l : List (Option Int)), DxAll H (l.map vOf) (l.map dO)
  | [] => .nil
  | none :: l => .cons .non (dx_opts l)
  | some x :: l => .cons (.int x) (dx_opts l)
theorem Mak.againO {ns : List (Option Int)} (i : X.I H) (hl : H l = none) (e : Ext X H H') (h : Dx (X.wo H') (.ref l) (.list (ns.map dO))) : Mak X H l H' (ns.map dO) := by
  cases h with
  | lst ea al =>
    refine ⟨i, hl, ⟨rfl, rfl, fun _ h => .inl h, fun a z => ?_, e.old, ⟨fun a z => ?_, e.inv.pl, ti_add e.inv (wo_le _ _ ea) True.intro⟩⟩, _, wo_le _ _ ea, by rw [al.opts]; exact dx_opts ns⟩
    · rcases z with z | rfl
      · exact .inl z
      · exact .inr hl
    · rcases z with z | rfl
      · exact e.inv.live a z
      · rw [wo_le _ _ ea]
        exact fun z => nomatch z
theorem ev_isNO {o : Option Int} (ha : Ev X ta σ H (vD (dO o))) (hb : Ev X tb σ H (vD .none)) : Ev X (tOp rNoneIs ta tb) σ H (vB o.isNone) := by
  cases o with
  | none => exact ev_isNN ha hb
  | some x => exact ev_isNI ha hb
theorem ev_notNO {o : Option Int} (ha : Ev X ta σ H (vD (dO o))) (hb : Ev X tb σ H (vD .none)) : Ev X (tOp rNoneNot ta tb) σ H (vB o.isSome) := by
  cases o with
  | none => exact ev_notNN ha hb
  | some x => exact ev_notNI ha hb
theorem ev_notNT (ha : Ev X ta σ H (vT ds)) (hb : Ev X tb σ H (vD .none)) : Ev X (tOp rNoneNot ta tb) σ H (vB true) := ev_op2 ha hb fun Y x y H1 e px py Q q => by
  cases px; cases py
  exact ⟨rfl, q _ H1 (.refl e.inv) (.bl _)⟩
theorem ev_notNL (ha : Ev X ta σ H (vL ds)) (hb : Ev X tb σ H (vD .none)) : Ev X (tOp rNoneNot ta tb) σ H (vB true) := ev_op2 ha hb fun Y x y H1 e px py Q q => by
  cases px; cases py
  exact ⟨rfl, q _ H1 (.refl e.inv) (.bl _)⟩
/-! ### the second part of the tuple v is new -/
def NewSd (H H' : Hp) (v : V) : Prop := ∀ t xs l, v = .ref t → H' t = some (.tup xs) → xs[1]? = some (.ref l) → H l = none
theorem q_unpackUD {i j : Nat} {α : Type} {pre : α → Prop} {Ps : α → List VP} {P : α → VP} {E : XK} {s : Str} {tr : TA} {Pr : List VP} {P0 : VP} {v0 : V} (a : α) (h : EvA X tr σ H Pr) (hp : pre a) (hq : Ps a = Pr ++ [P0]) (h0 : ∀ G, P0.at_ G v0) (hP : P a = vT [d, e]) (iv : X.I H)
    (k : ∀ v1 v2 H1 H2, Ext X H H1 → Ext X H1 H2 → Dx (X.wo H2) v1 d → Dx (X.wo H2) v2 e → (v1 = .str s → ∀ l, v2 = .ref l → H1 l = none) → tz D ((σ.set i (some v1)).set j (some v2)) H2) :
    tSeq (tAsg (tCall (spU pre Ps P fun _ => NewSnd s) [v0] E tr) (gTup K 2 (gCons (gName i) (gCons (gName j) gNil)))) tz D σ H := h X H (.refl iv) _ fun vs H1 e1 p1 => by
  show spU pre Ps P _ (vs ++ [v0]) H1 _ E
  refine ⟨a, X.S, hp, e1.inv.live, by rw [hq]; exact allP_snoc h0 p1, fun v H' s r f => ?_⟩
  rw [hP] at r
  have e2 : Ext X H1 H' := .same s e1.inv
  cases r with
  | tup ea al =>
    cases al with
    | cons a t =>
      cases t with
      | cons b t =>
        cases t
        refine ⟨_, _, rfl, SqT.of (wo_le _ _ ea), rfl, _, _, rfl, _, _, rfl, rfl, k _ _ H1 H' e1 e2 a b fun h1 l h2 => ?_⟩
        subst h2
        exact f _ _ _ rfl (wo_le _ _ ea) h1
theorem q_retPair {m n : Nat} {v1 : V} (i0 : X.I H) (h1 : σ[m]? = some (some v1)) (h2 : σ[n]? = some (some (.ref l))) (hl : H0 l = none) (p1 : Dx (X.wo H) v1 d) (p2 : Dx (X.wo H) (.ref l) e)
    (k : ∀ v H1, Ext X H H1 → Dx (X.wo H1) v (.tuple [d, e]) → NewSd H0 H1 v → D.rt v H1) : tRet (tTup (tCons (tVar m) (tCons (tVar n) tNil))) D σ H :=
  ⟨_, h1, _, h2, by show 2 ≤ sizeLine; decide, fun p hp => by
    have x := Sub.new (X := X) (o := .tup [v1, .ref l]) i0 hp
    refine k _ _ x (.tup (wo_new i0 hp) (.cons (x.upD p1) (.cons (x.upD p2) .nil))) fun t xs m ev et hy => ?_
    cases ev
    rw [upd_same] at et
    cases et
    cases hy
    exact hl⟩
theorem q_retNew3 {s : Str} (i0 : X.I H) (h : EvN X te σ H d) (h2 : Ev X tf σ H (vD e)) (k : ∀ v H1, Ext X H H1 → Dx (X.wo H1) v (.tuple [.str s, d, e]) → NewSd H H1 v → D.rt v H1) : tRet (tTup (tCons (tC (.str s)) (tCons te (tCons tf tNil)))) D σ H :=
  h X H (.refl i0) _ fun l H1 n e1 p1 => h2 X H1 e1 _ fun v2 H2 e2 p2 => ⟨by show 3 ≤ sizeLine; decide, fun p hp => by
    have x := Sub.new (X := X) (o := .tup [.str s, .ref l, v2]) e2.inv hp
    refine k _ _ ((e1.trans e2).trans x) (.tup (wo_new e2.inv hp) (.cons (.str _) (.cons ((e2.trans x).upD p1) (.cons (x.upD p2) .nil)))) fun t xs m ev et hy => ?_
    cases ev
    rw [upd_same] at et
    cases et
    cases hy
    exact n⟩
theorem NewSd.mono {H2 : Hp} {v : V} (h : NewSd H H' v) (e : Ext X H2 H) : NewSd H2 H' v := fun t x l a b c => free_of e (h t x l a b c)
theorem q_appAt {n : Nat} {a : Addr} {xs : List V} (i0 : X.I H0) (hl : H0 l = none) (x0 : Ext X H0 H) (hs : σ[n]? = some (some (.ref a))) (ha : X.wo H a = some (.tup xs)) (hx : xs[1]? = some (.ref l)) (hd : Dx (X.wo H) (.ref l) (.list ds)) (hz : ds.length < 40000) (k : ∀ H1, Ext X H0 H1 → tz D σ H1) :
    tSeq (tDrop (tBM K "list" rAppend (tOp (rIxT K) (tVar n) (tC (.int 1))) (tCons (tC .non) tNil))) tz D σ H := by
  cases hd with
  | lst ea al =>
    refine ⟨_, hs, ?_⟩
    refine ⟨a, _, 1, _, rfl, rfl, SqT.of (wo_le _ _ ha), atI_nat (j := 1) hx, ?_⟩
    refine ⟨.inl ⟨rfl, _, SqL.of (wo_le _ _ ea)⟩, ?_⟩
    refine ⟨l, _, _, rfl, rfl, wo_le _ _ ea, ?_, k _ (ext_upd i0 hl x0 (plOf (wo_le _ _ ea)))⟩
    rw [al.len]
    exact Nat.lt_of_lt_of_le hz (by decide)
theorem sd_of {Hf1 Hf Hn : Hp} {v : V} (ef : Ext X Hf Hn) (h : Dx (X.wo Hf) v (.tuple (d :: .list ds :: es))) (nf : NewSd Hf1 Hf v) : ∃ t xs l, v = .ref t ∧ X.wo Hn t = some (.tup xs) ∧ xs[1]? = some (.ref l) ∧ Hf1 l = none ∧ Dx (X.wo Hn) (.ref l) (.list ds) := by
  cases h with
  | tup ea al =>
    cases al with
    | cons a al =>
      cases al with
      | cons b al =>
        cases b with
        | lst eb bl => exact ⟨_, _, _, rfl, ef.wo _ _ ea, rfl, nf _ _ _ rfl (wo_le _ _ ea) rfl, ef.upD (.lst eb bl)⟩
theorem tgt_ii_i {m n o : Nat} {v : V} {R : L2.St → Hp → Prop} (h : Dx H' v (.tuple [.tuple [.int i, .int j], .int k])) (s : Same H' H) (r : R (((σ.set m (some (.int i))).set n (some (.int j))).set o (some (.int k))) H) :
    Tgt (gTup K 2 (gCons (gTup K 2 (gCons (gName m) (gCons (gName n) gNil))) (gCons (gName o) gNil))) v σ H R := tgt_tup2 h s fun v1 v2 h1 h2 => by
  cases h2
  exact tgt_ii h1 s (tgt_name r)
end
theorem tab_atD {n : Nat} {f : Nat → Int} {i : Nat} (h : i < n) : atI ((tab n f).map PyData.int) (i : Int) = some (.int (f i)) := atI_nat (by rw [List.getElem?_map, tab_get h]; rfl)
/-- a list of numbers and None by a function on its places -/
def otab (n : Nat) (f : Nat → Option Int) : List PyData := ((List.range n).map f).map dO
theorem otab_len (n : Nat) (f : Nat → Option Int) : (otab n f).length = n := by unfold otab; rw [List.length_map, List.length_map, List.length_range]
theorem otab_get {n : Nat} {f : Nat → Option Int} {i : Nat} (h : i < n) : (otab n f)[i]? = some (dO (f i)) := by unfold otab; rw [List.getElem?_map, List.getElem?_map, List.getElem?_range h]; rfl
theorem otab_at {n : Nat} {f : Nat → Option Int} {i : Nat} (h : i < n) : atI (otab n f) (i : Int) = some (dO (f i)) := atI_nat (otab_get h)
theorem otab_atI {n : Nat} {f : Nat → Option Int} {i : Nat} {x : Int} (h : i < n) (e : f i = some x) : atI (otab n f) (i : Int) = some (.int x) := by rw [otab_at h, e]; rfl
theorem otab_ext {n : Nat} {f g : Nat → Option Int} (h : ∀ v, v < n → f v = g v) : otab n f = otab n g := congrArg (List.map dO) (List.map_congr_left fun v hv => h v (List.mem_range.mp hv))
theorem otab_set {n : Nat} {f : Nat → Option Int} {i : Nat} {x : Int} : (otab n f).set i (.int x) = otab n fun v => if v = i then some x else f v := by
  apply List.ext_getElem?
  intro j
  by_cases hj : j < n
  · rw [List.getElem?_set, otab_get hj, otab_len]
    by_cases e : i = j
    · subst e
      rw [if_pos rfl, if_pos hj, otab_get hj, if_pos rfl]
      rfl
    · rw [if_neg e, otab_get hj, if_neg (fun z => e z.symm)]
  · rw [List.getElem?_eq_none (by rw [List.length_set, otab_len]; omega), List.getElem?_eq_none (by rw [otab_len]; omega)]
theorem otab_none (n : Nat) : (List.replicate n [PyData.none]).flatten = otab n fun _ => none := by
  rw [List.flatten_replicate_singleton]
  symm
  rw [List.eq_replicate_iff]
  refine ⟨otab_len n _, fun x hx => ?_⟩
  obtain ⟨a, ha, rfl⟩ := List.mem_map.mp hx
  obtain ⟨v, _, rfl⟩ := List.mem_map.mp ha
  rfl
theorem otab_ints (n : Nat) (f : Nat → Int) : otab n (fun v => some (f v)) = (tab n f).map PyData.int := by
  unfold otab tab
  rw [List.map_map, List.map_map]
  rfl
end Ee

/-! ## comprehensions with two generators -/
namespace Ee
open PySem L2
section
variable {X Y : Vol} {σ : L2.St} {H H' H0 H1 : Hp} {ta tb tc te tl : TE} {tt : TT} {D : Ends} {α β : Type} {l : List α} {dd : α → PyData}
theorem en_lc2T {wi wi1 : TI} {g g1 : TG} {vs vs1 : List Nat} (p : α → Bool) (m : α → List β) (ee : α → β → PyData) (f : α → β → PyData) (hs : EvS X wi σ H (l.map dd)) (hn : ((l.filter p).flatMap fun a => (m a).map (f a)).length ≤ 40000)
    (step : ∀ (Y : Vol) (i : Nat) (a : α) (v : V) (H1 : Hp), l[i]? = some a → Sub X H Y H1 → Dx (Y.wo H1) v (dd a) → Tgt g v (wipe σ vs) H1 fun σ2 H2 => H2 = H1 ∧ wipe σ2 vs = wipe σ vs ∧ EvT Y tt σ2 H1 (p a) ∧ (p a = true → EvS Y wi1 σ2 H1 ((m a).map (ee a)) ∧
      ∀ (Z : Vol) (j : Nat) (b : β) (v' : V) (H3 : Hp), (m a)[j]? = some b → Wk Y H1 Z H3 → Dx (Z.wo H3) v' (ee a b) → Tgt g1 v' (wipe σ2 vs1) H3 fun σ3 H4 => H4 = H3 ∧ wipe σ3 vs1 = wipe σ2 vs1 ∧ Ev Z te σ3 H3 (vD (f a b)))) :
    EvN X (tLc2 wi g tt wi1 g1 tYes te vs vs1) σ H (.list ((l.filter p).flatMap fun a => (m a).map (f a))) := fun Y H1 e Q q => hs Y H1 e _ fun J H2 e2 sq C hC => by
  have i2 := e2.inv
  have tot : ∀ i a, l[i]? = some a → p a = true → ∀ j, j ≤ (m a).length → ((((l.take i).filter p).flatMap fun a => (m a).map (f a)) ++ ((m a).take j).map (f a)).length ≤ 40000 := fun i a ha hp j hj => by
    refine Nat.le_trans ?_ hn
    have e1 : l = l.take (i + 1) ++ l.drop (i + 1) := (List.take_append_drop _ _).symm
    have e3 : ((l.filter p).flatMap fun a => (m a).map (f a)).length = ((((l.take (i + 1)).filter p).flatMap fun a => (m a).map (f a)) ++ (((l.drop (i + 1)).filter p).flatMap fun a => (m a).map (f a))).length := by
      rw [← List.flatMap_append, ← List.filter_append, ← e1]
    rw [e3, Wm.take_snoc ha, List.filter_append, List.flatMap_append]
    have e4 : (([a].filter p).flatMap fun a => (m a).map (f a)) = (m a).map (f a) := by simp [hp]
    rw [e4]
    simp only [List.length_append, List.length_map, List.length_take]
    omega
  refine ⟨fun i k H' => k = l.length - i ∧ i ≤ l.length ∧ Mak Y H2 C H' (((l.take i).filter p).flatMap fun a => (m a).map (f a)), ⟨l.length, by simp, Nat.zero_le _, Mak.start i2 hC⟩, ?_⟩
  rintro i k H' ⟨rfl, hi, mk⟩
  by_cases hlt : i < l.length
  · refine .inr ⟨sq.go _ _ _ mk.sub.wk (by rw [List.length_map]; exact hlt), fun H'' => Mak Y H2 C H'' (((l.take (i + 1)).filter p).flatMap fun a => (m a).map (f a)), fun H'' p => ⟨l.length - (i + 1), by omega, rfl, hlt, p⟩, fun x H'' y => ?_⟩
    obtain ⟨d, hd, e3, hx⟩ := sq.yld _ _ _ _ _ mk.sub.wk (by rw [List.length_map]; exact hlt) y
    rw [List.getElem?_map] at hd
    obtain ⟨a, ha, rfl⟩ := Option.map_eq_some_iff.mp hd
    have mk3 := mk.ext e3
    refine step (Y.add C) i a x H'' ha ((e.trans e2).trans mk3.sub) hx _ ?_
    rintro σ2 H3 ⟨rfl, hw, hb, ht⟩
    refine ⟨hw, hb.go mk3.inv fun H4 e4 => ?_⟩
    have mk4 := mk3.ext e4
    have hdat : (((l.take (i + 1)).filter p).flatMap fun a => (m a).map (f a)) = (((l.take i).filter p).flatMap fun a => (m a).map (f a)) ++ (([a].filter p).flatMap fun a => (m a).map (f a)) := by
      rw [Wm.take_snoc ha, List.filter_append, List.flatMap_append]
    by_cases hp : p a = true
    · have e5 : (([a].filter p).flatMap fun a => (m a).map (f a)) = (m a).map (f a) := by simp [hp]
      rw [e5] at hdat
      obtain ⟨hs1, st1⟩ := ht hp
      rw [hp]
      refine iteT (hs1 (Y.add C) H4 e4 _ fun J1 H5 e5 sq1 => ?_)
      have mk5 := mk4.ext e5
      refine ⟨fun j k H => k = (m a).length - j ∧ j ≤ (m a).length ∧ Mak Y H2 C H ((((l.take i).filter p).flatMap fun a => (m a).map (f a)) ++ ((m a).take j).map (f a)) ∧ Wk (Y.add C) H5 (Y.add C) H, ⟨(m a).length, by simp, Nat.zero_le _, mk5.cast (by simp), .refl e5.inv⟩, ?_⟩
      rintro j k H6 ⟨rfl, hj, mk6, w6⟩
      by_cases hjl : j < (m a).length
      · refine .inr ⟨sq1.go _ _ _ w6 (by rw [List.length_map]; exact hjl), fun H => Mak Y H2 C H ((((l.take i).filter p).flatMap fun a => (m a).map (f a)) ++ ((m a).take (j + 1)).map (f a)) ∧ Wk (Y.add C) H5 (Y.add C) H, fun H ⟨z1, z2⟩ => ⟨(m a).length - (j + 1), by omega, rfl, hjl, z1, z2⟩, fun x1 H7 y1 => ?_⟩
        obtain ⟨d1, hd1, e7, hx1⟩ := sq1.yld _ _ _ _ _ w6 (by rw [List.length_map]; exact hjl) y1
        rw [List.getElem?_map] at hd1
        obtain ⟨b, hb1, rfl⟩ := Option.map_eq_some_iff.mp hd1
        have mk7 := mk6.ext e7
        have w7 := w6.trans e7.wk
        refine st1 (Y.add C) j b x1 H7 hb1 ((e4.trans e5).wk.trans w7) hx1 _ ?_
        rintro σ3 H8 ⟨rfl, hw3, hte⟩
        refine ⟨hw3, et_yes.go mk7.inv fun H9 e9 => iteT (hte (Y.add C) H9 e9 _ fun y H10 e10 p10 => ?_)⟩
        have mk10 := (mk7.ext e9).ext e10
        obtain ⟨acc, h1, h2⟩ := mk10.ex
        refine ⟨acc, h1, ?_, (mk10.put (h2.app (.cons p10 .nil))).cast ?_, w7.trans ((e9.trans e10).wk.trans mk10.wkput)⟩
        · rw [h2.len]
          have := tot i a ha hp (j + 1) hjl
          rw [Wm.take_snoc hb1, List.map_append, ← List.append_assoc, List.length_append] at this
          have k1 : ([b].map (f a)).length = 1 := rfl
          exact Nat.lt_of_lt_of_le (by omega : _ < 40001) (by decide)
        · rw [Wm.take_snoc hb1, List.map_append, ← List.append_assoc]
          rfl
      · have ej : j = (m a).length := by omega
        subst ej
        refine .inl ⟨?_, mk6.cast ?_⟩
        · have := sq1.stop _ _ w6
          rwa [List.length_map] at this
        · rw [List.take_length, hdat]
    · have hp' : p a = false := by simpa using hp
      have e5 : (([a].filter p).flatMap fun a => (m a).map (f a)) = [] := by simp [hp']
      rw [e5, List.append_nil] at hdat
      rw [hp']
      exact iteF (mk4.cast hdat.symm)
  · have ei : i = l.length := by omega
    subst ei
    rw [List.take_length] at mk
    refine .inl ⟨?_, q C H' (free_of e2 hC) (e2.trans mk.done.1) mk.done.2⟩
    have := sq.stop _ _ mk.sub.wk
    rwa [List.length_map] at this
end
end Ee

/-! ## walks over things of any kind: lists of objects -/
namespace Ee
open PySem L2
structure SeqnP {α : Type} (X : Vol) (H0 : Hp) (J : It) (l : List α) (PP : α → VP) : Prop where
  go : ∀ Z H i, Wk X H0 Z H → i < l.length → J.go i H
  stop : ∀ Z H, Wk X H0 Z H → J.stop l.length H
  yld : ∀ Z H i x H', Wk X H0 Z H → i < l.length → J.yld i H x H' → ∃ a, l[i]? = some a ∧ Ext Z H H' ∧ (PP a).at_ (Z.wo H') x
def EvSP {α : Type} (X : Vol) (wi : TI) (σ : L2.St) (H : Hp) (l : List α) (PP : α → VP) : Prop := ∀ (Y : Vol) (H1 : Hp), Sub X H Y H1 → ∀ R : It → Hp → Prop, (∀ J H2, Ext Y H1 H2 → SeqnP Y H2 J l PP → R J H2) → wi σ H1 R
def vPr (P Q : VP) : VP := ⟨fun H v => ∃ t x y, v = .ref t ∧ H t = some (.tup [x, y]) ∧ P.at_ H x ∧ Q.at_ H y, fun s ⟨t, x, y, e, h, p, q⟩ => ⟨t, x, y, e, s _ _ h, P.mono s p, Q.mono s q⟩⟩
def vPr3 (P Q R : VP) : VP := ⟨fun H v => ∃ t x y z, v = .ref t ∧ H t = some (.tup [x, y, z]) ∧ P.at_ H x ∧ Q.at_ H y ∧ R.at_ H z, fun s ⟨t, x, y, z, e, h, p, q, r⟩ => ⟨t, x, y, z, e, s _ _ h, P.mono s p, Q.mono s q, R.mono s r⟩⟩
theorem AllP.getv {H : Hp} : ∀ {Ps : List VP} {vs : List V} {i : Nat} {v : V}, AllP H Ps vs → vs[i]? = some v → ∃ P, Ps[i]? = some P ∧ P.at_ H v
  | _, _, _, _, .nil, h => by simp at h
  | _, _, 0, _, .cons a _, h => by cases h; exact ⟨_, rfl, a⟩
  | _, _, i + 1, _, .cons _ t, h => AllP.getv (i := i) t h
theorem AllP.toD {H : Hp} : ∀ {ds : List PyData} {vs : List V}, AllP H (ds.map vD) vs → DxAll H vs ds
  | [], _, h => by cases h; exact .nil
  | d :: ds, _, h => by
    cases h with
    | cons a t => exact .cons a (AllP.toD t)
section
variable {X Y : Vol} {σ : L2.St} {H H' H0 H1 : Hp} {ta tb tc te tl : TE} {tt : TT} {D : Ends} {tz : TS} {K : Fr} {α β γ : Type} {l : List α} {PP : α → VP} {m : List β} {QQ : β → VP} {dd : α → PyData}
theorem EvS.toP {wi : TI} (h : EvS X wi σ H (l.map dd)) : EvSP X wi σ H l fun a => vD (dd a) := fun Y H1 e R r => h Y H1 e R fun J H2 e2 sq => r J H2 e2 ⟨fun Z H i s hi => sq.go Z H i s (by rw [List.length_map]; exact hi), fun Z H s => by have := sq.stop Z H s; rwa [List.length_map] at this, fun Z H i x H' s hi y => by
  obtain ⟨d, hd, e3, hx⟩ := sq.yld Z H i x H' s (by rw [List.length_map]; exact hi) y
  rw [List.getElem?_map] at hd
  obtain ⟨a, ha, rfl⟩ := Option.map_eq_some_iff.mp hd
  exact ⟨a, ha, e3, hx⟩⟩
theorem es_listP (h : Ev X tl σ H (vLs (l.map PP))) : EvSP X (iList K tl) σ H l PP := fun Y H1 e R r => h Y H1 e _ fun v H2 e2 ⟨p, xs, ev, ea, al⟩ => by
  subst ev
  have ll : xs.length = l.length := al.len.trans (List.length_map _)
  have at_ : ∀ Z H, Wk Y H2 Z H → SqL K H p xs := fun Z H s => SqL.of (wo_le _ _ (s.wo _ _ ea))
  refine ⟨p, rfl, ⟨xs, at_ Y H2 (.refl e2.inv)⟩, r _ H2 e2 ⟨fun Z H i s hi => ?_, fun Z H s => ⟨xs, at_ Z H s, Nat.le_of_eq ll⟩, fun Z H i x H' s hi y => ?_⟩⟩
  · exact ⟨xs, xs[i]'(by rw [ll]; exact hi), at_ Z H s, List.getElem?_eq_getElem _⟩
  · obtain ⟨rfl, y⟩ := y
    obtain ⟨P, hd, hx⟩ := al.getv (y xs (at_ Z _ s))
    rw [List.getElem?_map] at hd
    obtain ⟨a, ha, rfl⟩ := Option.map_eq_some_iff.mp hd
    exact ⟨a, ha, .refl s.inv, s.upP hx⟩
theorem es_enumP (h : Ev X te σ H (vLs (l.map PP))) : EvSP X (iEnum K (tCons te tNil)) σ H l.zipIdx fun p => vPr (vI (p.2 : Int)) (PP p.1) := fun Y H1 e R r => h Y H1 e _ fun v H2 e2 ⟨p, xs, ev, ea, al⟩ => by
  subst ev
  have ll : xs.length = l.length := al.len.trans (List.length_map _)
  have lz : l.zipIdx.length = l.length := List.length_zipIdx
  have at_ : ∀ Z H, Wk Y H2 Z H → SqL K H p xs := fun Z H s => SqL.of (wo_le _ _ (s.wo _ _ ea))
  refine ⟨p, xs, rfl, at_ Y H2 (.refl e2.inv), r _ H2 e2 ⟨fun Z H i s hi => ?_, fun Z H s => ⟨xs, at_ Z H s, Nat.le_of_eq (ll.trans lz.symm)⟩, fun Z H i x H' s hi y => ?_⟩⟩
  · rw [lz] at hi
    exact ⟨xs, xs[i]'(by rw [ll]; exact hi), at_ Z H s, List.getElem?_eq_getElem _⟩
  · obtain ⟨T, z, rfl, hT, rfl, y⟩ := y
    obtain ⟨P, hd, hx⟩ := al.getv (y xs (at_ Z _ s))
    rw [List.getElem?_map] at hd
    obtain ⟨a, ha, rfl⟩ := Option.map_eq_some_iff.mp hd
    have s3 := Sub.new (X := Z) (o := .tup [.int (i : Nat), z]) s.inv hT
    exact ⟨(a, i), by rw [List.getElem?_zipIdx, ha]; simp, s3, T, _, _, rfl, wo_new s.inv hT, .int _, s3.upP (s.upP hx)⟩
theorem es_zipP (h : Ev X ta σ H (vLs (l.map PP))) (h' : Ev X tb σ H (vLs (m.map QQ))) : EvSP X (iZip K (tCons ta (tCons tb tNil))) σ H (l.zip m) fun p => vPr (PP p.1) (QQ p.2) := fun Y H1 e R r => h Y H1 e _ fun v H2 e2 p2 => h' Y H2 (e.trans e2) _ fun w H3 e3 ⟨q, ys, ew, eb, bl⟩ => by
  obtain ⟨p, xs, ev, ea, al⟩ := e3.upP p2
  subst ev ew
  have l1 : xs.length = l.length := al.len.trans (List.length_map _)
  have l2 : ys.length = m.length := bl.len.trans (List.length_map _)
  have at1 : ∀ Z H', Wk Y H3 Z H' → SqL K H' p xs := fun Z H s => SqL.of (wo_le _ _ (s.wo _ _ ea))
  have at2 : ∀ Z H', Wk Y H3 Z H' → SqL K H' q ys := fun Z H s => SqL.of (wo_le _ _ (s.wo _ _ eb))
  refine ⟨_, _, _, _, rfl, SqL.of (wo_le _ _ ea), SqL.of (wo_le _ _ eb), r _ H3 (e2.trans e3) ⟨fun Z H i s hi => ?_, fun Z H s => ⟨xs, ys, at1 Z H s, at2 Z H s, ?_⟩, fun Z H i x H' s hi y => ?_⟩⟩
  · rw [List.length_zip] at hi
    exact ⟨xs, ys, xs[i]'(by rw [l1]; omega), ys[i]'(by rw [l2]; omega), at1 Z H s, at2 Z H s, List.getElem?_eq_getElem _, List.getElem?_eq_getElem _⟩
  · rw [List.length_zip]; omega
  · obtain ⟨T, z, w, rfl, hT, rfl, y1, y2⟩ := y
    obtain ⟨P, hd, hx⟩ := al.getv (y1 xs (at1 Z _ s))
    obtain ⟨P', hd', hx'⟩ := bl.getv (y2 ys (at2 Z _ s))
    rw [List.getElem?_map] at hd hd'
    obtain ⟨a, ha, rfl⟩ := Option.map_eq_some_iff.mp hd
    obtain ⟨b, hb, rfl⟩ := Option.map_eq_some_iff.mp hd'
    have s3 := Sub.new (X := Z) (o := .tup [z, w]) s.inv hT
    exact ⟨(a, b), List.getElem?_zip_eq_some.mpr ⟨ha, hb⟩, s3, T, _, _, rfl, wo_new s.inv hT, s3.upP (s.upP hx), s3.upP (s.upP hx')⟩
/-- for .. in .. over things of any kind -/
theorem s_forP {wi : TI} {g : TG} {tb : TS} (hs : EvSP X wi σ H l PP) (i : X.I H) (k : ∀ H1, Ext X H H1 → ∃ (Inv : Nat → L2.St → Hp → Prop), Inv 0 σ H1 ∧ (∀ i σ' H', Inv i σ' H' → Wk X H1 X H') ∧
      (∀ i a x σ' H' H'', Inv i σ' H' → Wk X H1 X H' → Ext X H' H'' → l[i]? = some a → (PP a).at_ (X.wo H'') x → g x σ' H'' fun σ2 H3 => tb { D with nx := Inv (i + 1), ct := Inv (i + 1), bk := D.nx } σ2 H3) ∧ ∀ σ' H', Inv l.length σ' H' → Wk X H1 X H' → D.nx σ' H') : tFor wi g tb D σ H :=
  hs X H (.refl i) _ fun J H1 e1 sq => by
    obtain ⟨Inv, h0, hv, step, hd⟩ := k H1 e1
    refine ⟨fun i m σ H => m = l.length - i ∧ i ≤ l.length ∧ Inv i σ H, ⟨l.length, by simp, Nat.zero_le _, h0⟩, ?_⟩
    rintro i m σ' H' ⟨rfl, hi, p⟩
    have s := hv i σ' H' p
    by_cases hlt : i < l.length
    · refine .inr ⟨sq.go _ _ _ s hlt, Inv (i + 1), fun σ2 H2 p2 => ⟨l.length - (i + 1), by omega, rfl, hlt, p2⟩, fun x H'' y => ?_⟩
      obtain ⟨d, hd', e3, hx⟩ := sq.yld _ _ _ _ _ s hlt y
      exact step i d x σ' H' H'' p s e3 hd' hx
    · have e1 : i = l.length := by omega
      subst e1
      exact .inl ⟨sq.stop _ _ s, hd σ' H' p s⟩
theorem q_forP {wi : TI} {g : TG} {tb : TS} (hs : EvSP X wi σ H l PP) (i : X.I H) (k : ∀ H1, Ext X H H1 → ∃ (Inv : Nat → L2.St → Hp → Prop), Inv 0 σ H1 ∧ (∀ i σ' H', Inv i σ' H' → Wk X H1 X H') ∧
      (∀ i a x σ' H' H'', Inv i σ' H' → Wk X H1 X H' → Ext X H' H'' → l[i]? = some a → (PP a).at_ (X.wo H'') x → g x σ' H'' fun σ2 H3 => tb { D with nx := Inv (i + 1), ct := Inv (i + 1), bk := tz D } σ2 H3) ∧ ∀ σ' H', Inv l.length σ' H' → Wk X H1 X H' → tz D σ' H') : tSeq (tFor wi g tb) tz D σ H :=
  s_forP (D := { D with nx := tz D }) hs i k
/-- [e for .. in ..] over things of any kind -/
theorem ev_lcP {wi : TI} {g : TG} {vs : List Nat} {RR : α → VP} (hs : EvSP X wi σ H l PP) (hn : l.length ≤ 40000)
    (step : ∀ (Y : Vol) (i : Nat) (a : α) (v : V) (H1 : Hp), l[i]? = some a → Sub X H Y H1 → (PP a).at_ (Y.wo H1) v → Tgt g v (wipe σ vs) H1 fun σ2 H2 => H2 = H1 ∧ wipe σ2 vs = wipe σ vs ∧ Ev Y te σ2 H1 (RR a)) :
    ∀ (Y : Vol) (H1 : Hp), Sub X H Y H1 → ∀ Q : VK, (∀ (p : Addr) (H2 : Hp) (us : List V), H1 p = none → Ext Y H1 H2 → Y.wo H2 p = some (.lst us) → AllP (Y.wo H2) (l.map RR) us → Q (.ref p) H2) → tLc wi g tYes te vs σ H1 Q := fun Y H1 e Q q => hs Y H1 e _ fun J H2 e2 sq C hC => by
  have i2 := e2.inv
  refine ⟨fun i k H' => k = l.length - i ∧ i ≤ l.length ∧ Sub Y H2 (Y.add C) H' ∧ ∃ acc : List V, H' C = some (.lst acc) ∧ AllP ((Y.add C).wo H') ((l.take i).map RR) acc, ⟨l.length, by simp, Nat.zero_le _, .add i2 hC, [], upd_same, .nil⟩, ?_⟩
  rintro i k H' ⟨rfl, hi, s, acc, h3, h4⟩
  by_cases hlt : i < l.length
  · refine .inr ⟨sq.go _ _ _ s.wk hlt, fun H' => Sub Y H2 (Y.add C) H' ∧ ∃ acc : List V, H' C = some (.lst acc) ∧ AllP ((Y.add C).wo H') ((l.take (i + 1)).map RR) acc, fun H'' p => ⟨l.length - (i + 1), by omega, rfl, hlt, p⟩, fun x H'' y => ?_⟩
    obtain ⟨a, ha, e3, hx⟩ := sq.yld _ _ _ _ _ s.wk hlt y
    have s' := s.trans e3
    refine step (Y.add C) i a x H'' ha ((e.trans e2).trans s') hx _ ?_
    rintro σ2 H3 ⟨rfl, hw, ht⟩
    refine ⟨hw, et_yes.go s'.inv fun H4 e4 => iteT (ht (Y.add C) H4 e4 _ fun y H5 e5 p5 => ?_)⟩
    have nD : ¬ (Y.add C).V C := fun z => i2.live C (Y.subV _ z) hC
    have h45 := (e3.trans e4).trans e5
    have al : AllP ((Y.add C).wo H5) ((l.take i).map RR) acc := AllP.same h45.wo h4
    refine ⟨acc, h45.old _ _ nD h3, ?_, (s.trans h45).put i2 hC, acc ++ [y], upd_same, ?_⟩
    · rw [al.len, List.length_map]
      have := List.length_take_le i l
      exact Nat.lt_of_le_of_lt this (Nat.lt_of_lt_of_le hlt (Nat.le_trans hn (by decide)))
    · rw [wo_put, Wm.take_snoc ha, List.map_append]
      exact al.app (.cons p5 .nil)
  · have e1 : i = l.length := by omega
    subst e1
    rw [List.take_length] at h4
    refine .inl ⟨sq.stop _ _ s.wk, q C H' acc (free_of e2 hC) (e2.trans s.drop) ?_ (AllP.same wo_add h4)⟩
    rw [wo_out fun z => i2.live C z hC]
    exact h3
theorem en_mapP {wi : TI} {g : TG} {vs : List Nat} (f : α → PyData) (hs : EvSP X wi σ H l PP) (hn : l.length ≤ 40000)
    (step : ∀ (Y : Vol) (i : Nat) (a : α) (v : V) (H1 : Hp), l[i]? = some a → Sub X H Y H1 → (PP a).at_ (Y.wo H1) v → Tgt g v (wipe σ vs) H1 fun σ2 H2 => H2 = H1 ∧ wipe σ2 vs = wipe σ vs ∧ Ev Y te σ2 H1 (vD (f a))) :
    EvN X (tLc wi g tYes te vs) σ H (.list (l.map f)) := fun Y H1 e Q q => ev_lcP (RR := fun a => vD (f a)) hs hn step Y H1 e Q fun p H2 us h1 e2 h3 h4 => q p H2 h1 e2 (.lst h3 (AllP.toD (by rw [List.map_map]; exact h4)))
theorem ev_mapPP {wi : TI} {g : TG} {vs : List Nat} (RR : α → VP) (hs : EvSP X wi σ H l PP) (hn : l.length ≤ 40000)
    (step : ∀ (Y : Vol) (i : Nat) (a : α) (v : V) (H1 : Hp), l[i]? = some a → Sub X H Y H1 → (PP a).at_ (Y.wo H1) v → Tgt g v (wipe σ vs) H1 fun σ2 H2 => H2 = H1 ∧ wipe σ2 vs = wipe σ vs ∧ Ev Y te σ2 H1 (RR a)) :
    Ev X (tLc wi g tYes te vs) σ H (vLs (l.map RR)) := fun Y H1 e Q q => ev_lcP (RR := RR) hs hn step Y H1 e Q fun p H2 us h1 e2 h3 h4 => q _ H2 e2 ⟨p, us, rfl, h3, h4⟩
theorem tgt_pr {g1 g2 : TG} {v : V} {P Q' : VP} {R : L2.St → Hp → Prop} (h : (vPr P Q').at_ H' v) (s : Same H' H) (k : ∀ v1 v2, P.at_ H' v1 → Q'.at_ H' v2 → Tgt g1 v1 σ H fun σ2 H2 => Tgt g2 v2 σ2 H2 R) : Tgt (gTup K 2 (gCons g1 (gCons g2 gNil))) v σ H R := fun Q q => by
  obtain ⟨t, x, y, rfl, ht, px, py⟩ := h
  exact ⟨_, _, rfl, SqT.of (s _ _ ht), rfl, _, _, rfl, k _ _ px py _ fun σ2 H2 k2 => ⟨_, _, rfl, k2 _ fun σ3 H3 r => ⟨rfl, q _ _ r⟩⟩⟩
theorem es_zip3P {n : List γ} {RR : γ → VP} (h : Ev X ta σ H (vLs (l.map PP))) (h' : Ev X tb σ H (vLs (m.map QQ))) (h'' : Ev X tc σ H (vLs (n.map RR))) : EvSP X (iZip3 K (tCons ta (tCons tb (tCons tc tNil)))) σ H (l.zip (m.zip n)) fun p => vPr3 (PP p.1) (QQ p.2.1) (RR p.2.2) := fun Y H1 e R r =>
  h Y H1 e _ fun v H2 e2 p2 => h' Y H2 (e.trans e2) _ fun w H3 e3 p3 => h'' Y H3 ((e.trans e2).trans e3) _ fun u H4 e4 ⟨o, zs, eu, ec, cl⟩ => by
  obtain ⟨p, xs, ev, ea, al⟩ := (e3.trans e4).upP p2
  obtain ⟨q, ys, ew, eb, bl⟩ := e4.upP p3
  subst ev ew eu
  have l1 : xs.length = l.length := al.len.trans (List.length_map _)
  have l2 : ys.length = m.length := bl.len.trans (List.length_map _)
  have l3 : zs.length = n.length := cl.len.trans (List.length_map _)
  have at1 : ∀ Z H', Wk Y H4 Z H' → SqL K H' p xs := fun Z H s => SqL.of (wo_le _ _ (s.wo _ _ ea))
  have at2 : ∀ Z H', Wk Y H4 Z H' → SqL K H' q ys := fun Z H s => SqL.of (wo_le _ _ (s.wo _ _ eb))
  have at3 : ∀ Z H', Wk Y H4 Z H' → SqL K H' o zs := fun Z H s => SqL.of (wo_le _ _ (s.wo _ _ ec))
  refine ⟨_, _, _, _, _, _, rfl, SqL.of (wo_le _ _ ea), SqL.of (wo_le _ _ eb), SqL.of (wo_le _ _ ec), r _ H4 ((e2.trans e3).trans e4) ⟨fun Z H i s hi => ?_, fun Z H s => ⟨xs, ys, zs, at1 Z H s, at2 Z H s, at3 Z H s, ?_⟩, fun Z H i x H' s hi y => ?_⟩⟩
  · rw [List.length_zip, List.length_zip] at hi
    exact ⟨xs, ys, zs, xs[i]'(by rw [l1]; omega), ys[i]'(by rw [l2]; omega), zs[i]'(by rw [l3]; omega), at1 Z H s, at2 Z H s, at3 Z H s, List.getElem?_eq_getElem _, List.getElem?_eq_getElem _, List.getElem?_eq_getElem _⟩
  · rw [List.length_zip, List.length_zip]; omega
  · obtain ⟨T, z, w, u, rfl, hT, rfl, y1, y2, y3⟩ := y
    obtain ⟨P1, hd1, hx1⟩ := al.getv (y1 xs (at1 Z _ s))
    obtain ⟨P2, hd2, hx2⟩ := bl.getv (y2 ys (at2 Z _ s))
    obtain ⟨P3, hd3, hx3⟩ := cl.getv (y3 zs (at3 Z _ s))
    rw [List.getElem?_map] at hd1 hd2 hd3
    obtain ⟨a, ha, rfl⟩ := Option.map_eq_some_iff.mp hd1
    obtain ⟨b, hb, rfl⟩ := Option.map_eq_some_iff.mp hd2
    obtain ⟨c, hc, rfl⟩ := Option.map_eq_some_iff.mp hd3
    have s3 := Sub.new (X := Z) (o := .tup [z, w, u]) s.inv hT
    exact ⟨(a, b, c), List.getElem?_zip_eq_some.mpr ⟨ha, List.getElem?_zip_eq_some.mpr ⟨hb, hc⟩⟩, s3, T, _, _, _, rfl, wo_new s.inv hT, s3.upP (s.upP hx1), s3.upP (s.upP hx2), s3.upP (s.upP hx3)⟩
theorem tgt_pr3 {g1 g2 g3 : TG} {v : V} {P Q' R' : VP} {R : L2.St → Hp → Prop} (h : (vPr3 P Q' R').at_ H' v) (s : Same H' H) (k : ∀ v1 v2 v3, P.at_ H' v1 → Q'.at_ H' v2 → R'.at_ H' v3 → Tgt g1 v1 σ H fun σ2 H2 => Tgt g2 v2 σ2 H2 fun σ3 H3 => Tgt g3 v3 σ3 H3 R) : Tgt (gTup K 3 (gCons g1 (gCons g2 (gCons g3 gNil)))) v σ H R := fun Q q => by
  obtain ⟨t, x, y, z, rfl, ht, px, py, pz⟩ := h
  exact ⟨_, _, rfl, SqT.of (s _ _ ht), rfl, _, _, rfl, k _ _ _ px py pz _ fun σ2 H2 k2 => ⟨_, _, rfl, k2 _ fun σ3 H3 k3 => ⟨_, _, rfl, k3 _ fun σ4 H4 r => ⟨rfl, q _ _ r⟩⟩⟩⟩
/-- len of a list of any kind -/
theorem ev_lenP (h : Ev X te σ H (vLs (l.map PP))) : Ev X (tCB (fun xs H Q => ∃ p ys, xs = [V.ref p] ∧ (SqL K H p ys ∨ SqT K H p ys) ∧ Q (.int ys.length) H) (tCons te tNil)) σ H (vI l.length) := fun Y H1 e Q q => h Y H1 e _ fun v H2 e2 ⟨p, xs, ev, ea, al⟩ => by
  subst ev
  have ll : xs.length = l.length := al.len.trans (List.length_map _)
  exact ⟨p, xs, rfl, .inl (SqL.of (wo_le _ _ ea)), q _ H2 e2 (by rw [ll]; exact .int _)⟩
theorem en_lc2P {wi wi1 : TI} {g g1 : TG} {vs vs1 : List Nat} (p : α → Bool) (m : α → List β) (ee : α → β → PyData) (f : α → β → PyData) (hs : EvSP X wi σ H l PP) (hn : ((l.filter p).flatMap fun a => (m a).map (f a)).length ≤ 40000)
    (step : ∀ (Y : Vol) (i : Nat) (a : α) (v : V) (H1 : Hp), l[i]? = some a → Sub X H Y H1 → (PP a).at_ (Y.wo H1) v → Tgt g v (wipe σ vs) H1 fun σ2 H2 => H2 = H1 ∧ wipe σ2 vs = wipe σ vs ∧ EvT Y tt σ2 H1 (p a) ∧ (p a = true → EvS Y wi1 σ2 H1 ((m a).map (ee a)) ∧
      ∀ (Z : Vol) (j : Nat) (b : β) (v' : V) (H3 : Hp), (m a)[j]? = some b → Wk Y H1 Z H3 → Dx (Z.wo H3) v' (ee a b) → Tgt g1 v' (wipe σ2 vs1) H3 fun σ3 H4 => H4 = H3 ∧ wipe σ3 vs1 = wipe σ2 vs1 ∧ Ev Z te σ3 H3 (vD (f a b)))) :
    EvN X (tLc2 wi g tt wi1 g1 tYes te vs vs1) σ H (.list ((l.filter p).flatMap fun a => (m a).map (f a))) := fun Y H1 e Q q => hs Y H1 e _ fun J H2 e2 sq C hC => by
  have i2 := e2.inv
  have tot : ∀ i a, l[i]? = some a → p a = true → ∀ j, j ≤ (m a).length → ((((l.take i).filter p).flatMap fun a => (m a).map (f a)) ++ ((m a).take j).map (f a)).length ≤ 40000 := fun i a ha hp j hj => by
    refine Nat.le_trans ?_ hn
    have e1 : l = l.take (i + 1) ++ l.drop (i + 1) := (List.take_append_drop _ _).symm
    have e3 : ((l.filter p).flatMap fun a => (m a).map (f a)).length = ((((l.take (i + 1)).filter p).flatMap fun a => (m a).map (f a)) ++ (((l.drop (i + 1)).filter p).flatMap fun a => (m a).map (f a))).length := by
      rw [← List.flatMap_append, ← List.filter_append, ← e1]
    rw [e3, Wm.take_snoc ha, List.filter_append, List.flatMap_append]
    have e4 : (([a].filter p).flatMap fun a => (m a).map (f a)) = (m a).map (f a) := by simp [hp]
    rw [e4]
    simp only [List.length_append, List.length_map, List.length_take]
    omega
  refine ⟨fun i k H' => k = l.length - i ∧ i ≤ l.length ∧ Mak Y H2 C H' (((l.take i).filter p).flatMap fun a => (m a).map (f a)), ⟨l.length, by simp, Nat.zero_le _, Mak.start i2 hC⟩, ?_⟩
  rintro i k H' ⟨rfl, hi, mk⟩
  by_cases hlt : i < l.length
  · refine .inr ⟨sq.go _ _ _ mk.sub.wk hlt, fun H'' => Mak Y H2 C H'' (((l.take (i + 1)).filter p).flatMap fun a => (m a).map (f a)), fun H'' p => ⟨l.length - (i + 1), by omega, rfl, hlt, p⟩, fun x H'' y => ?_⟩
    obtain ⟨a, ha, e3, hx⟩ := sq.yld _ _ _ _ _ mk.sub.wk hlt y
    have mk3 := mk.ext e3
    refine step (Y.add C) i a x H'' ha ((e.trans e2).trans mk3.sub) hx _ ?_
    rintro σ2 H3 ⟨rfl, hw, hb, ht⟩
    refine ⟨hw, hb.go mk3.inv fun H4 e4 => ?_⟩
    have mk4 := mk3.ext e4
    have hdat : (((l.take (i + 1)).filter p).flatMap fun a => (m a).map (f a)) = (((l.take i).filter p).flatMap fun a => (m a).map (f a)) ++ (([a].filter p).flatMap fun a => (m a).map (f a)) := by
      rw [Wm.take_snoc ha, List.filter_append, List.flatMap_append]
    by_cases hp : p a = true
    · have e5 : (([a].filter p).flatMap fun a => (m a).map (f a)) = (m a).map (f a) := by simp [hp]
      rw [e5] at hdat
      obtain ⟨hs1, st1⟩ := ht hp
      rw [hp]
      refine iteT (hs1 (Y.add C) H4 e4 _ fun J1 H5 e5 sq1 => ?_)
      have mk5 := mk4.ext e5
      refine ⟨fun j k H => k = (m a).length - j ∧ j ≤ (m a).length ∧ Mak Y H2 C H ((((l.take i).filter p).flatMap fun a => (m a).map (f a)) ++ ((m a).take j).map (f a)) ∧ Wk (Y.add C) H5 (Y.add C) H, ⟨(m a).length, by simp, Nat.zero_le _, mk5.cast (by simp), .refl e5.inv⟩, ?_⟩
      rintro j k H6 ⟨rfl, hj, mk6, w6⟩
      by_cases hjl : j < (m a).length
      · refine .inr ⟨sq1.go _ _ _ w6 (by rw [List.length_map]; exact hjl), fun H => Mak Y H2 C H ((((l.take i).filter p).flatMap fun a => (m a).map (f a)) ++ ((m a).take (j + 1)).map (f a)) ∧ Wk (Y.add C) H5 (Y.add C) H, fun H ⟨z1, z2⟩ => ⟨(m a).length - (j + 1), by omega, rfl, hjl, z1, z2⟩, fun x1 H7 y1 => ?_⟩
        obtain ⟨d1, hd1, e7, hx1⟩ := sq1.yld _ _ _ _ _ w6 (by rw [List.length_map]; exact hjl) y1
        rw [List.getElem?_map] at hd1
        obtain ⟨b, hb1, rfl⟩ := Option.map_eq_some_iff.mp hd1
        have mk7 := mk6.ext e7
        have w7 := w6.trans e7.wk
        refine st1 (Y.add C) j b x1 H7 hb1 ((e4.trans e5).wk.trans w7) hx1 _ ?_
        rintro σ3 H8 ⟨rfl, hw3, hte⟩
        refine ⟨hw3, et_yes.go mk7.inv fun H9 e9 => iteT (hte (Y.add C) H9 e9 _ fun y H10 e10 p10 => ?_)⟩
        have mk10 := (mk7.ext e9).ext e10
        obtain ⟨acc, h1, h2⟩ := mk10.ex
        refine ⟨acc, h1, ?_, (mk10.put (h2.app (.cons p10 .nil))).cast ?_, w7.trans ((e9.trans e10).wk.trans mk10.wkput)⟩
        · rw [h2.len]
          have := tot i a ha hp (j + 1) hjl
          rw [Wm.take_snoc hb1, List.map_append, ← List.append_assoc, List.length_append] at this
          have k1 : ([b].map (f a)).length = 1 := rfl
          exact Nat.lt_of_lt_of_le (by omega : _ < 40001) (by decide)
        · rw [Wm.take_snoc hb1, List.map_append, ← List.append_assoc]
          rfl
      · have ej : j = (m a).length := by omega
        subst ej
        refine .inl ⟨?_, mk6.cast ?_⟩
        · have := sq1.stop _ _ w6
          rwa [List.length_map] at this
        · rw [List.take_length, hdat]
    · have hp' : p a = false := by simpa using hp
      have e5 : (([a].filter p).flatMap fun a => (m a).map (f a)) = [] := by simp [hp']
      rw [e5, List.append_nil] at hdat
      rw [hp']
      exact iteF (mk4.cast hdat.symm)
  · have ei : i = l.length := by omega
    subst ei
    rw [List.take_length] at mk
    exact .inl ⟨sq.stop _ _ mk.sub.wk, q C H' (free_of e2 hC) (e2.trans mk.done.1) mk.done.2⟩
end
end Ee

/-! ## a lambda without parameters handed to a def: only its table changes -/
namespace Lm
open PySem PySem.Spec PyProof.Rows L2 LamX
/-- all but the object at P stays -/
def ButT (P : Addr) (H G : Hp) : Prop := ∀ b o, b ≠ P → H b = some o → G b = some o
section
variable {X : Cx} {pins : List (Addr × Obj)} {σ : L2.St} {H : Hp} {s : Shared}
theorem far_out (I : Inv X pins σ H s) {g : Addr} (hg : s.heap.objs.size ≤ g) : H g = none ∧ g ∉ frs X.stack := by
  refine ⟨I.hok.fresh hg, fun z => ?_⟩
  cases List.mem_cons.mp (I.stkSub _ z) with
  | inr z => exact I.nofs hg z
  | inl z =>
    have below := I.lt
    rw [← z] at below
    exact absurd below (Nat.not_lt.mpr hg)
abbrev lamO (X : Cx) (params : Arguments) (body : Expr) (scope : Scope) (pm : Value) (k : Addr) (ctv : Value) : Obj :=
  PySem.W.kla_obj "<lambda>" (X.env.qual ++ "<lambda>") params body scope (cloFrom X.env.cells scope.names []) pm k ctv
theorem make3 {c P : Addr} {params : Arguments} {body : Expr} {scope : Scope} {pos : Pos} {E Q : Value → Shared → Prop} (I : Inv X pins σ H s) (tb : TabB X.base X.mg c P) (code : X.env.code = .ref c)
    (tab : TabS H P (X.env.qual ++ "<lambda>")) (defs : defaultsOf params X.env = ([], [])) (caught : ∀ y ∈ scope.names, y.2 = .free → ∃ c, X.env.cells.lookup y.1 = some c)
    (k : ∀ (g c1 : Addr) (pm ctv : Value) (G : Hp) (r : Shared), Inv X pins σ G r → ButT P H G → TabS G P (X.env.qual ++ "<lambda>") →
      r.heap.get? g = some (lamO X params body scope pm c1 ctv) → G g = none → g ∉ frs X.stack → G c1 = some (CodeO c1 (X.env.qual ++ "<lambda>")) → Q (.ref g) r) :
    wpAny (model X.prog X.w) X.A (eval (.Lambda params body scope pos) X.env) Q E s := by
  obtain ⟨row, at_, trip, told⟩ := tab
  have raw : s.heap.get? P = some { cls := .none, data := .fields row } := I.hok P _ at_
  refine PySem.W.kla_eval defs ?_
  cases found : codeAmong pos row.toList with
  | some cv =>
    obtain ⟨c1, rfl, isC⟩ := told pos cv found
    apply PySem.W.kla_makeFunctionHit (mg := X.mg) (closure_ok caught) I.ok.glob (I.mod.glob.keeps I.bk) code
      (tb.code.keeps I.bk) raw trip found (tb.bm.keeps I.bk)
    intro ctv g tk up big
    have J : Inv X pins σ H { s with heap := g.push (lamO X params body scope ((X.mg "__name__").getD .none) c1 ctv), toks := tk } :=
      I.kept fun b o e => Heap.get?_push_of_some _ (up b o e)
    exact k _ _ _ _ H _ J (fun _ _ _ e => e) ⟨row, at_, trip, told⟩ (Heap.get?_push_size _ rfl) (far_out I big).1 (far_out I big).2 isC
  | none =>
    apply PySem.W.kla_makeFunction (mg := X.mg) (closure_ok caught) I.ok.glob (I.mod.glob.keeps I.bk) code
      (tb.code.keeps I.bk) raw trip found tb.gP (tb.bm.keeps I.bk)
    intro c1 ctv g tk up ge lt rec_ tabN
    obtain ⟨c2, oc, vs, t, same, hoc, hd, hv⟩ := rec_
    cases same
    have big : s.heap.objs.size ≤ g.objs.size := Nat.le_of_lt (Nat.lt_of_le_of_lt ge lt)
    have new1 : H c1 = none := (far_out I ge).1
    have nPc : P ≠ c1 := ne_of_none at_ new1
    have J := inv_table (t' := tk) (more := #[rawInt pos.line, rawInt pos.col, .ref c1]) (q := X.env.qual ++ "<lambda>")
      (h' := g.push (lamO X params body scope ((X.mg "__name__").getD .none) c1 ctv)) I at_
      (fun b o nb e => Heap.get?_push_of_some _ (up b o nb e)) (Heap.get?_push_of_some _ tabN) ge
      ⟨oc, vs, t, Heap.get?_push_of_some _ hoc, hd, hv⟩
    have but : ButT P H (upd (upd H P (.tbl (row ++ #[rawInt pos.line, rawInt pos.col, .ref c1]))) c1 (CodeO c1 (X.env.qual ++ "<lambda>"))) :=
      fun b o nb e => by rw [upd_ne (ne_of_none e new1), upd_ne nb]; exact e
    refine k _ c1 _ ctv _ _ J but ⟨_, by rw [upd_ne nPc, upd_same], ?_, fun p cv hit => ?_⟩ (Heap.get?_push_size _ rfl) ?_ (far_out I big).2 upd_same
    · rw [Array.toList_append]
      exact PySem.TriplesOk_snoc _ _ _ _ trip
    · rw [Array.toList_append] at hit
      cases among_app _ trip hit with
      | inr z => exact ⟨c1, z, upd_same⟩
      | inl z =>
        obtain ⟨c0, e0, h0⟩ := told p cv z
        exact ⟨c0, e0, but _ _ (fun z => by rw [z, at_] at h0; cases h0) h0⟩
    · rw [upd_ne (Nat.ne_of_gt lt), upd_ne (fun z => absurd (Heap.lt_size raw) (by rw [← z]; exact Nat.not_lt.mpr big))]
      exact (far_out I big).1
/-- x(lambda: ..): what is asked of the table, of what the def makes of it -/
def tLam3 (P : Addr) (q : Str) (TT : (XK → Hp → VK → Prop) → Hp → VK → Prop) (t : XK → TE) : TE := fun σ H Q => TabS H P q ∧ ∀ G, ButT P H G → TabS G P q → TT (fun E H' Q' => t E σ H' Q') G Q
theorem pe_lam3 {TT : (XK → Hp → VK → Prop) → Hp → VK → Prop} {x a : Str} {g c P : Addr} {k : Nat} {pg : Arguments} {bg : List Stmt} {sg : Scope} {dV kV doc pm cdv ct oc : Value} {an od : Option Addr} {osl : Array (Option Value)} {Ng : List Str}
    {params : Arguments} {body : Expr} {scope : Scope} {t : XK → TE} {p lpos pos : Pos} (gl : Gl X x) (mx : X.mg x = some (.ref g)) (kx : PySem.W.keepIn X.K (.ref g) = true)
    (at_ : X.K.lookup g = some ⟨oc, od, .func (PySem.W.fnOf x x pg bg sg dV kV doc pm an cdv ct), osl⟩) (cd : PySem.W.codeIn X.K cdv x = true) (bb : L2.Binds X.K (PySem.W.fnOf x x pg bg sg dV kV doc pm an cdv ct) [a] [])
    (Sg : FnScope Ng [a] sg) (n0 : Ng[0]? = some a) (va : Vis sg a) (gives : GivesTo X Ng x sg g cdv bg a (X.env.qual ++ "<lambda>") TT)
    (tb : TabB X.base X.mg c P) (code : X.env.code = .ref c) (room : Room (k + 2) X.A) (L : LamS X.env.scope scope) (defs : defaultsOf params X.env = ([], []))
    (binds : ∀ (q : Str) (cl : List (Str × Addr)) (pm cv ctv : Value), bindArgs (PySem.W.kla_fn "<lambda>" q params body scope cl pm cv ctv) ⟨[], []⟩ = pure [])
    (he : ∀ (A : Around) (outer : List Env) (r : Shared) (G : Hp) (E : XK) (f c1 : Addr), Room k (A.deeper (lamEnv X scope r.heap.objs.size f c1)) → PE (lamCx X A outer r G E scope f c1) body (t E))
    (d1 : (x == ("__debug__" : Str)) = false := by decide) (d2 : (a == ("__debug__" : Str)) = false := by decide) (d3 : (a == ("__classdict__" : Str)) = false := by decide) :
    PE X (.Call (.Name x p) [.Lambda params body scope lpos] [] pos) (tLam3 P (X.env.qual ++ "<lambda>") TT t) := by
  refine ⟨fun pins s σ H Q I ⟨tab, rest⟩ => ?_⟩
  apply wpAny_Call_Name_kw (ld_glob I gl mx ?_ d1)
  apply PySem.W.callWith_K (h₀ := X.base) I.ok.mod.kin kx ?_ (by rfl) (by rfl)
  show wpAny _ _ (spliced ((false, eval (.Lambda params body scope lpos) X.env) :: backTo pos (starEach [] X.env))) _ _ s
  apply Calls.spliced_cons
  apply make3 I tb code tab defs (L.has I.ok)
  intro f c1 pm1 ctv G r J but tab1 isF newF outF isC
  apply Calls.spliced_nil
  refine ⟨J.kIn, wpAny_call ?_⟩
  have ran : codeAny (model X.prog X.w) X.A (.call (.ref g) ⟨[.ref f], []⟩) (CR C8.CX0 X.stack X.prog X.w G r Q C8.E0) r := by
    apply run_ofS (N := Ng) (ps := [a]) (us := [.ref f]) (vs := [.ref f]) at_ cd Sg room J.env0 (bb r [.ref f] J.kIn rfl) (.cons rfl .nil) rfl
    intro room1
    have act := gives f c1 r G Q (fun E G' Q' => t E σ G' Q')
      (fun W pn xe E p1 p2 tk hW => pe_act (i := 0) J L isF newF outF (binds _ _ _ _ _) tk hW room1 (fun A outer s H room2 => he A outer s H E f c1 room2) n0 va d2 d3)
      isC (rest G but tab1)
    obtain ⟨t1, h1, q1⟩ := act
    exact ⟨t1, h1.nox, q1⟩
  refine codeAny_mono ran fun res r2 done => ?_
  match res, done with
  | .error _, z => exact (show False from z).elim
  | .ok (.ret _), z => exact J.after z
/-- .. the lambda's name told -/
theorem pe_lamQ {TT : (XK → Hp → VK → Prop) → Hp → VK → Prop} {x a x0 : Str} {g c P : Addr} {k : Nat} {pg : Arguments} {bg : List Stmt} {sg : Scope} {dV kV doc pm cdv ct oc : Value} {an od : Option Addr} {osl : Array (Option Value)} {Ng : List Str}
    {params : Arguments} {body : Expr} {scope : Scope} {t : XK → TE} {p lpos pos : Pos} (hq : X.env.qual = x0 ++ ".<locals>.") (gl : Gl X x) (mx : X.mg x = some (.ref g)) (kx : PySem.W.keepIn X.K (.ref g) = true)
    (at_ : X.K.lookup g = some ⟨oc, od, .func (PySem.W.fnOf x x pg bg sg dV kV doc pm an cdv ct), osl⟩) (cd : PySem.W.codeIn X.K cdv x = true) (bb : L2.Binds X.K (PySem.W.fnOf x x pg bg sg dV kV doc pm an cdv ct) [a] [])
    (Sg : FnScope Ng [a] sg) (n0 : Ng[0]? = some a) (va : Vis sg a) (gives : GivesTo X Ng x sg g cdv bg a (X.env.qual ++ "<lambda>") TT)
    (tb : TabB X.base X.mg c P) (code : X.env.code = .ref c) (room : Room (k + 2) X.A) (L : LamS X.env.scope scope) (defs : defaultsOf params X.env = ([], []))
    (binds : ∀ (q : Str) (cl : List (Str × Addr)) (pm cv ctv : Value), bindArgs (PySem.W.kla_fn "<lambda>" q params body scope cl pm cv ctv) ⟨[], []⟩ = pure [])
    (he : ∀ (A : Around) (outer : List Env) (r : Shared) (G : Hp) (E : XK) (f c1 : Addr), Room k (A.deeper (lamEnv X scope r.heap.objs.size f c1)) → PE (lamCx X A outer r G E scope f c1) body (t E))
    (d1 : (x == ("__debug__" : Str)) = false := by decide) (d2 : (a == ("__debug__" : Str)) = false := by decide) (d3 : (a == ("__classdict__" : Str)) = false := by decide) :
    PE X (.Call (.Name x p) [.Lambda params body scope lpos] [] pos) (tLam3 P ((x0 ++ ".<locals>.") ++ "<lambda>") TT t) := by
  rw [← hq]
  exact pe_lam3 gl mx kx at_ cd bb Sg n0 va gives tb code room L defs binds he d1 d2 d3
end
end Lm

/-! ## try .. except A as e: .. except B as e: .. (one name, several handlers) -/
namespace Lm
open PySem PySem.Spec PyProof.Rows L2 LamX
abbrev Hnd := Value × (Addr → Value → Option Addr → TS)
inductive HdsAs (X : Cx) (n : Str) : List ExceptHandler → List Hnd → Prop
  | nil : HdsAs X n [] []
  | cons {x : Str} {c : Value} {ts : Addr → Value → Option Addr → TS} {b : Stmt} {bs : List Stmt} {p q : Pos} {hs : List ExceptHandler} {l : List Hnd} (nm : Names X x c)
      (suite : ∀ (a : Addr) (o : Obj) (cls : Value) (d : Option Addr) (pn : List (Addr × Obj)), Zc cls d o → (∃ vs, o.data = .fields vs) → PSs (X.suite a ((a, o) :: pn)) (b :: bs) (ts a cls d))
      (more : HdsAs X n hs l) : HdsAs X n (.ExceptHandler (some (.Name x p)) (some n) (b :: bs) q :: hs) ((c, ts) :: l)
def wAll (K : PySem.W.Frag) (i : Nat) (out : WX) (D : Ends) : List Hnd → WX
  | [] => out
  | (c, ts) :: l => wAs K c i ts (wAll K i out D l) D
section
variable {X : Cx} {n : Str} {i : Nat} {body : List Stmt} {h : ExceptHandler} {hs : List ExceptHandler} {l : List Hnd} {pos : Pos} {tb : WX → TS} {out : WX}
theorem ps_try_all (stk : X.stack = X.env :: X.outer) (fr : X.env.frame = some X.env.locals) (nd : X.N.Nodup) (ni : X.N[i]? = some n) (loc : X.env.kindOf n = some .local) (tk : Takes X out)
    (hb : ∀ (W : WX) (pn : List (Addr × Obj)) (xe : Value → Shared → Prop), Takes (X.tr pn xe) W → PassesOwn (model X.prog X.w) X.A X.env xe → PSs (X.tr pn xe) body (tb W))
    (hk : HdsAs X n (h :: hs) l) : PS X (.Try body (h :: hs) [] [] pos) (fun D σ H => tb (wAll X.K i out D l) D σ H) := by
  constructor
  intro pins s σ H D I start
  have ok := I.ok
  have frames : X.A.frames = some (X.env :: X.outer) := ok.frames.trans (congrArg some stk)
  let land : Value → Shared → Prop := fun e s1 => wpAny (model X.prog X.w) X.A (noteFrame e X.env)
    (fun _ s2 => wpAny (model X.prog X.w) X.A (setFlight e none)
      (fun _ s3 => wpAny (model X.prog X.w) X.A (handleBy e X.env (h :: hs)) (SP X pins D) X.xe s3) X.xe s2) X.xe s1
  have takes : Takes (X.tr (X.pn ++ pins) land) (wAll X.K i out D l) := by
    intro u s1 air
    obtain ⟨a, B, sI, pins1, σ1, H1, cls, d, rfl, J0, nb, up, sky, na, os, ag, w⟩ := air
    have J : Inv X pins σ1 H1 sI := J0.ofTry ok
    rw [stk] at sky
    show wpAny (model X.prog X.w) X.A (noteFrame (.ref a) X.env) _ _ _
    apply Sky.land Zc.steady frames fr sky
    intro h3 fly up3
    have J3 : Inv X pins σ1 H1 { s1 with heap := h3 } := J.landed nb fly.1 (up.trans up3) os ag
    obtain ⟨oe, vs, at3, z3, data3⟩ := fly.there
    have apart : a ∉ frs (X.env :: X.outer) := fun inn => by
      obtain ⟨_, o1, e1, no⟩ := fly.2.2.1.mem inn
      rw [at3] at e1
      cases e1
      exact no _ data3
    have aL : a ≠ X.env.locals := fun z => apart (List.mem_filterMap.mpr ⟨X.env, List.mem_cons_self, fr.trans (congrArg some z.symm)⟩)
    have aF : a ∉ X.fs := fun inn => by
      obtain ⟨e, m, q⟩ := List.mem_filterMap.mp inn
      exact apart (List.mem_filterMap.mpr ⟨e, List.mem_cons_of_mem _ m, q⟩)
    have S3 := J3.suite at3 data3 na aL aF
    suffices all : ∀ {hs : List ExceptHandler} {l : List Hnd}, HdsAs X n hs l → wAll X.K i out D l cls d σ1 H1 →
        wpAny (model X.prog X.w) X.A (handleBy (.ref a) X.env hs) (SP X pins D) X.xe { s1 with heap := h3 } from all hk w
    intro hs l hk
    induction hk with
    | nil =>
      intro w
      apply wpAny_handleBy_nil
      obtain ⟨_, _, _, oe, vs, T, oT, ts', g1, _, g2, g3, _⟩ := id fly
      have thrown : wpAny (model X.prog X.w) X.A (setFlight (.ref a) X.env.frame) (fun _ s4 => wpAny (model X.prog X.w) X.A (throw (.ref a) : Sem Flow) (SP X pins D) X.xe s4) X.xe { s1 with heap := h3 } := by
        rw [fr]
        apply HandSPX.setFlight_upZ fly
        intro h4 sky4 up4
        apply wpAny_throw
        apply tk
        rw [← stk] at sky4
        exact ⟨a, B, sI, pins, σ1, H1, cls, d, rfl, J, nb, (up.trans up3).trans up4, .inr (.inr sky4), na, os, ag, w⟩
      unfold PySem.passOn
      apply wpAny_bind
      apply wpAny_field g1 g2 g3
      rw [if_neg (show ¬ ((Value.ref T == Value.none) = true) by simp)]
      first
        | exact wpAny_bind (wpAny_pure (wpAny_bind thrown))
        | exact wpAny_bind thrown
    | @cons x c ts b bs p q hs l nm suite more ih =>
      rintro ⟨m, isM, yes, no⟩
      apply wpAny_handleBy_cons (codeAny_handlers_test ?_) (fun z => by cases z)
      have one := PySem.W.exm_one (M := model X.prog X.w) J3.kIn
        (fun A Q E s k q => wpAny_typeOf_ref (k _ _ at3) (by rw [z3.1]; exact q)) isM
      have look : ∀ {Q E : Value → Shared → Prop}, Q c { s1 with heap := h3 } →
          wpAny (model X.prog X.w) (X.A.mark (some (.ref a))) (eval (.Name x p) X.env) Q E { s1 with heap := h3 } := by
        intro Q E q
        rcases nm with ⟨gl, db, mg | ⟨mg, bv, nn⟩⟩
        · exact ld_glob (X := X.suite a ((a, oe) :: (X.pn ++ pins))) S3 gl mg q db
        · exact ld_blt (X := X.suite a ((a, oe) :: (X.pn ++ pins))) S3 gl mg bv q nn db
      apply look
      apply one.here
      cases m with
      | false => exact ih (no rfl)
      | true =>
        apply codeAny_handlers_suite_as
        apply HandSPX.lands_againZ fly
        intro h4 fly4 up4
        have J4 : Inv X pins σ1 H1 { s1 with heap := h4 } := J.landed nb fly4.1 ((up.trans up3).trans up4) os ag
        obtain ⟨o4, v4, at4, z4, data4⟩ := fly4.there
        apply store_ok (X := X.suite a ((a, o4) :: (X.pn ++ pins))) (v := .ref a) (J4.suite at4 data4 na aL aF) nd ni (.inl loc) rfl ?_ (.inr loc)
        intro s5 S5
        refine wpAny_mono ((suite a o4 cls d (X.pn ++ pins) z4 ⟨_, data4⟩).run [] s5 _ H1 _ S5 (yes rfl a na)) ?_ (fun _ _ z => z.elim)
        intro f s6 ended
        have gone : ∀ {σ6 : L2.St} {H6 : Hp} {R : Shared → Prop}, Inv (X.suite a ((a, o4) :: (X.pn ++ pins))) [] σ6 H6 s6 → (∀ s7, Inv X pins (σ6.set i none) H6 s7 → R s7) →
            wpAny (model X.prog X.w) X.A (do bindName X.env n .none; unbindBehindTheSuite X.env n q) (fun _ s7 => R s7) X.xe s6 := fun S r => gone_ok (S.unsuite ok) nd ni loc r
        match f, ended with
        | .next, ⟨_, _, S6, q6⟩ => exact gone S6 fun s7 J7 => ⟨_, _, J7, q6⟩
        | .brk, ⟨_, _, S6, q6⟩ => exact gone S6 fun s7 J7 => ⟨_, _, J7, q6⟩
        | .cont, ⟨_, _, S6, q6⟩ => exact gone S6 fun s7 J7 => ⟨_, _, J7, q6⟩
        | .ret u, ⟨_, _, _, S6, r6, q6⟩ => exact gone S6 fun s7 J7 => ⟨_, _, _, J7, r6, q6⟩
  apply wpAny_Try_except
  refine wpAny_mono ((hb _ _ land takes PassesOwn.looking).run [] s σ H D (I.toTry _) start) ?_ (fun _ _ z => z)
  intro f s1 ended
  match f, ended with
  | .next, ⟨_, _, J, q⟩ => exact wpAny_execs_nil ⟨_, _, J.ofTry ok, q⟩
  | .brk, ⟨_, _, J, q⟩ => exact ⟨_, _, J.ofTry ok, q⟩
  | .cont, ⟨_, _, J, q⟩ => exact ⟨_, _, J.ofTry ok, q⟩
  | .ret u, ⟨_, _, _, J, r, q⟩ => exact ⟨_, _, _, J.ofTry ok, r, q⟩
end
end Lm

/-! ## the law's own catcher -/
namespace Ee
open PySem PySem.Spec PyProof.Rows L2
/-- what has a text: small data, the empty dict -/
def ShA (K : Fr) (H : Hp) (x : V) (d : PyData) : Prop := Gd.Shown K H x d ∨ (d = .dict [] ∧ ∃ a, x = .ref a ∧ Rd H a (.dK []))
def rReprA (K : Fr) : List V → Hp → VK → Prop := fun xs H Q => ∃ x d, xs = [x] ∧ ShA K H x d ∧ Q (.str d.shown) H
theorem dict0_depth : (PyData.dict []).depth = 1 := by decide +kernel
theorem call_reprA {X : Cx} {K : Fr} (quiet : Gd.Quiet X.A) (hu : X.A.units + 70 < cLine) (e : X.K = K := by rfl) : CallR X (.builtin "repr") (rReprA K) := by
  subst e
  intro pins s σ H xs us Q I r h
  obtain ⟨x, d, rfl, g, q⟩ := h
  rcases g with g | ⟨rfl, a, rfl, g⟩
  · exact Gd.call_reprD quiet hu pins s σ H _ us Q I r ⟨x, d, rfl, g, q⟩
  · cases r with
    | cons r1 r2 =>
      cases r2
      cases r1
      obtain ⟨_, na, vs, kv, dd⟩ := g.ok I.hok
      cases kv
      have rd := PyProof.V.reads_dictOf (enc := encK) (D := []) (bs := []) encK_reads dd .nil
      refine repr_of_reads' rd (by decide +kernel) (fun _ z => ?_) quiet (by rw [dict0_depth]; omega) (fun _ _ e => e) (fun h' v tk k => ⟨.str _, H, I.kept (t' := tk) k, ⟨_, rfl⟩, q⟩) (by decide +kernel)
      have z' := List.mem_singleton.mp z
      rw [← z'] at na
      simp at na
/-- data that has a text -/
def Txt0 (d : PyData) : Prop := d = .dict [] ∨ ∃ B k, Tx B k d ∧ B ≤ 100000 ∧ k ≤ 64
theorem Txt0.sh {K : Fr} {H : Hp} {x : V} {d : PyData} (t : Txt0 d) (h : Dx H x d) : ShA K H x d := by
  rcases t with rfl | ⟨B, k, t, hB, hk⟩
  · cases h with
    | dic e => exact .inr ⟨rfl, _, rfl, e⟩
  · exact .inl ⟨Dx.dp _ _ h t.nd, t.sh, t.nd, Nat.le_trans t.dp hk, t.fits hB⟩
theorem ev_reprA {X : Vol} {σ : L2.St} {H : Hp} {te : TE} {K : Fr} {d : PyData} (h : Ev X te σ H (vD d)) (t : Txt0 d) : Ev X (tCB (rReprA K) (tCons te tNil)) σ H (vD (.str d.shown)) := fun Y H1 e Q q => h Y H1 e _ fun v H2 e2 p2 =>
  ⟨v, d, rfl, t.sh (Dx.same wo_le _ _ p2), q _ H2 e2 (.str _)⟩
/-- {} -/
theorem ev_dict0 {X : Vol} {σ : L2.St} {H : Hp} : Ev X tDNewK σ H (vD (.dict [])) := fun Y H1 e Q q p hp => by
  have x := Sub.new (X := Y) (o := .dK []) e.inv hp
  exact q _ _ x (.dic (.inl (wo_new e.inv hp)))
/-- an error of the class at CW with this value is in the air -/
def Air (cls : Value) (d : Option Addr) (H : Hp) (CW : Addr) (x : V) : Prop := cls = .ref CW ∧ ∃ dd, d = some dd ∧ H dd = some (.xd [("value", x)])
end Ee
namespace Lm
open PySem PySem.Spec PyProof.Rows L2 LamX Ee
theorem pe_len {X : Cx} {e : Expr} {te te' : TE} (he : PE X e te') (h : ∀ σ H Q, σ.length = X.N.length → te σ H Q → te' σ H Q) : PE X e te := ⟨fun pins s σ H Q I q => he.run pins s σ H Q I (h σ H Q I.len q)⟩
theorem pe_weak {X : Cx} {e : Expr} {te : TE} (he : PE X e te) : PE X e (fun σ H Q => ∃ Qn : VK, (∀ v H', Qn v H' → Q v H') ∧ te σ H Qn) := ⟨fun pins s σ H Q I ⟨Qn, up, q⟩ => thn (he.run pins s σ H Qn I q) fun u s1 ⟨x, H1, I1, r1, q1⟩ => ⟨x, H1, I1, r1, up _ _ q1⟩⟩
/-- a slot that holds v as soon as it is there -/
def tHeld (i n : Nat) (v : V) : TE := fun σ H Q => (σ.length = n → σ[i]? = some (some v)) ∧ Q v H
theorem pe_held {X : Cx} {i n : Nat} {v : V} {e : Expr} (he : PE X e (tVar i)) (hn : X.N.length = n) : PE X e (tHeld i n v) := pe_len he fun σ H Q l ⟨e, r⟩ => ⟨_, e (l.trans hn), r⟩
/-- kept, whatever it is -/
def tKept (i n : Nat) : TE := fun σ H Q => ∃ v, (σ.length = n → σ[i]? = some (some v)) ∧ Q v H
theorem pe_kept {X : Cx} {i n : Nat} {e : Expr} (he : PE X e (tVar i)) (hn : X.N.length = n) : PE X e (tKept i n) := pe_len he fun σ H Q l ⟨v, e, r⟩ => ⟨v, e (l.trans hn), r⟩
/-- what a suite notes: [word, repr(e.value)], or the text alone -/
abbrev tText (K : PySem.W.Frag) (CW a : Addr) (cls : Value) (d : Option Addr) : TE := tCB (rReprA K) (tCons (tXf a cls d CW "value" (tHeld 2 3 (.ref a))) tNil)
abbrev hndL (K : PySem.W.Frag) (p : Str × Addr) : Hnd := (.ref p.2, fun a cls d => tAsg (tLst (tCons (tC (.str p.1)) (tCons (tText K p.2 a cls d) tNil))) (gName 1))
abbrev hnd1 (K : PySem.W.Frag) (p : Str × Addr) : Hnd := (.ref p.2, fun a cls d => tAsg (tText K p.2 a cls d) (gName 1))
/-- no class of these is one of the others -/
def ExmOk (K : PySem.W.Frag) (cs : List Addr) : Prop := ∀ (i j : Nat) (a b : Addr), cs[i]? = some a → cs[j]? = some b → PySem.W.exmOne K (.ref a) (.ref b) = some (decide (i = j))
/-- what the catcher makes of an error: f of the word and the text -/
def Told (K : PySem.W.Frag) (ws : List (Str × Addr)) (two : Bool) (Q : VK) (cls : Value) (d : Option Addr) (H : Hp) : Prop :=
  ∃ (j : Nat) (w : Str) (CW : Addr) (x : V) (dat : PyData), ws[j]? = some (w, CW) ∧ Air cls d H CW x ∧ ShA K H x dat ∧
    if two = true then ∀ l, H l = none → Q (.ref l) (upd H l (.lst [.str w, .str dat.shown])) else Q (.str dat.shown) H
theorem wAll_at {K : PySem.W.Frag} {out : WX} {D : Ends} {f : Str × Addr → Hnd} (hf : ∀ p, (f p).1 = .ref p.2) {cls : Value} {d : Option Addr} {σ : L2.St} {H : Hp} : ∀ {ws : List (Str × Addr)} {j : Nat} {p : Str × Addr}, ExmOk K (ws.map (·.2)) → ws[j]? = some p → cls = .ref p.2 →
    (∀ a, H a = none → (f p).2 a cls d { nx := fun σ' H' => D.nx (σ'.set 2 none) H', rt := D.rt, bk := fun σ' H' => D.bk (σ'.set 2 none) H', ct := fun σ' H' => D.ct (σ'.set 2 none) H' } (σ.set 2 (some (.ref a))) H) → wAll K 2 out D (ws.map f) cls d σ H
  | [], j, p, _, hj, _, _ => by simp at hj
  | q :: ws, 0, p, ex, hj, hc, h => by
    have e : q = p := Option.some.inj hj
    subst e
    subst hc
    refine ⟨true, ?_, fun _ a ha => h a ha, fun z => nomatch z⟩
    rw [hf]
    exact (ex 0 0 _ _ rfl rfl).trans (by simp)
  | q :: ws, j + 1, p, ex, hj, hc, h => by
    have hj' : ws[j]? = some p := hj
    refine ⟨false, ?_, (fun z => nomatch z), fun _ => wAll_at hf (fun i k a b h1 h2 => ?_) hj' hc h⟩
    · rw [hf, hc]
      exact (ex (j + 1) 0 _ _ (by rw [List.getElem?_map, hj]; rfl) rfl).trans (by simp)
    · have := ex (i + 1) (k + 1) a b h1 h2
      rw [this]
      by_cases z : i = k
      · subst z; simp
      · rw [decide_eq_false z, decide_eq_false (by omega)]
/-- the def's own reading: kept = None, the try, return kept; fm: what the lambda gives is kept -/
abbrev errTb (f c1 : Addr) (q : Str) (fm : Bool) (tl : XK → Hp → VK → Prop) : WX → TS := fun W D σ H => ∃ Ech : XK, (∀ cls d σ' H', Ech cls d H' → W cls d σ' H') ∧ σ[0]? = some (some (.ref f)) ∧ H c1 = some (CodeO c1 q) ∧ ∃ Qn : VK, (∀ v H', Qn v H' → D.nx (if fm = true then σ.set 1 (some v) else σ) H') ∧ tl Ech H Qn
def TTerr (K : PySem.W.Frag) (ws : List (Str × Addr)) (two fm : Bool) : (XK → Hp → VK → Prop) → Hp → VK → Prop := fun tl H Q => tl (Told K ws two Q) H (fun v H' => Q (if fm = true then v else .non) H')
theorem err_read {K : PySem.W.Frag} {ws : List (Str × Addr)} {two fm : Bool} {tl : XK → Hp → VK → Prop} {H : Hp} {Q : VK} {f c1 : Addr} {q : Str} (ex : ExmOk K (ws.map (·.2))) (hc : H c1 = some (CodeO c1 q)) (h : TTerr K ws two fm tl H Q) :
    tSeq (tAsg (tC .non) (gName 1)) (tSeq (fun D σ H => errTb f c1 q fm tl (wAll K 2 (fun _ _ _ _ => False) D (ws.map (if two = true then hndL K else hnd1 K))) D σ H) (tRet (tKept 1 3)))
      { nx := fun _ H' => Q .non H', rt := Q } [some (.ref f), none, none] H := by
  refine ⟨Told K ws two Q, fun cls d σ' H' hh => ?_, rfl, hc, _, fun v H' hn => ⟨if fm = true then v else .non, fun l => ?_, hn⟩, h⟩
  · obtain ⟨j, w, CW, x, dat, hj, ⟨rfl, dd, rfl, hdd⟩, hs, hq⟩ := hh
    refine wAll_at (fun p => ?_) ex hj rfl fun a ha => ?_
    · cases two <;> rfl
    · cases two with
      | true =>
        rw [if_pos rfl] at hq
        refine ⟨fun l => ?_, rfl, rfl, dd, _, x, rfl, hdd, rfl, x, dat, rfl, hs, by show 2 ≤ sizeLine; decide, fun l hl => ⟨.ref l, fun l2 => ?_, hq l hl⟩⟩
        · rw [List.length_set] at l
          exact List.getElem?_set_self (by omega)
        · rw [List.length_set, List.length_set, List.length_set] at l2
          rw [List.getElem?_set_ne (by decide), List.getElem?_set_self (by rw [List.length_set]; omega)]
      | false =>
        rw [if_neg Bool.false_ne_true] at hq
        refine ⟨fun l => ?_, rfl, rfl, dd, _, x, rfl, hdd, rfl, x, dat, rfl, hs, .str dat.shown, fun l2 => ?_, hq⟩
        · rw [List.length_set] at l
          exact List.getElem?_set_self (by omega)
        · rw [List.length_set, List.length_set, List.length_set] at l2
          rw [List.getElem?_set_ne (by decide), List.getElem?_set_self (by rw [List.length_set]; omega)]
  · cases fm <;> rfl
end Lm
namespace Lm
theorem takes00 {X : L2.Cx} : L2.Takes X (fun _ _ _ _ => False) := fun _ _ x => by
  obtain ⟨_, _, _, _, _, _, _, _, _, _, _, _, _, _, _, _, z⟩ := x
  exact z.elim
end Lm

/-! ## promises of defs that raise, by data; lambdas called, by data -/
namespace Ee
open PySem L2 LamX Lm
/-- an error of the class at CW a with the value x a is raised -/
def spX {α : Type} (pre : α → Prop) (Ps : α → List VP) (CW : α → Addr) (x : α → PyData) : Sp := fun vs H _ E => ∃ (a : α) (S : Addr → Prop), pre a ∧ (∀ b, S b → H b ≠ none) ∧ AllP ((pure0 S).wo H) (Ps a) vs ∧ ∀ dd v H', Same H H' → H' dd = some (.xd [("value", v)]) → Dx ((pure0 S).wo H') v (x a) → E (.ref (CW a)) (some dd) H'
theorem spX_len {α : Type} {pre : α → Prop} {Ps : α → List VP} {CW : α → Addr} {x : α → PyData} {vs : List V} {H : Hp} {Q : VK} {E : XK} {n : Nat} (h : spX pre Ps CW x vs H Q E) (hn : ∀ a, (Ps a).length = n) : vs.length = n := by
  obtain ⟨a, S, _, _, h, _⟩ := h
  rw [← hn a]
  exact (Paired.length h).symm
/-- an expression that raises -/
def EvX (X : Vol) (te : TE) (σ : L2.St) (H : Hp) (E : XK) (CW : Addr) (d : PyData) : Prop := ∀ (Y : Vol) (H1 : Hp), Sub X H Y H1 → (∀ dd v H2, Ext Y H1 H2 → H2 dd = some (.xd [("value", v)]) → Dx (Y.wo H2) v d → E (.ref CW) (some dd) H2) → ∀ Q : VK, te σ H1 Q
section
variable {X Y : Vol} {σ : L2.St} {H H' H0 H1 : Hp} {ta tb tc te : TE} {tr tk : TA} {P : VP} {K : Fr} {d : PyData} {D : Ends} {tz : TS} {E : XK} {α : Type} {pre : α → Prop} {Ps : α → List VP} {CW : α → Addr} {x : α → PyData}
theorem ex_call (a : α) (h : EvA X tr σ H (Ps a)) (hp : pre a) : EvX X (tCall (spX pre Ps CW x) [] E tr) σ H E (CW a) (x a) := fun Y H1 e k Q => h Y H1 e _ fun vs H2 e2 p2 => by
  show spX pre Ps CW x (vs ++ []) H2 Q E
  rw [List.append_nil]
  exact ⟨a, Y.S, hp, e2.inv.live, p2, fun dd v H' s hd r => k dd v H' (e2.trans (.same s e2.inv)) hd r⟩
theorem ex_callN {Qs Rs : List VP} {n m : Nat} (a : α) (h : EvA X tr σ H Qs) (hk : EvA X tk σ H Rs) (he : Ps a = Qs ++ Rs) (hp : pre a) (hn : Qs.length = n := by rfl) (hm : Rs.length = m := by rfl) : EvX X (tCallN n m (spX pre Ps CW x) (fun vs zs => vs ++ zs) E tr tk) σ H E (CW a) (x a) := fun Y H1 e k Q => h Y H1 e _ fun vs H2 e2 p2 => hk Y H2 (e.trans e2) _ fun zs H3 e3 p3 => by
  have s2 : AllP (Y.wo H3) Qs vs := AllP.same e3.wo p2
  refine ⟨by rw [s2.len, hn], by rw [p3.len, hm], ?_⟩
  exact ⟨a, Y.S, hp, e3.inv.live, by rw [he]; exact AllP.app s2 p3, fun dd v H' s hd r => k dd v H' ((e2.trans e3).trans (.same s e3.inv)) hd r⟩
theorem ex_meth {C : Addr} {m : Str} (a : α) {Pr : List VP} (h : Ev X te σ H P) (ho : IsIns C m P) (hr : EvA X tr σ H Pr) (hq : Ps a = P :: Pr) (hp : pre a) : EvX X (tMeth C m (spX pre Ps CW x) [] E te tr) σ H E (CW a) (x a) := fun Y H1 e k Q => h Y H1 e _ fun v H2 e2 p2 => by
  obtain ⟨p, dx, fs, rfl, hi, hm⟩ := ho _ _ p2
  refine ⟨p, dx, fs, rfl, wo_le _ _ hi, hm, hr Y H2 (e.trans e2) _ fun vs H3 e3 p3 => ?_⟩
  show spX pre Ps CW x (.ref p :: (vs ++ [])) H3 Q E
  rw [List.append_nil]
  exact ⟨a, Y.S, hp, e3.inv.live, by rw [hq]; exact .cons (e3.upP p2) p3, fun dd v H' s hd r => k dd v H' ((e2.trans e3).trans (.same s e3.inv)) hd r⟩
/-- one of two promises -/
def spR (F G : Sp) : Sp := fun vs H Q E => F vs H Q E ∨ G vs H Q E
theorem ev_callG {P : α → VP} {G : Sp} (up : ∀ vs H Q E, spF pre Ps P vs H Q E → G vs H Q E) (a : α) (h : EvA X tr σ H (Ps a)) (hp : pre a) : Ev X (tCall G [] E tr) σ H (P a) := fun Y H1 e Q q => h Y H1 e _ fun vs H2 e2 p2 => by
  show G (vs ++ []) H2 Q E
  rw [List.append_nil]
  exact up _ _ _ _ ⟨a, Y.S, hp, e2.inv.live, p2, fun v H' s r => q v H' (e2.trans (.same s e2.inv)) r⟩
theorem ex_callG {G : Sp} (up : ∀ vs H Q E, spX pre Ps CW x vs H Q E → G vs H Q E) (a : α) (h : EvA X tr σ H (Ps a)) (hp : pre a) : EvX X (tCall G [] E tr) σ H E (CW a) (x a) := fun Y H1 e k Q => h Y H1 e _ fun vs H2 e2 p2 => by
  show G (vs ++ []) H2 Q E
  rw [List.append_nil]
  exact up _ _ _ _ ⟨a, Y.S, hp, e2.inv.live, p2, fun dd v H' s hd r => k dd v H' (e2.trans (.same s e2.inv)) hd r⟩
theorem ex_callNG {G : Sp} {Qs Rs : List VP} {n m : Nat} (up : ∀ vs H Q E, spX pre Ps CW x vs H Q E → G vs H Q E) (a : α) (h : EvA X tr σ H Qs) (hk : EvA X tk σ H Rs) (he : Ps a = Qs ++ Rs) (hp : pre a) (hn : Qs.length = n := by rfl) (hm : Rs.length = m := by rfl) : EvX X (tCallN n m G (fun vs zs => vs ++ zs) E tr tk) σ H E (CW a) (x a) := fun Y H1 e k Q => h Y H1 e _ fun vs H2 e2 p2 => hk Y H2 (e.trans e2) _ fun zs H3 e3 p3 => by
  have s2 : AllP (Y.wo H3) Qs vs := AllP.same e3.wo p2
  refine ⟨by rw [s2.len, hn], by rw [p3.len, hm], up _ _ _ _ ?_⟩
  exact ⟨a, Y.S, hp, e3.inv.live, by rw [he]; exact AllP.app s2 p3, fun dd v H' s hd r => k dd v H' ((e2.trans e3).trans (.same s e3.inv)) hd r⟩
theorem ex_methG {C : Addr} {m : Str} {G : Sp} (up : ∀ vs H Q E, spX pre Ps CW x vs H Q E → G vs H Q E) (a : α) {Pr : List VP} (h : Ev X te σ H P) (ho : IsIns C m P) (hr : EvA X tr σ H Pr) (hq : Ps a = P :: Pr) (hp : pre a) : EvX X (tMeth C m G [] E te tr) σ H E (CW a) (x a) := fun Y H1 e k Q => h Y H1 e _ fun v H2 e2 p2 => by
  obtain ⟨p, dx, fs, rfl, hi, hm⟩ := ho _ _ p2
  refine ⟨p, dx, fs, rfl, wo_le _ _ hi, hm, hr Y H2 (e.trans e2) _ fun vs H3 e3 p3 => ?_⟩
  show G (.ref p :: (vs ++ [])) H3 Q E
  rw [List.append_nil]
  exact up _ _ _ _ ⟨a, Y.S, hp, e3.inv.live, by rw [hq]; exact .cons (e3.upP p2) p3, fun dd v H' s hd r => k dd v H' ((e2.trans e3).trans (.same s e3.inv)) hd r⟩
/-! statements that end so -/
theorem s_dropX {CC : Addr} (h : EvX X te σ H E CC d) (i : X.I H) (k : ∀ dd v H1, Ext X H H1 → H1 dd = some (.xd [("value", v)]) → Dx (X.wo H1) v d → E (.ref CC) (some dd) H1) : tDrop te D σ H := h X H (.refl i) k _
theorem q_dropX {CC : Addr} (h : EvX X te σ H E CC d) (i : X.I H) (k : ∀ dd v H1, Ext X H H1 → H1 dd = some (.xd [("value", v)]) → Dx (X.wo H1) v d → E (.ref CC) (some dd) H1) : tSeq (tDrop te) tz D σ H := h X H (.refl i) k _
theorem q_asgX0 {CC : Addr} {g : TG} (h : EvX X te σ H E CC d) (i : X.I H) (k : ∀ dd v H1, Ext X H H1 → H1 dd = some (.xd [("value", v)]) → Dx (X.wo H1) v d → E (.ref CC) (some dd) H1) : tSeq (tAsg te g) tz D σ H := h X H (.refl i) k _
theorem s_retX0 {CC : Addr} (h : EvX X te σ H E CC d) (i : X.I H) (k : ∀ dd v H1, Ext X H H1 → H1 dd = some (.xd [("value", v)]) → Dx (X.wo H1) v d → E (.ref CC) (some dd) H1) : tRet te D σ H := h X H (.refl i) k _
end
/-- self.value = value, of a fresh exception -/
def spWE (K : PySem.W.Frag) : Sp := fun vs H Q _ => ∃ (a C : Addr) (x : V), vs = [.ref a, x] ∧ OexC K C ∧ PySem.W.findIn K (.ref C) "value" = some none ∧ H a = some (exo a C none) ∧
  ∀ dx, H dx = none → dx ≠ a → Q .non (upd (upd H dx (exd dx [("value", x)])) a (exo a C (some dx)))
/-- what the top says of an error class of one value -/
structure ExW (K : PySem.W.Frag) (mg : Str → Option Value) (x : Str) (CW fI : Addr) : Prop where
  o : OexC K CW
  no : PySem.W.findIn K (.ref CW) "value" = some none
  init : PySem.W.findIn K (.ref CW) "__init__" = some (some (.ref fI))
  ty : PySem.W.typeIn K (.ref fI) = some (.type "function")
  mg : mg x = some (.ref CW)
  xf : XfC K CW
/-- the def that all of them are made by -/
structure WeD (P : Program) (w : World) (K : PySem.W.Frag) (mg : Str → Option Value) (base : Heap) (fI : Addr) : Prop where
  ex : ∃ fdI : FuncData, FnOk P w K mg base CX0 1 fI fdI ["self", "value"] (spWE K) ∧ Binds K fdI ["self", "value"] []
section
variable {X : Vol} {σ : L2.St} {H : Hp} {te : TE} {K : Fr} {d : PyData} {D : Ends} {E : XK} {CW : Addr}
/-- raise X(e) -/
theorem s_raise (T : OexC K CW) (no : PySem.W.findIn K (.ref CW) "value" = some none) (h : Ev X te σ H (vD d)) (i : X.I H) {W : XK} (k : ∀ dd v H1, Ext X H H1 → H1 dd = some (.xd [("value", v)]) → Dx (X.wo H1) v d → W (.ref CW) (some dd) H1) : tMkO CW (spWE K) [] (tCons te tNil) σ H W := h.go i fun v H1 e p => by
  refine ⟨by show 1 ≤ 1000; decide, fun a ha => ⟨a, CW, v, rfl, T, no, upd_same, fun dx hdx hne => ⟨rfl, dx, [("value", v)], upd_same, by rw [upd_ne hne, upd_same], ?_, ?_⟩⟩⟩
  · rw [upd_ne hne] at hdx
    exact hdx
  · rw [upd_ne hne] at hdx
    have sm : Same H1 (upd (del (upd (upd (upd H1 a (exo a CW none)) dx (exd dx [("value", v)])) a (exo a CW (some dx))) a) dx (.xd [("value", v)])) := fun b o e => by
      have nb : b ≠ dx := ne_of_none e hdx
      have na : b ≠ a := ne_of_none e ha
      rw [upd_ne nb, del_ne na, upd_ne na, upd_ne nb, upd_ne na]
      exact e
    have x := Sub.same sm e.inv
    exact k dx v _ (e.trans x) upd_same (x.upD p)
end
/-! ### a lambda handed to the catcher -/
section
variable {X Y : Vol} {σ : L2.St} {H H' H0 H1 : Hp} {te : TE} {R : VP} {K : Fr} {d : PyData} {Pt : Addr} {q : Str} {TT : (XK → Hp → VK → Prop) → Hp → VK → Prop} {t : XK → TE}
theorem lam_sub {G : Hp} (i : X.I H) (hT : (Pt, q) ∈ X.T) (hu : ∀ p ∈ X.T, p.1 = Pt → p.2 = q) (b : ButT Pt H G) (tab : TabS G Pt q) : Ext X H G := by
  obtain ⟨ps0, at0⟩ := tab_at i.ti.1 hT
  have at0' : H Pt = some (.tbl ps0) := at0
  obtain ⟨ps1, at1, _⟩ := id tab
  have ne : X.T ≠ [] := fun z => by rw [z] at hT; cases hT
  refine ⟨rfl, rfl, fun _ z => z, fun _ z => .inl z, fun c o n e => b c o (fun z => n (by rw [z]; exact .inr ⟨q, hT⟩)) e, ⟨fun a ha => ?_, fun p hp => ?_, ⟨fun p hp => ?_, fun _ a ha nT u hu2 => ?_⟩⟩⟩
  · by_cases z : a = Pt
    · rw [z, at1]; exact fun z => nomatch z
    · cases e : H a with
      | none => exact absurd e (i.live a ha)
      | some o => rw [b a o z e]; exact fun z => nomatch z
  · obtain ⟨x, y, e, r⟩ := i.pl p hp
    refine ⟨x, y, b p _ (fun z => ?_) e, r⟩
    rw [z, at0'] at e
    cases e
  · by_cases z : p.1 = Pt
    · have e2 := hu p hp z
      obtain ⟨p1, p2⟩ := p
      dsimp only at z e2
      rw [z, e2]
      exact tab
    · obtain ⟨ps, e, tr, told⟩ := i.ti.1 p hp
      refine ⟨ps, b _ _ z e, tr, fun pos cv hc => ?_⟩
      obtain ⟨c, r, g⟩ := told pos cv hc
      exact ⟨c, r, b c _ (fun z => by rw [z, at0'] at g; cases g) g⟩
  · have z : a ≠ Pt := fun z => nT q (by rw [z]; exact hT)
    cases e : H a with
    | none => exact absurd e (i.live a ha)
    | some o =>
      have e2 := b a o z e
      rw [hu2] at e2
      rw [Option.some.inj e2]
      exact i.ti.2 ne a ha nT o e
theorem ev_lam (hT : (Pt, q) ∈ X.T) (hu : ∀ p ∈ X.T, p.1 = Pt → p.2 = q) (h : ∀ Y H1, Sub X H Y H1 → ∀ Q : VK, (∀ v H2, Ext Y H1 H2 → R.at_ (Y.wo H2) v → Q v H2) → TT (fun E H' Q' => t E σ H' Q') H1 Q) : Ev X (tLam3 Pt q TT t) σ H R := fun Y H1 e Q k =>
  ⟨e.inv.ti.1 _ (by rw [e.tt]; exact hT), fun G b tab => by
    have x : Ext Y H1 G := lam_sub e.inv (by rw [e.tt]; exact hT) (by rw [e.tt]; exact hu) b tab
    exact h Y G (e.trans x) Q fun v H3 e3 p => k v H3 (x.trans e3) p⟩
variable {ws : List (Str × Addr)} {fm : Bool} {j : Nat} {w : Str} {CW : Addr}
/-- .. that raises: [word, text] -/
theorem en_lamX (hT : (Pt, q) ∈ X.T) (hu : ∀ p ∈ X.T, p.1 = Pt → p.2 = q) (h : ∀ E, EvX X (t E) σ H E CW d) (hj : ws[j]? = some (w, CW)) (tx : Txt0 d) : Ev X (tLam3 Pt q (TTerr K ws true fm) t) σ H (vD (.list [.str w, .str d.shown])) :=
  ev_lam hT hu fun Y H1 e Q k => by
    refine h (Told K ws true Q) Y H1 e (fun dd v H2 e2 hd p => ⟨j, w, CW, v, d, hj, ⟨rfl, dd, rfl, hd⟩, tx.sh (Dx.same wo_le _ _ p), ?_⟩) _
    rw [if_pos rfl]
    intro l hl
    have x := Sub.new (X := Y) (o := .lst [.str w, .str d.shown]) e2.inv hl
    exact k _ _ (e2.trans x) (.lst (wo_new e2.inv hl) (.cons (.str _) (.cons (.str _) .nil)))
/-- .. where the text alone is kept -/
theorem ev_lamX1 (hT : (Pt, q) ∈ X.T) (hu : ∀ p ∈ X.T, p.1 = Pt → p.2 = q) (h : ∀ E, EvX X (t E) σ H E CW d) (hj : ws[j]? = some (w, CW)) (tx : Txt0 d) : Ev X (tLam3 Pt q (TTerr K ws false fm) t) σ H (vD (.str d.shown)) :=
  ev_lam hT hu fun Y H1 e Q k => by
    refine h (Told K ws false Q) Y H1 e (fun dd v H2 e2 hd p => ⟨j, w, CW, v, d, hj, ⟨rfl, dd, rfl, hd⟩, tx.sh (Dx.same wo_le _ _ p), ?_⟩) _
    rw [if_neg Bool.false_ne_true]
    exact k _ _ e2 (.str _)
/-- .. that raises nothing -/
theorem ev_lam0 {two : Bool} (hT : (Pt, q) ∈ X.T) (hu : ∀ p ∈ X.T, p.1 = Pt → p.2 = q) (h : ∀ E, Ev X (t E) σ H R) : Ev X (tLam3 Pt q (TTerr K ws two false) t) σ H (vD .none) :=
  ev_lam hT hu fun Y H1 e Q k => h _ Y H1 e _ fun v H2 e2 _ => k _ H2 e2 .non
end
/-! ### what is known of such defs -/
structure DfX (P : Program) (w : World) (K : PySem.W.Frag) (mg : Str → Option Value) (base : Heap) (k : Nat) (x : Str) (ps : List Str) (sp : Sp) : Prop where
  ex : ∃ (g : Addr) (gd : FuncData), FnOk P w K mg base (L2.CX P w) k g gd ps sp ∧ mg x = some (.ref g) ∧ PySem.W.keepIn K (.ref g) = true ∧ Binds K gd ps []
structure DfDX (P : Program) (w : World) (K : PySem.W.Frag) (mg : Str → Option Value) (base : Heap) (k : Nat) (x : Str) (ps : List Str) (sp : Sp) : Prop where
  ex : ∃ (g : Addr) (gd : FuncData) (a : Addr) (ds : List Value), FnOk P w K mg base (L2.CX P w) k g gd ps sp ∧ mg x = some (.ref g) ∧ PySem.W.keepIn K (.ref g) = true ∧ Binds K gd ps ds ∧ Vals [.ref a] ds ∧ KT K a ∧ KBn K gd ps (ps.length - 1) ["fixed"] (fun us ws => us ++ ws) (fun vs zs => vs ++ zs)
structure MdX (P : Program) (w : World) (K : PySem.W.Frag) (mg : Str → Option Value) (base : Heap) (C : Addr) (k : Nat) (m : Str) (ps : List Str) (sp : Sp) : Prop where
  ex : ∃ (g : Addr) (gd : FuncData), FnOk P w K mg base (L2.CX P w) k g gd ps sp ∧ Meth K C m g ∧ Binds K gd ps []
/-- the catcher's def: st -/
structure DfE (K : PySem.W.Frag) (mg : Str → Option Value) (x : Str) (st : Stmt) (a : Str) : Prop where
  ex : ∃ (g : Addr) (oc : Value) (od : Option Addr) (kV doc pm : Value) (an : Option Addr) (cdv ct : Value) (osl : Array (Option Value)),
    mg x = some (.ref g) ∧ PySem.W.keepIn K (.ref g) = true ∧ K.lookup g = some ⟨oc, od, .func (PySem.W.fnOf x x (defArgs st) (defBody st) (defScope st) .none kV doc pm an cdv ct), osl⟩ ∧ PySem.W.codeIn K cdv x = true ∧
    Binds K (PySem.W.fnOf x x (defArgs st) (defBody st) (defScope st) .none kV doc pm an cdv ct) [a] []
/-- a def whose code object is known (it makes lambdas): its table is at Pt -/
structure FunC (K : PySem.W.Frag) (x qual : Str) (st : Stmt) (f : Addr) (fd : FuncData) (c : Addr) : Prop where
  ex : ∃ (oc : Value) (od : Option Addr) (kV doc pm : Value) (an : Option Addr) (ct : Value) (osl : Array (Option Value)),
    fd = PySem.W.fnOf x qual (defArgs st) (defBody st) (defScope st) .none kV doc pm an (.ref c) ct ∧ K.lookup f = some ⟨oc, od, .func fd, osl⟩ ∧ PySem.W.codeIn K (.ref c) qual = true
open PySem.Spec PyProof.Rows in
theorem FunC.go {P : Program} {w : World} {K : PySem.W.Frag} {mg : Str → Option Value} {base : Heap} {CX : CXT} {x qual : Str} {st : Stmt} {f c : Addr} {fd : FuncData} {N ps : List Str} {k : Nat} {sp : Sp} (F : FunC K x qual st f fd c) (S : FnScope N ps (defScope st)) (len : ∀ vs H Q E, sp vs H Q E → vs.length = ps.length)
    (walk : ∀ (A : Around), Gd.Quiet A → ∀ (outer : List Env) (s : Shared) (H : Hp) (vs : List V) (Q : VK) (E : XK), Room k (A.deeper (envOfC qual (defScope st) s.heap.objs.size f (.ref c))) → sp vs H Q E →
      ∃ t, PSs (cxOf CX P w K mg base N qual (defScope st) f (.ref c) A outer s H E) (defBody st) t ∧ t { nx := fun _ H' => Q .non H', rt := Q } (start N vs) H) : Gd.GOk P w K mg base CX (k + 1) f fd ps sp := by
  obtain ⟨oc, od, kV, doc, pm, an, ct, osl, e, lk, hcd⟩ := F.ex
  cases e
  exact Gd.gok_of lk hcd S len walk
theorem func_mk {K : PySem.W.Frag} {x qual : Str} {st : Stmt} {f c : Addr} {oc : Value} {od an : Option Addr} {osl : Array (Option Value)} {kV doc pm ct : Value} (l : K.lookup f = some ⟨oc, od, .func (PySem.W.fnOf x qual (defArgs st) (defBody st) (defScope st) .none kV doc pm an (.ref c) ct), osl⟩)
    (cc : PySem.W.codeIn K (.ref c) qual = true) : FunC K x qual st f (PySem.W.fnOf x qual (defArgs st) (defBody st) (defScope st) .none kV doc pm an (.ref c) ct) c := ⟨⟨oc, od, kV, doc, pm, an, ct, osl, rfl, l, cc⟩⟩
end Ee

/-! ## texts that may be compared; a law's own tables -/
namespace Ee
open PySem PySem.Spec L2
theorem sok_app (a b : Str) : PyData.strOk (a ++ b) = (PyData.strOk a && PyData.strOk b) := by
  show (a.cps ++ b.cps).all (· < 0x110000) = (a.cps.all (· < 0x110000) && b.cps.all (· < 0x110000))
  rw [Array.all_append]
theorem sok_str (s : String) : PyData.strOk (Str.ofString s) = true := by
  rw [Str.ofString_eq_toList]
  show (s.toList.map Char.toNat).toArray.all (· < 0x110000) = true
  rw [List.all_toArray, List.all_map]
  refine List.all_eq_true.mpr fun c _ => decide_eq_true ?_
  have h := c.valid
  show c.val.toNat < 0x110000
  rcases h with h | ⟨_, h⟩
  · have : c.val.toNat < 0xd800 := h
    omega
  · exact h
theorem sok_from : ∀ (ts : List Str) (k : Nat) (acc : Str), PyData.strOk acc = true → (∀ t ∈ ts, PyData.strOk t = true) → PyData.strOk (textFrom k acc ts) = true
  | [], _, _, h, _ => h
  | t :: ts, k, acc, h, ht => by
    refine sok_from ts (k + 1) _ ?_ fun x hx => ht x (by simp [hx])
    rw [sok_app, sok_app, h, sok_str, ht t (by simp)]
    rfl
theorem sok_join : ∀ (ts : List Str), (∀ t ∈ ts, PyData.strOk t = true) → PyData.strOk (Str.join ", " ts) = true
  | [], _ => by decide +kernel
  | [x], h => h x (by simp)
  | x :: y :: r, h => by
    have ih := sok_join (y :: r) fun t ht => h t (by simp [ht])
    show PyData.strOk (x ++ ", " ++ Str.join ", " (y :: r)) = true
    rw [sok_app, sok_app, h x (by simp), ih, sok_str]
    rfl
theorem shownAll_map : ∀ ds : List PyData, PyData.shownAll ds = ds.map PyData.shown
  | [] => by simp [PyData.shownAll]
  | d :: ds => by rw [PyData.shownAll, shownAll_map ds]; rfl
theorem sok_list {ds : List PyData} (h : ∀ d ∈ ds, PyData.strOk d.shown = true) : PyData.strOk (PyData.list ds).shown = true := by
  rw [PyData.shown, shownAll_map]
  unfold listText
  rw [sok_app, sok_from _ _ _ (sok_str _) fun t ht => ?_]
  · exact sok_str _
  · obtain ⟨d, hd, rfl⟩ := List.mem_map.mp ht
    exact h d hd
theorem sok_tuple {ds : List PyData} (h : ∀ d ∈ ds, PyData.strOk d.shown = true) : PyData.strOk (PyData.tuple ds).shown = true := by
  rw [PyData.shown, shownAll_map]
  unfold tupleText
  rw [sok_app, sok_app, sok_join _ fun t ht => ?_, sok_str]
  · exact sok_str _
  · obtain ⟨d, hd, rfl⟩ := List.mem_map.mp ht
    exact h d hd
theorem sok_int (i : Int) : PyData.strOk (PyData.int i).shown = true := by
  rw [PyData.shown]
  exact sok_str _
theorem sok_ints {l : List Int} : ∀ d ∈ l.map PyData.int, PyData.strOk d.shown = true := fun d hd => by
  obtain ⟨i, _, rfl⟩ := List.mem_map.mp hd
  exact sok_int i
/-- data that has a text, and this text may be compared -/
structure TxS (d : PyData) : Prop where
  t : Txt0 d
  s : PyData.strOk d.shown = true
theorem TxS.of {B k : Nat} {d : PyData} (h : Tx B k d) (s : PyData.strOk d.shown = true) (hB : B ≤ 100000 := by omega) (hk : k ≤ 64 := by omega) : TxS d := ⟨.inr ⟨B, k, h, hB, hk⟩, s⟩
theorem TxS.dic : TxS (.dict []) := ⟨.inl rfl, by decide +kernel⟩
theorem TxS.non : TxS .none := .of .non (by decide +kernel)
theorem TxS.bl (b : Bool) : TxS (.bool b) := .of (.bl b) (by cases b <;> decide +kernel)
theorem TxS.int {i : Int} (h : -(10 ^ 40) ≤ i := by omega) (h2 : i ≤ 10 ^ 40 := by omega) : TxS (.int i) := .of (.num h h2) (sok_int i)
theorem TxS.list {B k : Nat} {ds : List PyData} (h : TxL B k ds) (s : ∀ d ∈ ds, PyData.strOk d.shown = true) (hB : B ≤ 100000 := by omega) (hk : k + 1 ≤ 64 := by omega) : TxS (.list ds) := .of (.lst h) (sok_list s)
theorem TxS.tuple {B k : Nat} {ds : List PyData} (h : TxL B k ds) (s : ∀ d ∈ ds, PyData.strOk d.shown = true) (hB : B ≤ 100000 := by omega) (hk : k + 1 ≤ 64 := by omega) : TxS (.tuple ds) := .of (.tup h) (sok_tuple s)
theorem TxS.ints {l : List Int} (h : ∀ x ∈ l, -(10 ^ 40) ≤ x ∧ x ≤ 10 ^ 40) (hl : l.length ≤ 100000) : TxS (.list (l.map PyData.int)) := .of (tx_ints h) (sok_list sok_ints)
theorem txl_ints {l : List Int} (h : ∀ x ∈ l, -(10 ^ 40) ≤ x ∧ x ≤ 10 ^ 40) : TxL l.length 0 (l.map PyData.int) := by
  have := TxL.of (B := 0) (k := 0) (ds := l.map PyData.int) fun d hd => by
    obtain ⟨x, hx, rfl⟩ := List.mem_map.mp hd
    exact .num (h x hx).1 (h x hx).2
  rw [List.length_map] at this
  exact this.mono (by omega) (Nat.le_refl _)
theorem TxS.intsT {l : List Int} (h : ∀ x ∈ l, -(10 ^ 40) ≤ x ∧ x ≤ 10 ^ 40) (hl : l.length ≤ 100000) : TxS (.tuple (l.map PyData.int)) := .tuple (txl_ints h) sok_ints
section
variable {X : Vol} {σ : L2.St} {H : Hp} {ta tb : TE} {K : Fr} {w t : Str}
theorem shaped_two (hw : PyData.strOk w = true) (ht : PyData.strOk t = true) : SeqAt.shaped (.list [.str w, .str t]) = true := by
  unfold SeqAt.shaped
  simp [PyData.canLay0, PyData.canLayAll0, PyData.depth, PyData.depthAll, hw, ht]
theorem eqv_two : PyData.eqv (.list [.str w, .str t]) (.list [.str w, .str t]) = true := by
  simp [PyData.eqv, PyData.eqvAll]
/-- [word, text] != [word, text] -/
theorem et_two (ha : Ev X ta σ H (vD (.list [.str w, .str t]))) (hb : Ev X tb σ H (vD (.list [.str w, .str t]))) (ht : PyData.strOk t = true) (hw : PyData.strOk w = true := by decide +kernel) : EvT X (tTest (tOp (rNeD K) ta tb)) σ H false :=
  EvT.cast (et_test (ev_neD ha hb (shaped_two hw ht) (shaped_two hw ht))) (by rw [eqv_two]; rfl)
end
/-! ### a law's own tables -/
abbrev lamQ (x : Str) : Str := (x ++ ".<locals>.") ++ "<lambda>"
def volT (T : List (Addr × Str)) : Vol := ⟨none, fun a => ∃ p ∈ T, p.1 = a, fun _ h => (nomatch h), T, fun p h => ⟨p, h, rfl⟩⟩
def volPT (p : Addr) (T : List (Addr × Str)) : Vol := ⟨some p, fun a => a = p ∨ ∃ t ∈ T, t.1 = a, fun q h => .inl (Option.some.inj h).symm, T, fun p h => .inr ⟨p, h, rfl⟩⟩
section
variable {T : List (Addr × Str)} {H H1 H3 H4 H' : Hp} {p a : Addr}
theorem volT_I (t : LamX.Tabs T H) : (volT T).I H := by
  refine ⟨fun a ⟨q, hq, e⟩ => ?_, (fun p h => nomatch (show (none : Option Addr) = some p from h)), t, fun _ a ⟨q, hq, e⟩ n => ?_⟩
  · obtain ⟨ps, e2⟩ := tab_at t hq
    rw [← e, e2]
    exact fun z => nomatch z
  · exact absurd (show (a, q.2) ∈ T by rw [← e]; exact hq) (n q.2)
theorem volPT_I (h : PoolAt H p) (t : LamX.Tabs T H) : (volPT p T).I H := by
  refine ⟨fun a ha => ?_, fun q hq => ?_, t, fun _ a ha n u hu => ?_⟩
  · rcases ha with ha | ⟨q, hq, e⟩
    · obtain ⟨_, _, e, _⟩ := h
      rw [show a = p from ha, e]
      exact fun z => nomatch z
    · obtain ⟨ps, e2⟩ := tab_at t hq
      rw [← e, e2]
      exact fun z => nomatch z
  · rw [← show p = q from Option.some.inj hq]
    exact h
  · rcases ha with ha | ⟨q, hq, e⟩
    · obtain ⟨_, _, e, _⟩ := h
      rw [show a = p from ha, e] at hu
      rw [← Option.some.inj hu]
      exact True.intro
    · exact absurd (show (a, q.2) ∈ T by rw [← e]; exact hq) (n q.2)
theorem volT_V {b : Addr} : (volT T).V b ↔ ∃ q, (b, q) ∈ T := by
  constructor
  · rintro (h | h)
    · exact nomatch (show (none : Option Addr) = some b from h)
    · exact h
  · exact fun h => .inr h
/-- a turn of the law ends: the pool was new -/
theorem backT (e : Sub (volT T) H1 (volT T) H3) (hp : H3 p = none) (s4 : Same H3 H4) (w : Wk (volPT p T) H4 (volPT p T) H') : Ext (volT T) H1 H' := by
  refine ⟨rfl, rfl, fun _ z => z, fun _ z => .inl z, fun b o n h => ?_, volT_I w.inv.ti.1⟩
  have h3 := e.old b o n h
  refine w.old b o (fun z => ?_) (s4 _ _ h3)
  rcases z with z | ⟨q, hq, z⟩
  · rw [show b = p from z, hp] at h3
    cases h3
  · exact n (volT_V.mpr ⟨q.2, by rw [← z]; exact hq⟩)
theorem sqL_ext {K : Fr} {Y : Vol} {xs : List V} (e : Sub (volT T) H Y H') (i : LamX.Tabs T H) (h : SqL K H a xs) : SqL K H' a xs := by
  have n : ∀ {o : HO}, H a = some o → (∀ ps, o ≠ .tbl ps) → H' a = some o := fun {o} ha hn => e.old a o (fun z => by
    obtain ⟨q, hq⟩ := volT_V.mp z
    obtain ⟨ps, e2⟩ := tab_at i hq
    rw [show H a = some (.tbl ps) from e2] at ha
    exact hn ps (Option.some.inj ha).symm) ha
  rcases h with h | h
  · left
    rcases h with h | ⟨o, h⟩
    · exact .inl (n h fun _ z => nomatch z)
    · exact .inr ⟨o, n h fun _ z => nomatch z⟩
  · exact .inr h
theorem ev_lenSqT {K : Fr} {σ : L2.St} {xs : List V} {n : Nat} (hs : σ[n]? = some (some (.ref a))) (h : SqL K H a xs) (t : LamX.Tabs T H) : Ev (volT T) (tCB (fun xs H Q => ∃ p ys, xs = [V.ref p] ∧ (SqL K H p ys ∨ SqT K H p ys) ∧ Q (.int ys.length) H) (tCons (tVar n) tNil)) σ H (vI xs.length) := fun Y H1 e Q q =>
  ⟨_, hs, a, xs, rfl, .inl (sqL_ext e t h), q _ H1 (.refl e.inv) (.int _)⟩
/-- a law's promise, where it makes lambdas -/
def spLawT (K : Fr) (T : List (Addr × Str)) : Sp := fun vs H Q _ => ∃ (a : Addr) (ns : List Int), vs = [.ref a] ∧ SqL K H a (ns.map V.int) ∧ ns.length ≤ 63 ∧ LamX.Tabs T H ∧ ∀ H', Q (.bl true) H'
end
end Ee

/-! ## len(set(..)) of a list or tuple of any ints; isinstance(x, (list, tuple)) of any data -/
namespace Ee
open PySem L2
theorem len_sub : ∀ {l m : List Int}, l.Nodup → (∀ k ∈ l, k ∈ m) → l.length ≤ m.length
  | [], _, _, _ => Nat.zero_le _
  | x :: l, m, nd, h => by
    obtain ⟨hx, nd'⟩ := List.nodup_cons.mp nd
    have hm := h x (by simp)
    have ih := len_sub (l := l) (m := m.erase x) nd' fun k hk => (List.mem_erase_of_ne fun (z : k = x) => hx (z ▸ hk)).mpr (h k (by simp [hk]))
    rw [List.length_erase_of_mem hm] at ih
    have := List.length_pos_of_mem hm
    rw [List.length_cons]
    omega
theorem nodup_len : ∀ {l m : List Int}, l.Nodup → (∀ k ∈ l, k ∈ m) → m.length ≤ l.length → m.Nodup
  | [], m, _, _, e => by
    rw [List.length_nil, Nat.le_zero] at e
    rw [List.eq_nil_of_length_eq_zero e]
    exact List.nodup_nil
  | x :: l, m, nd, h, e => by
    obtain ⟨hx, nd'⟩ := List.nodup_cons.mp nd
    have hm := h x (by simp)
    have sub : ∀ k ∈ l, k ∈ m.erase x := fun k hk => (List.mem_erase_of_ne fun (z : k = x) => hx (z ▸ hk)).mpr (h k (by simp [hk]))
    have le := List.length_erase_of_mem hm
    have pos := List.length_pos_of_mem hm
    rw [List.length_cons] at e
    have ih := nodup_len (m := m.erase x) nd' sub (by omega)
    refine (List.perm_cons_erase hm).nodup_iff.mpr (List.nodup_cons.mpr ⟨fun z => ?_, ih⟩)
    have := len_sub (l := x :: l) (m := m.erase x) nd fun k hk => by
      rcases List.mem_cons.mp hk with rfl | hk
      · exact z
      · exact sub k hk
    rw [List.length_cons] at this
    omega
theorem met_nodup (val : Nat → Int) : ∀ i, (PyProof.Rows.firstMet val i).Nodup
  | 0 => List.nodup_nil
  | i + 1 => by
    have ih := met_nodup val i
    rw [PyProof.Rows.firstMet_succ]
    unfold PyProof.Rows.step_dedup
    split
    · exact ih
    · rename_i h
      refine List.nodup_append.mpr ⟨ih, by simp, fun a ha b hb => ?_⟩
      have e : b = val i := by simpa using hb
      rintro rfl
      apply h
      rw [e] at ha
      exact List.any_eq_true.mpr ⟨_, ha, by simp⟩
theorem met_mem {ks : List Int} (k : Int) : k ∈ PyProof.Rows.firstMet (fun i => ks.getD i 0) ks.length ↔ k ∈ ks := by
  have h := PyProof.Rows.firstMet_any (fun i => ks.getD i 0) ks.length k
  have e : (List.range ks.length).map (fun i => ks.getD i 0) = ks := by
    apply List.ext_getElem?
    intro i
    rw [List.getElem?_map]
    by_cases hi : i < ks.length
    · rw [List.getElem?_range hi, List.getElem?_eq_getElem hi, Option.map_some, List.getD_eq_getElem?_getD, List.getElem?_eq_getElem hi]
      rfl
    · rw [List.getElem?_eq_none (by rw [List.length_range]; omega), List.getElem?_eq_none (by omega)]
      rfl
  rw [e] at h
  have g : ∀ l : List Int, l.any (· == k) = true ↔ k ∈ l := fun l => by
    rw [List.any_eq_true]
    exact ⟨fun ⟨x, hx, e⟩ => by rw [← eq_of_beq e]; exact hx, fun hx => ⟨k, hx, by simp⟩⟩
  rw [← g, ← g, h]
def tLenSetG (K : PySem.W.Frag) (tt : TE) : TE := fun σ H Q => tt σ H fun y G => ∃ (t : Addr) (ks : List Int), y = .ref t ∧ (SqL K G t (ks.map V.int) ∨ SqT K G t (ks.map V.int)) ∧ ks.length ≤ 1000 ∧ ∀ n : Nat, (∃ ls : List Int, ls.Nodup ∧ (∀ k, k ∈ ls ↔ k ∈ ks) ∧ n = ls.length) → Q (.int (n : Int)) G
section
open PySem.Spec PyProof.Rows
theorem pe_lenSetG {X : Cx} {a : Expr} {tt : TE} {pa pb pc pd : Pos} (g1 : Gl X "len") (n1 : X.mg "len" = none) (g2 : Gl X "set") (n2 : X.mg "set" = none) (hx : PE X a tt) (calm : X.calm = true := by rfl)
    (ns : starEach [a] X.env = (false, eval a X.env) :: starEach [] X.env := by rfl) : PE X (.Call (.Name "len" pa) [.Call (.Name "set" pb) [a] [] pc] [] pd) (tLenSetG X.K tt) := by
  refine ⟨fun pins s0 σ G Q I h => Call_ (ld_blt I g1 n1 boot_len (PyProof.Rows.callWith_builtin1 (PyProof.Rows.args_cons ?_ (by rfl)) rfl (by rfl)))⟩
  refine Call_ (ld_blt I g2 n2 boot_set (PyProof.Rows.callWith_type1 (PyProof.Rows.args_cons (thn (hx.run pins s0 σ G _ I h) fun u s2 ⟨y, G2, J, ry, hy⟩ => PyProof.Rows.args_nil ?_) ns) ns (by rfl)))
  obtain ⟨t, ks, rfl, hq, hl, q⟩ := hy
  cases ry
  rcases hq with hq | hq
  · obtain ⟨its, r, tp, _⟩ := J.list hq
    have z1 : its.toArray.size = ks.length := by rw [List.size_toArray, ← r.length, List.length_map]
    refine call_set_list (J.ok.hd calm) tp.isList (by simpa using RZ.intsAre_vals r) (by rw [z1]; unfold scanBound; omega) fun h2 tk hS kp => PyProof.Rows.args_nil ?_
    rw [z1] at hS
    obtain ⟨o, es, ep, st, e1, e2, e3, _, _, _, ft, ec⟩ := hS
    have J2 : L2.Inv X pins σ G2 { s2 with heap := h2, toks := tk } := J.kept fun b ob z => kp b ob (Heap.lt_size z) z
    have le := firstMet_length_le (fun i => ks.getD i 0) ks.length
    exact call_len_set e1 e2 e3 ft (by rw [ec] <;> omega) ⟨.int ((firstMet (fun i => ks.getD i 0) ks.length).length : Int), G2, J2.tok _, ⟨_, by rw [ec]⟩, q _ ⟨_, met_nodup _ _, met_mem, rfl⟩⟩
  · obtain ⟨its, r, tp, _⟩ := J.tuple hq
    refine call_set_tupI ks (J.ok.hd calm) tp (by simpa using RZ.intsAre_vals r) (by unfold scanBound; omega) fun h2 tk c hR _ kp => PyProof.Rows.args_nil ?_
    obtain ⟨o, es, ep, st, e1, e2, e3, _, dk, me, _, ft, ec, _⟩ := hR
    have J2 : L2.Inv X pins σ G2 { s2 with heap := h2, toks := tk } := J.kept fun b ob z => kp b ob z
    have mem : ∀ k, k ∈ es.toList.map _ ↔ k ∈ ks := fun k => ⟨fun h => of_decide_eq_true ((me k).mpr h), fun h => (me k).mp (decide_eq_true h)⟩
    have le : es.size ≤ 1000 := by
      have z := len_sub dk fun k hk => (mem k).mp hk
      rw [List.length_map, Array.length_toList] at z
      omega
    exact call_len_set e1 e2 e3 ft (by omega) ⟨.int (es.size : Int), G2, J2.tok _, ⟨_, rfl⟩, q _ ⟨_, dk, mem, by rw [List.length_map, Array.length_toList]⟩⟩
end
section
variable {X : Vol} {σ : L2.St} {H : Hp} {te : TE} {K : Fr} {d : PyData} {ds : List PyData}
theorem size_uniq {ls ks : List Int} (nd : ls.Nodup) (h : ∀ k, k ∈ ls ↔ k ∈ ks) : decide ((ls.length : Int) = (ks.length : Int)) = decide ks.Nodup := by
  have a : ls.length ≤ ks.length := len_sub nd fun k hk => (h k).mp hk
  by_cases hk : ks.Nodup
  · have b : ks.length ≤ ls.length := len_sub hk fun k hk => (h k).mpr hk
    rw [decide_eq_true hk, decide_eq_true (by omega)]
  · rw [decide_eq_false hk, decide_eq_false fun z => hk ?_]
    exact nodup_len nd (fun k hk => (h k).mp hk) (by omega)
/-- len(set(t)) == len(t) -/
theorem ev_lenSetG {ks : List Int} {g : Int → Int → Bool} (h : Ev X te σ H (vSq K (ks.map PyData.int))) (hl : ks.length ≤ 1000) {tb : TE} (hb : Ev X tb σ H (vI (ks.length : Int))) : Ev X (tOp rEq (tLenSetG K te) tb) σ H (vB (decide ks.Nodup)) := fun Y H1 e Q q => h Y H1 e _ fun v H2 e2 ⟨a, xs, hv, h1, al⟩ => by
  have hx := al.ints
  subst hx
  refine ⟨a, ks, hv, sq_or h1 wo_le, hl, fun n ⟨ls, nd, mem, hn⟩ => hb Y H2 (e.trans e2) _ fun y H3 e3 p3 => ?_⟩
  cases p3
  refine ⟨rfl, ?_⟩
  rw [dVint, hn, size_uniq nd mem]
  exact q _ H3 (e2.trans e3) (.bl _)
def isSeq : PyData → Bool
  | .list _ => true
  | .tuple _ => true
  | _ => false
/-- isinstance(x, (list, tuple)) of any data -/
theorem ev_isLTD (h : Ev X te σ H (vD d)) : Ev X (tCB (rIsiT K) (tCons te (tCons (tTup (tCons (tC (.ty "list")) (tCons (tC (.ty "tuple")) tNil))) tNil))) σ H (vB (isSeq d)) := fun Y H1 e Q q => h Y H1 e _ fun v H2 e2 p2 => by
  refine ⟨(by show 2 ≤ sizeLine; decide), fun tp htp => ?_⟩
  have x := Sub.new (X := Y) (o := .tup [.ty "list", .ty "tuple"]) e2.inv htp
  have ty := Dx.ty (K := K) (Dx.same wo_le _ _ (x.upD p2))
  refine ⟨v, tp, _, _, _, isSeq d, rfl, upd_same, .cons (.ty _) (.cons (.ty _) .nil), ty, ?_, q _ _ (e2.trans x) (.bl _)⟩
  cases d with
  | list ds => exact kitAny_cons (b := true) (kit_ty (by decide +kernel)) (fun z => nomatch z) (fun _ => rfl)
  | tuple ds => exact kitAny_cons (b := false) (kit_ty (by decide +kernel)) (fun _ => kitAny_cons (b := true) (kit_ty (by decide +kernel)) (fun z => nomatch z) (fun _ => rfl)) (fun z => nomatch z)
  | none => exact kitAny_cons (b := false) (kit_ty (by decide +kernel)) (fun _ => kitAny_cons (b := false) (kit_ty (by decide +kernel)) (fun _ => kitAny_nil) (fun z => nomatch z)) (fun z => nomatch z)
  | bool b => exact kitAny_cons (b := false) (kit_ty (by decide +kernel)) (fun _ => kitAny_cons (b := false) (kit_ty (by decide +kernel)) (fun _ => kitAny_nil) (fun z => nomatch z)) (fun z => nomatch z)
  | int i => exact kitAny_cons (b := false) (kit_ty (by decide +kernel)) (fun _ => kitAny_cons (b := false) (kit_ty (by decide +kernel)) (fun _ => kitAny_nil) (fun z => nomatch z)) (fun z => nomatch z)
  | str s => exact kitAny_cons (b := false) (kit_ty (by decide +kernel)) (fun _ => kitAny_cons (b := false) (kit_ty (by decide +kernel)) (fun _ => kitAny_nil) (fun z => nomatch z)) (fun z => nomatch z)
  | dict ps => exact kitAny_cons (b := false) (kit_ty (by decide +kernel)) (fun _ => kitAny_cons (b := false) (kit_ty (by decide +kernel)) (fun _ => kitAny_nil) (fun z => nomatch z)) (fun z => nomatch z)
end
end Ee

/-! ## defs that make lambdas and are called by the law: their tables -/
namespace Ee
open PySem L2 LamX Lm
/-- nothing of the pool is asked -/
def spVT {α : Type} (pre : α → Prop) (Ps : α → List VP) (P : α → VP) (Pt : Addr) (q : Str) : Sp := fun vs H Q _ => ∃ (a : α) (X : Vol), (Pt, q) ∈ X.T ∧ (∀ t ∈ X.T, t.1 = Pt → t.2 = q) ∧ X.I H ∧ pre a ∧ AllP (X.wo H) (Ps a) vs ∧ ∀ v H', Ext X H H' → (P a).at_ (X.wo H') v → Q v H'
theorem spVT_len {α : Type} {pre : α → Prop} {Ps : α → List VP} {P : α → VP} {Pt : Addr} {q : Str} {vs : List V} {H : Hp} {Q : VK} {E : XK} {n : Nat} (h : spVT pre Ps P Pt q vs H Q E) (hn : ∀ a, (Ps a).length = n) : vs.length = n := by
  obtain ⟨a, X, _, _, _, _, h, _⟩ := h
  rw [← hn a]
  exact (Paired.length h).symm
/-- .. the pool is its first argument -/
def spDT {α : Type} (pre : α → Prop) (Ps : α → List VP) (P : α → VP) (Pt : Addr) (q : Str) : Sp := fun vs H Q _ => ∃ (a : α) (X : Vol) (p : Addr) (r : List V), vs = .ref p :: r ∧ X.pool = some p ∧ (Pt, q) ∈ X.T ∧ (∀ t ∈ X.T, t.1 = Pt → t.2 = q) ∧ X.I H ∧ pre a ∧ AllP (X.wo H) (Ps a) r ∧ ∀ v H', Ext X H H' → (P a).at_ (X.wo H') v → Q v H'
theorem spDT_len {α : Type} {pre : α → Prop} {Ps : α → List VP} {P : α → VP} {Pt : Addr} {q : Str} {vs : List V} {H : Hp} {Q : VK} {E : XK} {n : Nat} (h : spDT pre Ps P Pt q vs H Q E) (hn : ∀ a, (Ps a).length = n) : vs.length = n + 1 := by
  obtain ⟨a, X, p, r, rfl, _, _, _, _, _, h, _⟩ := h
  rw [List.length_cons, ← hn a, Paired.length h]
section
variable {X : Vol} {σ : L2.St} {H : Hp} {ta tb : TE} {tr : TA} {E : XK} {K : Fr} {α : Type} {pre : α → Prop} {Ps : α → List VP} {P : α → VP} {Pt p : Addr} {q : Str}
theorem ev_callT (hT : (Pt, q) ∈ X.T) (hu : ∀ t ∈ X.T, t.1 = Pt → t.2 = q) (a : α) (h : EvA X tr σ H (Ps a)) (hp : pre a) : Ev X (tCall (spVT pre Ps P Pt q) [] E tr) σ H (P a) := fun Y H1 e Q k => h Y H1 e _ fun vs H2 e2 p2 => by
  show spVT pre Ps P Pt q (vs ++ []) H2 Q E
  rw [List.append_nil]
  exact ⟨a, Y, by rw [e.tt]; exact hT, by rw [e.tt]; exact hu, e2.inv, hp, p2, fun v H' s r => k v H' (e2.trans s) r⟩
theorem ev_drawT (hT : (Pt, q) ∈ X.T) (hu : ∀ t ∈ X.T, t.1 = Pt → t.2 = q) {n : Nat} (a : α) (hs : σ[n]? = some (some (.ref p))) (hp : X.pool = some p) (h : EvA X tr σ H (Ps a)) (ha : pre a) : Ev X (tCall (spDT pre Ps P Pt q) [] E (tCons (tVar n) tr)) σ H (P a) := fun Y H1 e Q k =>
  ⟨_, hs, h Y H1 e _ fun vs H2 e2 p2 => by
    show spDT pre Ps P Pt q ((.ref p :: vs) ++ []) H2 Q E
    rw [List.append_nil]
    exact ⟨a, Y, p, vs, rfl, e.pool.trans hp, by rw [e.tt]; exact hT, by rw [e.tt]; exact hu, e2.inv, ha, p2, fun v H' s r => k v H' (e2.trans s) r⟩⟩
/-- [word, text] == [word, text] -/
theorem ev_two {w t : Str} (ha : Ev X ta σ H (vD (.list [.str w, .str t]))) (hb : Ev X tb σ H (vD (.list [.str w, .str t]))) (ht : PyData.strOk t = true) (hw : PyData.strOk w = true := by decide +kernel) : Ev X (tOp (rEqD K) ta tb) σ H (vB true) :=
  Ev.cast (ev_eqD ha hb (shaped_two hw ht) (shaped_two hw ht)) (by rw [eqv_two])
theorem ev_tupleRg {te : TE} {i : Int} (h : Ev X te σ H (vI i)) (h0 : 0 ≤ i) (h1 : i ≤ 40000) : Ev X (tTupRg (tRg1 te)) σ H (vT ((List.range i.toNat).map fun (k : Nat) => PyData.int k)) := fun Y H1 e Q q => h Y H1 e _ fun v H2 e2 p2 => by
  cases p2
  refine ⟨i, rfl, RgOk.of_le (Int.le_refl _) (by omega) (by decide) (by omega), fun p hp => ?_⟩
  have e1 : rgV 0 i = ((List.range i.toNat).map fun (k : Nat) => (k : Int)).map V.int := by
    unfold rgV
    rw [List.map_map]
    have e2 : (i - 0).toNat = i.toNat := by omega
    rw [e2]
    exact List.map_congr_left fun k _ => by simp
  have e3 : ((List.range i.toNat).map fun (k : Nat) => PyData.int k) = ((List.range i.toNat).map fun (k : Nat) => (k : Int)).map PyData.int := by rw [List.map_map]; rfl
  rw [e1]
  have x := Sub.new (X := Y) (o := .tup (((List.range i.toNat).map fun (k : Nat) => (k : Int)).map V.int)) e2.inv hp
  exact q _ _ (e2.trans x) (.tup (wo_new e2.inv hp) (by rw [e3]; exact dx_ints _))
end
end Ee

/-! ## a try as a statement of its own: what is raised in it is caught, the value is kept -/
namespace Ee
open PySem PySem.Spec PyProof.Rows L2 LamX Lm
section
variable {X : Vol} {σ : L2.St} {H : Hp} {K : Fr} {d : PyData} {D : Ends} {tz : TS} {α : Type} {pre : α → Prop} {Ps : α → List VP} {CW : α → Addr} {x : α → PyData} {tr : TA}
theorem ex_callS {G : Sp} {W : L2.St → XK} (up : ∀ vs H Q E, spX pre Ps CW x vs H Q E → G vs H Q E) (a : α) (h : EvA X tr σ H (Ps a)) (hp : pre a) : EvX X (tCallS G W tr) σ H (W σ) (CW a) (x a) := fun Y H1 e k Q => h Y H1 e _ fun vs H2 e2 p2 =>
  up _ _ _ _ ⟨a, Y.S, hp, e2.inv.live, p2, fun dd v H' s hd r => k dd v H' (e2.trans (.same s e2.inv)) hd r⟩
/-- try: f(..) except C as e: n = e.value -/
theorem q_try1 {G : Sp} {C : Addr} {i j : Nat} {out : WX} (ex : PySem.W.exmOne K (.ref C) (.ref C) = some true) (hi : i < σ.length)
    (h : ∀ W : L2.St → XK, EvX X (tCallS G W tr) σ H (W σ) C d) (iv : X.I H)
    (k : ∀ a dd v H1, Ext X H H1 → H1 dd = some (.xd [("value", v)]) → Dx (X.wo H1) v d → tz D (((σ.set i (some (.ref a))).set j (some v)).set i none) H1) :
    tSeq (fun D σ H => tDrop (tCallS G (WE (wAll K i out D [(.ref C, fun a cls dd => tAsg (tXf a cls dd C "value" (tVar i)) (gName j))])) tr) D σ H) tz D σ H :=
  h _ X H (.refl iv) (fun dd v H1 e hd p => ⟨true, ex, fun _ a ha => ⟨_, List.getElem?_set_self hi, rfl, rfl, dd, _, v, rfl, hd, rfl, k a dd v H1 e hd p⟩, fun z => nomatch z⟩) _
theorem exm_at {cs : List Addr} (ex : ExmOk K cs) {j : Nat} {a : Addr} (h : cs[j]? = some a) : PySem.W.exmOne K (.ref a) (.ref a) = some true := (ex j j a a h h).trans (by simp)
end
end Ee

/-! ## isinstance with int and bool; the text of lists that may hold {} -/
namespace Ee
open PySem PySem.Spec PyProof.Rows L2
def isIn : PyData → Bool
  | .int _ => true
  | _ => false
def isBl : PyData → Bool
  | .bool _ => true
  | _ => false
section
variable {X : Vol} {σ : L2.St} {H : Hp} {te : TE} {K : Fr} {d : PyData} {ds : List PyData}
theorem kit_intD : ∀ d : PyData, PySem.W.kitOne K (tyD d) (.type "int") = some (isIn d || isBl d)
  | .none => (kit_ty (r := false) (by decide +kernel) : PySem.W.kitOne K (tyD (.none)) (.type "int") = some false)
  | .bool x => (kit_ty (r := true) (by decide +kernel) : PySem.W.kitOne K (tyD (.bool x)) (.type "int") = some true)
  | .int x => (kit_ty (r := true) (by decide +kernel) : PySem.W.kitOne K (tyD (.int x)) (.type "int") = some true)
  | .str x => (kit_ty (r := false) (by decide +kernel) : PySem.W.kitOne K (tyD (.str x)) (.type "int") = some false)
  | .list x => (kit_ty (r := false) (by decide +kernel) : PySem.W.kitOne K (tyD (.list x)) (.type "int") = some false)
  | .tuple x => (kit_ty (r := false) (by decide +kernel) : PySem.W.kitOne K (tyD (.tuple x)) (.type "int") = some false)
  | .dict x => (kit_ty (r := false) (by decide +kernel) : PySem.W.kitOne K (tyD (.dict x)) (.type "int") = some false)
theorem kit_blD : ∀ d : PyData, PySem.W.kitOne K (tyD d) (.type "bool") = some (isBl d)
  | .none => (kit_ty (r := false) (by decide +kernel) : PySem.W.kitOne K (tyD (.none)) (.type "bool") = some false)
  | .bool x => (kit_ty (r := true) (by decide +kernel) : PySem.W.kitOne K (tyD (.bool x)) (.type "bool") = some true)
  | .int x => (kit_ty (r := false) (by decide +kernel) : PySem.W.kitOne K (tyD (.int x)) (.type "bool") = some false)
  | .str x => (kit_ty (r := false) (by decide +kernel) : PySem.W.kitOne K (tyD (.str x)) (.type "bool") = some false)
  | .list x => (kit_ty (r := false) (by decide +kernel) : PySem.W.kitOne K (tyD (.list x)) (.type "bool") = some false)
  | .tuple x => (kit_ty (r := false) (by decide +kernel) : PySem.W.kitOne K (tyD (.tuple x)) (.type "bool") = some false)
  | .dict x => (kit_ty (r := false) (by decide +kernel) : PySem.W.kitOne K (tyD (.dict x)) (.type "bool") = some false)
theorem ev_isIntA (h : Ev X te σ H (vD d)) : Ev X (tCB (rIsi K) (tCons te (tCons (tC (.ty "int")) tNil))) σ H (vB (isIn d || isBl d)) := fun Y H1 e Q q => h Y H1 e _ fun v H2 e2 p2 =>
  ⟨v, _, _, _, _, rfl, .ty _, Dx.ty (Dx.same wo_le _ _ p2), kit_intD d, q _ H2 e2 (.bl _)⟩
theorem ev_isBlA (h : Ev X te σ H (vD d)) : Ev X (tCB (rIsi K) (tCons te (tCons (tC (.ty "bool")) tNil))) σ H (vB (isBl d)) := fun Y H1 e Q q => h Y H1 e _ fun v H2 e2 p2 =>
  ⟨v, _, _, _, _, rfl, .ty _, Dx.ty (Dx.same wo_le _ _ p2), kit_blD d, q _ H2 e2 (.bl _)⟩
/-- an entry that is {} or has no dict in it -/
def Emp (d : PyData) : Prop := d = .dict [] ∨ d.hasDict = false
theorem emp_it {v : V} (h : Dx H v d) (e : Emp d) : ItD K H v d := by
  rcases e with rfl | nd
  · cases h with
    | dic g => exact .emp g
  · exact .dat (Dx.dp _ _ h nd) nd
theorem emp_its {K : Fr} {H : Hp} : ∀ {vs : List V} {ds : List PyData}, DxAll H vs ds → (∀ d ∈ ds, Emp d) → ItDs K H vs ds
  | _, _, .nil, _ => .nil
  | _, _, .cons h t, e => .cons (emp_it h (e _ List.mem_cons_self)) (emp_its t fun d hd => e d (List.mem_cons_of_mem _ hd))
/-- data that has a text: also lists that hold {} -/
def TxE (d : PyData) : Prop := Txt0 d ∨ ∃ ds B k, d = .list ds ∧ (∀ x ∈ ds, Emp x) ∧ Ty B k (.list ds) ∧ B ≤ 100000 ∧ k ≤ 64
def rReprM (K : Fr) : List V → Hp → VK → Prop := fun xs H Q => rReprA K xs H Q ∨ rReprL K xs H Q
theorem call_reprM {X : Cx} {K : Fr} (quiet : Gd.Quiet X.A) (hu : X.A.units + 70 < cLine) (e : X.K = K := by rfl) : CallR X (.builtin "repr") (rReprM K) := by
  intro pins s σ H xs us Q I r h
  rcases h with h | h
  · exact call_reprA quiet hu e pins s σ H xs us Q I r h
  · exact call_reprL quiet hu e pins s σ H xs us Q I r h
theorem ev_reprM (h : Ev X te σ H (vD d)) (t : TxE d) : Ev X (tCB (rReprM K) (tCons te tNil)) σ H (vD (.str d.shown)) := fun Y H1 e Q q => h Y H1 e _ fun v H2 e2 p2 => by
  rcases t with t | ⟨ds, B, k, rfl, he, t, hB, hk⟩
  · exact .inl ⟨v, d, rfl, t.sh (Dx.same wo_le _ _ p2), q _ H2 e2 (.str _)⟩
  · cases p2 with
    | lst ea al => exact .inr ⟨_, _, ds, rfl, wo_le _ _ ea, emp_its (DxAll.same wo_le _ _ al) he, t.sh, Nat.le_trans t.dp hk, t.fits hB, q _ H2 e2 (.str _)⟩
theorem ty_emp : Ty 0 1 (.dict []) := ⟨by simp [PyData.leavesShort, PyData.leavesShortKv], by simp [PyData.bulk, PyData.bulkKv], by simp [PyData.showable, PyData.showableKv], by simp [PyData.depth, PyData.depthKv]⟩
theorem TyL.mono {B B' k k' : Nat} {ds : List PyData} (h : TyL B k ds) (a : B ≤ B') (b : k ≤ k') : TyL B' k' ds := ⟨h.ls, Nat.le_trans h.bk a, h.sh, Nat.le_trans h.dp b⟩
theorem TyL.of {B k : Nat} : ∀ {ds : List PyData}, (∀ d ∈ ds, Ty B k d) → TyL (ds.length * (B + 1)) k ds
  | [], _ => (TyL.nil).mono (Nat.zero_le _) (Nat.zero_le _)
  | d :: ds, h => by
    refine (TyL.cons (h d (by simp)) (TyL.of (ds := ds) fun e he => h e (by simp [he]))).mono ?_ (by omega)
    rw [List.length_cons, Nat.add_mul]
    omega
variable {p : Addr} {R : PyData → Prop}
/-- a drawn value of a def that gives any data, drawn arguments -/
theorem ev_drawXV {α : Type} {pre : α → Prop} {Ps : α → List VP} {P : α → VP} {E : XK} {tr : TA} {n : Nat} {Rs : List (PyData → Prop)} (hs : σ[n]? = some (some (.ref p))) (hp : X.pool = some p) (h : EvAx X tr σ H Rs) (ha : ∀ ds, RR Rs ds → ∃ a, Ps a = ds.map vD ∧ pre a ∧ ∀ G v, (P a).at_ G v → (vX R).at_ G v) :
    Ev X (tCall (spD pre Ps P) [] E (tCons (tVar n) tr)) σ H (vX R) := fun Y H1 e Q q =>
  ⟨_, hs, h Y H1 e _ fun vs ds H2 e2 r p2 => by
    obtain ⟨a, hq, hpre, ho⟩ := ha ds r
    show spD pre Ps P ((.ref p :: vs) ++ []) H2 Q E
    rw [List.append_nil]
    exact ⟨a, Y, p, vs, rfl, e.pool.trans hp, e2.inv, hpre, by rw [hq]; exact allP_D p2, fun v H' s r => q v H' (e2.trans s) (ho _ _ r)⟩⟩
/-- entries that all are of one kind -/
theorem RR.all8 {S : PyData → Prop} : ∀ {k : Nat} {ds : List PyData}, RR (List.replicate k S) ds → ∀ d ∈ ds, S d
  | 0, _, .nil, _, h => nomatch h
  | k + 1, _, .cons h t, d, hd => by
    rcases List.mem_cons.mp hd with rfl | hd
    · exact h
    · exact RR.all8 t d hd
end
end Ee

/-! ## l.append(k.pop(i)), lists in the making that are read, pairs turned by a drawn step, few different numbers -/
namespace Ee
open PySem PySem.Spec PyProof.Rows L2
section
variable {X Y X0 : Vol} {σ : L2.St} {H H' H0 H1 H2 : Hp} {ta tb tc te tl ti : TE} {K : Fr} {i j z : Int} {l l' f : Addr} {ns ms fs ls : List Int} {tz : TS} {D : Ends} {R : PyData → Prop} {d e : PyData} {ds : List PyData}
theorem map_erase {α β : Type} (g : α → β) : ∀ (l : List α) (i : Nat), (l.map g).eraseIdx i = (l.eraseIdx i).map g
  | [], _ => rfl
  | _ :: _, 0 => rfl
  | a :: l, i + 1 => by
    show g a :: (l.map g).eraseIdx i = g a :: (l.eraseIdx i).map g
    rw [map_erase g l i]
/-- f.append(l.pop(e)) -/
theorem s_appPop {n m : Nat} (mf : IL X H f fs) (ml : IL X H l ls) (ne : f ≠ l) (hs : σ[n]? = some (some (.ref f))) (hl : σ[m]? = some (some (.ref l))) (h : Ev X te σ H (vX fun d => ∃ r, d = .int r ∧ 0 ≤ r ∧ r < (ls.length : Int))) (iv : X.I H) (hz : fs.length < 40000) (hn : ls.length ≤ 40000)
    (k : ∀ (i : Nat) (y : Int) H1 H2 H3, ls[i]? = some y → Ext X H H1 → Wr X l H1 H2 → Wr X f H2 H3 → IL X H3 f (fs ++ [y]) → IL X H3 l (ls.eraseIdx i) → D.nx σ H3) :
    tDrop (tBM K "list" rAppend (tVar n) (tCons (tBM K "list" rPopAt (tVar m) (tCons te tNil)) tNil)) D σ H := by
  refine ⟨_, hs, .inl ⟨rfl, _, SqL.of mf.at_⟩, _, hl, .inl ⟨rfl, _, SqL.of ml.at_⟩, h.go iv fun v H1 e ⟨d, ⟨r, hd, r0, r1⟩, p⟩ => ?_⟩
  subst hd
  cases p
  have mf1 := mf.ext e
  have ml1 := ml.ext e
  obtain ⟨i, rfl⟩ : ∃ i : Nat, r = (i : Int) := ⟨r.toNat, (Int.toNat_of_nonneg r0).symm⟩
  have hi : i < ls.length := by omega
  have hy : ls[i]? = some ls[i] := List.getElem?_eq_getElem hi
  have w1 := Wr.put (acc := (ls.map V.int).eraseIdx i) e.inv ml1
  refine ⟨l, ls.map V.int, (i : Int), i, .int ls[i], rfl, rfl, ml1.at_, by omega, by omega, ?_, by rw [List.getElem?_map, hy]; rfl, ?_⟩
  · rw [List.length_map]
    unfold seqIndex?
    simp
    omega
  · have mf2 := mf1.wr w1 ne
    have ml2 : IL X (upd H1 l (.lst ((ls.map V.int).eraseIdx i))) l (ls.eraseIdx i) := ⟨ml1.s, ml1.np, by rw [upd_same, map_erase]⟩
    refine ⟨f, fs.map V.int, .int ls[i], rfl, rfl, mf2.at_, ?_, ?_⟩
    · rw [List.length_map]
      exact Nat.lt_of_lt_of_le hz (by decide)
    · have w2 := Wr.put (acc := fs.map V.int ++ [.int ls[i]]) w1.wk.inv mf2
      exact k i _ H1 _ _ hy e w1 w2 ⟨mf2.s, mf2.np, by rw [upd_same, List.map_append]; rfl⟩ (ml2.wr w2 (Ne.symm ne))
theorem ev_lenIL {n : Nat} (m : IL X H l ns) (hs : σ[n]? = some (some (.ref l))) : Ev X (tCB (fun xs H Q => ∃ p ys, xs = [V.ref p] ∧ (SqL K H p ys ∨ SqT K H p ys) ∧ Q (.int ys.length) H) (tCons (tVar n) tNil)) σ H (vI ns.length) := fun Y H1 e Q q => by
  refine ⟨_, hs, l, _, rfl, .inl (SqL.of (m.ext e).at_), ?_⟩
  rw [List.length_map]
  exact q _ H1 (.refl e.inv) (.int _)
/-- a list of lists of ints, made by now, changed again -/
theorem Mak.againZ {gs : List (List Int)} (i : X.I H) (hl : H l = none) (e : Ext X H H') (h : Dx (X.wo H') (.ref l) (.list (gs.map fun g => PyData.list (g.map PyData.int)))) : Mak X H l H' (gs.map fun g => PyData.list (g.map PyData.int)) := by
  cases h with
  | lst ea al =>
    rename_i xs
    have s : Sub X H (X.add l) H' := ⟨rfl, rfl, fun _ h => .inl h, fun a z => ?_, e.old, ⟨fun a z => ?_, e.inv.pl, ti_add e.inv (wo_le _ _ ea) True.intro⟩⟩
    · refine ⟨i, hl, s, xs, wo_le _ _ ea, ?_⟩
      have key : ∀ {vs : List V} {ts : List (List Int)}, (∀ v ∈ vs, v ∈ xs) → DxAll (X.wo H') vs (ts.map fun g => PyData.list (g.map PyData.int)) → DxAll ((X.add l).wo H') vs (ts.map fun g => PyData.list (g.map PyData.int)) := by
        intro vs ts
        induction ts generalizing vs with
        | nil => intro _ h; cases h; exact .nil
        | cons g ts ih =>
          intro hv h
          cases h with
          | cons a t =>
            refine .cons ?_ (ih (fun v hm => hv v (List.mem_cons_of_mem _ hm)) t)
            cases a with
            | lst eb bl =>
              rename_i b ys
              have hy := DxAll.ints bl
              subst hy
              have ne : b ≠ l := fun z => by
                subst z
                rw [ea] at eb
                cases eb
                have hm := hv (.ref b) List.mem_cons_self
                obtain ⟨_, _, z⟩ := List.mem_map.mp hm
                cases z
              refine .lst (xs := g.map V.int) ?_ (dx_ints g)
              obtain ⟨h1, h2⟩ := wo_some eb
              rw [wo_out fun z => ?_]
              · exact h1
              · rcases z with z | z
                · exact h2 z
                · exact ne z
      exact key (fun v h => h) al
    · rcases z with z | rfl
      · exact .inl z
      · exact .inr hl
    · rcases z with z | rfl
      · exact e.inv.live a z
      · rw [wo_le _ _ ea]; exact fun z => nomatch z
/-- l[i], l being made -/
theorem ev_ixMk {n : Nat} (m : Mak X H0 l H ds) (hs : σ[n]? = some (some (.ref l))) (hi : Ev (X.add l) ti σ H (vI i)) (ha : atI ds i = some d) : Ev (X.add l) (tOp (rIxL K) (tVar n) ti) σ H (vD d) := fun Y H1 e Q q => by
  refine ⟨_, hs, hi Y H1 e _ fun v H2 e2 p2 => ?_⟩
  cases p2
  obtain ⟨acc, h1, h2⟩ := m.ex
  have np : ¬ (X.add l).V l := fun z => m.i0.live l (X.subV _ z) m.fr
  have e3 := e.trans e2
  obtain ⟨v, hv, hd⟩ := atI_dx (e3.upA h2) ha
  exact ⟨l, acc, i, v, rfl, rfl, SqL.of (e3.old _ _ np h1), hv, q _ H2 e2 hd⟩
/-- (a, b)[::w], w drawn -/
theorem ev_turnX (h : Ev X te σ H (vT [d, e])) (hi : Ev X ti σ H (vX fun x => ∃ i : Int, x = .int i ∧ (i = 1 ∨ i = -1))) : Ev X (tTurn K te ti) σ H (vX fun x => x = .tuple [d, e] ∨ x = .tuple [e, d]) := fun Y H1 x Q q => h Y H1 x _ fun v H2 e2 p2 => hi Y H2 (x.trans e2) _ fun w H3 e3 ⟨_, ⟨i, hx, hw⟩, p3⟩ => by
  subst hx
  cases p3
  have p4 := e3.upD p2
  cases e3.upD p2 with
  | tup ea al =>
    cases al with
    | cons a t =>
      cases t with
      | cons b t =>
        cases t
        refine ⟨_, _, _, i, rfl, SqT.of (wo_le _ _ ea), rfl, hw, fun e1 => ?_, fun e1 p hp => ?_⟩
        · exact q _ H3 (e2.trans e3) ⟨_, .inl rfl, p4⟩
        · have key : ∀ z1 z2, Dx (Y.wo H3) z1 d → Dx (Y.wo H3) z2 e → Q (.ref p) (upd H3 p (.tup [z2, z1])) := fun z1 z2 g1 g2 => by
            have x3 := Sub.new (X := Y) (o := .tup [z2, z1]) e3.inv hp
            exact q _ _ ((e2.trans e3).trans x3) ⟨_, .inr rfl, .tup (wo_new e3.inv hp) (.cons (x3.upD g2) (.cons (x3.upD g1) .nil))⟩
          exact key _ _ a b
/-- len(set(l)) < 2, where two are different -/
theorem et_fewSet {ks : List Int} (h : Ev X te σ H (vL (ks.map PyData.int))) (hl : ks.length ≤ 1000) (two : ∃ a ∈ ks, ∃ b ∈ ks, a ≠ b) : EvT X (tTest (tOp (rI0 fun i j => .bl (decide (i < j))) (tLenSetG K te) (tC (.int 2)))) σ H false := by
  have ex : Ev X (tOp (rI0 fun i j => .bl (decide (i < j))) (tLenSetG K te) (tC (.int 2))) σ H (vB false) := fun Y H1 e Q q => h Y H1 e _ fun v H2 e2 p2 => by
    cases p2 with
    | lst ea al =>
      have hx := al.ints
      subst hx
      refine ⟨_, ks, rfl, .inl (SqL.of (wo_le _ _ ea)), hl, fun n ⟨ls, nd, mem, hn⟩ => ⟨(n : Int), 2, rfl, rfl, ?_⟩⟩
      obtain ⟨a, ha, b, hb, ne⟩ := two
      have h2 : 2 ≤ n := by
        rw [hn]
        have ha := (mem a).mpr ha
        have hb := (mem b).mpr hb
        match ls, nd, ha, hb with
        | [], _, ha, _ => cases ha
        | [x], _, ha, hb => exact absurd ((List.mem_singleton.mp ha).trans (List.mem_singleton.mp hb).symm) ne
        | _ :: _ :: _, _, _, _ => show 2 ≤ _ + 1 + 1; omega
      show Q (V.bl (decide ((n : Int) < 2))) H2
      rw [decide_eq_false (by omega)]
      exact q _ H2 e2 (.bl false)
  exact et_test ex
end
end Ee

/-! ## list(d.values()) -/
namespace L2
open PySem PySem.Spec PyProof.Rows
def tLVals (td : TE) : TE := fun σ H Q => td σ H fun x H1 => ∃ d kvs, x = .ref d ∧ H1 d = some (.dK kvs) ∧ ∀ l, H1 l = none → Q (.ref l) (upd H1 l (.lst (kvs.map Prod.snd)))
theorem kv_snd : ∀ {kvs : List (Key × V)} {vs : List (Key × Value)}, KV kvs vs → Vals (kvs.map Prod.snd) (vs.map Prod.snd)
  | _, _, .nil => .nil
  | _, _, .cons ⟨_, r⟩ t => .cons r (kv_snd t)
theorem pe_listVals {X : Cx} {e : Expr} {td : TE} {pl apos cpos pos : Pos} (gl : Gl X "list") (ml : X.mg "list" = none) (he : PE X e td) (hc : X.calm = true := by rfl) (hbase : attributeBase e "values" X.env (eval e X.env) = eval e X.env := by rfl) (hline : (apos.endLine == cpos.line) = true := by rfl)
    (ns : starEach [.Call (.Attribute e "values" apos) [] [] cpos] X.env = (false, eval (.Call (.Attribute e "values" apos) [] [] cpos) X.env) :: starEach [] X.env := by rfl) :
    PE X (.Call (.Name "list" pl) [.Call (.Attribute e "values" apos) [] [] cpos] [] pos) (tLVals td) := by
  refine ⟨fun pins s σ H Q I h => ?_⟩
  refine Call_ (ld_blt I gl ml boot_list (PyProof.Rows.callWith_type1 (PyProof.Rows.args_cons ?_ ns) ns))
  refine wpAny_Call_method (T := "dict") (id := "dict.values") hbase rfl hline F.plainAttrs_dict F.slot_dict_values F.type_dict_values (thn (he.run pins s σ H _ I h) fun u s1 ⟨x, H1, I1, rx, d, kvs, ex, hd, q⟩ => ?_)
  subst ex
  obtain rfl : u = Value.ref d := rx
  obtain ⟨hz, hs, vs, kv, dd⟩ := I1.hok d _ hd
  refine ⟨dd.typeIs, dd.mapOf.noDict, ?_⟩
  have I2 : Inv X pins σ H1 { s1 with heap := s1.heap.push { cls := .type "dict_values", data := .fields #[.ref d] } } := I1.kept (t' := s1.toks) fun b ob q => Heap.get?_push_of_some _ q
  have hl : kvs.length = vs.length := Paired.length kv
  obtain ⟨es, ep, raw, hsz, hval⟩ := dd.raw
  have fin : wpAny (model X.prog X.w) X.A (call (.type "list") [.ref s1.heap.objs.size]) (EP X pins σ Q) X.xe { s1 with heap := s1.heap.push { cls := .type "dict_values", data := .fields #[.ref d] } } := by
    refine W.kdl_call (KdlSrc.rawValues (r := s1.heap.objs.size) (d := d) (es := es) (ep := ep)) (I.ok.hd hc) ⟨⟨_, Heap.get?_push_size _ rfl, rfl, rfl⟩, raw.push _⟩ (by omega) fun h' tk acc' c' keep at_ items => ?_
    have el : acc' = (vs.map Prod.snd).toArray := by
      apply Array.ext
      · rw [items.1, hsz]
        simp
      · intro i h1 h2
        obtain ⟨hi, e⟩ := items.2 i _ (Array.getElem?_eq_getElem h1)
        have hiv : i < vs.length := by omega
        have hv := hval i hi _ _ (show vs[i]? = some (vs[i].1, vs[i].2) from List.getElem?_eq_getElem hiv)
        rw [e, hv.2]
        simp
    subst el
    exact ⟨.ref (s1.heap.push { cls := .type "dict_values", data := .fields #[.ref d] }).objs.size, _, I2.laid (t' := tk) keep (Nat.le_refl _) (show ObjOk X.prog X.w _ h' _ (.lst (kvs.map Prod.snd)) from ⟨by rw [List.length_map]; exact hz, _, c', kv_snd kv, at_⟩), rfl, q _ (I2.hok.fresh (Nat.le_refl _))⟩
  show wpAny _ _ (callWith cpos (.builtin "dict.values") [.ref d] [] []) _ X.xe s1
  exact method_meetsIn F.slot_dict_values F.entry_dict_values rfl (PySem.evalArgs_none ⟨rfl, dd.typeIs, F.args_dict_values_1 _, _, meets_dict_values (mixKind X.prog X.w) d hs, ⟨vs, dd⟩, PyProof.Rows.args_nil fin⟩)
end L2

/-! ## str * int, `is None` of any data, a default None -/
namespace L2
open PySem PySem.Spec PyProof.Rows
def rMulS : R2 := fun x y H Q => ∃ z i, x = .str z ∧ y = .int i ∧ MulOk z i ∧ Q (.str (Txt.mul z i)) H
theorem op_mulS {X : Cx} : OpR X (binaryOp .Mult) rMulS := by
  intro pins s σ H x y v u Q I rx ry h
  obtain ⟨z, i, rfl, rfl, hc, q⟩ := h
  obtain ⟨t, rfl⟩ := rx
  obtain ⟨t', rfl⟩ := ry
  exact SB.mul hc fun t' tk => ⟨.str (Txt.mul z i), H, I.tok _, ⟨_, rfl⟩, q⟩
end L2
namespace Ee
open PySem L2
section
variable {X : Vol} {σ : L2.St} {H : Hp} {ta tb te : TE} {d : PyData}
theorem ev_mulS {z : Str} {i : Int} (ha : Ev X ta σ H (vD (.str z))) (hb : Ev X tb σ H (vI i)) (hc : MulOk z i) : Ev X (tOp rMulS ta tb) σ H (vD (.str (Txt.mul z i))) := ev_op2 ha hb fun Y x y H1 e px py Q q => by
  cases px; cases py
  exact ⟨z, i, rfl, rfl, hc, q _ H1 (.refl e.inv) (.str _)⟩
def isNon : PyData → Bool
  | .none => true
  | _ => false
theorem ev_isND (ha : Ev X ta σ H (vD d)) (hb : Ev X tb σ H (vD .none)) : Ev X (tOp rNoneIs ta tb) σ H (vB (isNon d)) := ev_op2 ha hb fun Y x y H1 e px py Q q => by
  cases py
  have hx : decide (x = V.non) = isNon d := by
    cases d <;> cases px <;> first | rfl | exact decide_eq_false fun z => nomatch z
  refine ⟨rfl, ?_⟩
  rw [hx]
  exact q _ H1 (.refl e.inv) (.bl _)
end
/-- a def whose last parameter is None if it is left out -/
structure DfN (CX : CXT) (P : Program) (w : World) (K : PySem.W.Frag) (mg : Str → Option Value) (base : Heap) (k : Nat) (x kw : Str) (ps : List Str) (sp : Sp) : Prop where
  ex : ∃ (g : Addr) (gd : FuncData) (ds : List Value), FnOk P w K mg base CX k g gd ps sp ∧ mg x = some (.ref g) ∧ PySem.W.keepIn K (.ref g) = true ∧ Binds K gd ps ds ∧ Vals [.non] ds ∧ KBn K gd ps (ps.length - 1) [kw] (fun us ws => us ++ ws) (fun vs zs => vs ++ zs)
end Ee

namespace Wb
open PySem L2
def top (i : Nat) : Stmt := PySem.Challenge.pw_turnedties_k21_costs_told.main.body.getD i (.Pass ⟨0, 0, 0, 0⟩)
abbrev s_wall : Stmt := top 0
abbrev s_is_integer : Stmt := top 2
abbrev s_is_between : Stmt := top 3
abbrev s_is_modulus : Stmt := top 20
abbrev s_is_edge : Stmt := top 21
abbrev s_check_edges : Stmt := top 22
abbrev s_grown_forest : Stmt := top 23
abbrev s_ties_of : Stmt := top 24
abbrev s_residue : Stmt := top 26
abbrev s_size_of : Stmt := top 27
abbrev s_is_residue : Stmt := top 28
abbrev s_are_residues : Stmt := top 29
abbrev s_is_potential : Stmt := top 30
abbrev s_check_potential : Stmt := top 32
abbrev s_is_weights : Stmt := top 33
abbrev s_check_weights : Stmt := top 34
abbrev s_cost : Stmt := top 36
abbrev s_rates_of : Stmt := top 37
abbrev s_negated : Stmt := top 39
abbrev s_law_pool : Stmt := top 41
abbrev s_law_take : Stmt := top 42
abbrev s_law_modulus : Stmt := top 43
abbrev s_law_links : Stmt := top 44
abbrev s_law_low : Stmt := top 45
abbrev s_law_number : Stmt := top 46
abbrev s_law_numbers : Stmt := top 47
abbrev s_law_width : Stmt := top 48
abbrev s_law_price : Stmt := top 49
abbrev s_law_heavy : Stmt := top 50
abbrev s_law_error : Stmt := top 51
abbrev s_law : Stmt := top 52
abbrev s_m_init : Stmt := inClass (top 19) 0
abbrev s_m_size : Stmt := inClass (top 19) 1
abbrev s_m_modulus : Stmt := inClass (top 19) 2
abbrev s_m_edges : Stmt := inClass (top 19) 3
abbrev s_m_edge : Stmt := inClass (top 19) 4
abbrev s_m_components : Stmt := inClass (top 19) 5
abbrev s_m_forest : Stmt := inClass (top 19) 6
abbrev s_m_path : Stmt := inClass (top 19) 7
abbrev s_m_cycles : Stmt := inClass (top 19) 8
abbrev s_m_len : Stmt := inClass (top 19) 9
abbrev s_m_eq : Stmt := inClass (top 19) 10
abbrev s_m_repr : Stmt := inClass (top 19) 11
end Wb

namespace Wb
open PySem L2 Ee
/-! ### heaps: all but some addresses as it was -/
def But (l : List Addr) (H H' : Hp) : Prop := ∀ b o, b ∉ l → H b = some o → H' b = some o
theorem But.refl (l : List Addr) (H : Hp) : But l H H := fun _ _ _ h => h
theorem But.trans {l : List Addr} {H H1 H2 : Hp} (a : But l H H1) (b : But l H1 H2) : But l H H2 := fun c o n h => b c o n (a c o n h)
theorem But.of_same {l : List Addr} {H H' : Hp} (a : Same H H') : But l H H' := fun c o _ h => a c o h
theorem But.same {H H' : Hp} (a : But [] H H') : Same H H' := fun c o h => a c o (by simp) h
theorem But.at {l : List Addr} {H H' : Hp} (a : But l H H') {b : Addr} {o : HO} (n : b ∉ l) (h : H b = some o) : H' b = some o := a b o n h
theorem But.upd_in {l : List Addr} {H H' : Hp} {p : Addr} {o : HO} (a : But l H H') (h : p ∈ l) : But l H (upd H' p o) := fun b u n e => by
  rw [upd_ne (fun z => n (by rw [z]; exact h))]
  exact a b u n e
theorem But.new {l : List Addr} {H H' : Hp} {p : Addr} {o : HO} (a : But l H H') (h : H' p = none ∨ H p = none) : But l H (upd H' p o) := fun b u n e => by
  have e' := a b u n e
  rw [upd_ne]
  · exact e'
  · rintro rfl
    rcases h with h | h
    · rw [h] at e'; cases e'
    · rw [h] at e; cases e
theorem same_new {H H' : Hp} {p : Addr} {o : HO} (a : Same H H') (h : H' p = none ∨ H p = none) : Same H (upd H' p o) := fun b u e => by
  have e' := a b u e
  rw [upd_ne]
  · exact e'
  · rintro rfl
    rcases h with h | h
    · rw [h] at e'; cases e'
    · rw [h] at e; cases e
theorem But.free {l : List Addr} {H H' : Hp} (e : But l H H') {b : Addr} (n : b ∉ l) (h : H' b = none) : H b = none := by
  cases q : H b with
  | none => rfl
  | some o => rw [e b o n q] at h; cases h

/-! ### what is_integer says of a value's type -/
def IntB (K : PySem.W.Frag) (t : Value) (b : Bool) : Prop := ∃ b1, PySem.W.kitOne K t (.type "int") = some b1 ∧ (b1 = false → b = false) ∧ (b1 = true → ∃ b2, PySem.W.kitOne K t (.type "bool") = some b2 ∧ b = !b2)
theorem intB_int {K : PySem.W.Frag} : IntB K (.type "int") true := ⟨true, kit_ty (by decide +kernel), (fun h => nomatch h), (fun _ => ⟨false, kit_ty (by decide +kernel), rfl⟩)⟩

/-- the built-in names that stand for themselves -/
structure Bn (mg : Str → Option Value) : Prop where
  len : mg "len" = none
  range : mg "range" = none
  list : mg "list" = none
  min : mg "min" = none
  max : mg "max" = none
  enumerate : mg "enumerate" = none
  isinstance : mg "isinstance" = none
  int : mg "int" = none
  bool : mg "bool" = none
  tuple : mg "tuple" = none
  all : mg "all" = none
  zip : mg "zip" = none
  sum : mg "sum" = none
  abs : mg "abs" = none
  sorted : mg "sorted" = none
  dict : mg "dict" = none
  any : mg "any" = none
  str : mg "str" = none
  set : mg "set" = none
  repr : mg "repr" = none

def spInt (K : PySem.W.Frag) : Sp := fun vs H Q _ => ∃ x t b, vs = [x] ∧ TyX K H x t ∧ IntB K t b ∧ Q (.bl b) H
/-- thing, low, high -/
def spBetween (K : PySem.W.Frag) : Sp := fun vs H Q _ => ∃ (x : V) (lo hi : Int) (t : Value) (b : Bool), vs = [x, .int lo, .int hi] ∧ TyX K H x t ∧ IntB K t b ∧ (b = false → Q (.bl false) H) ∧ (b = true → ∃ i, x = .int i ∧ Q (.bl (decide (lo ≤ i ∧ i ≤ hi))) H)

section
variable {P : Program} {w : World} {K : PySem.W.Frag} {mg : Str → Option Value} {base : Heap}
theorem sc_is_integer : FnScope ["thing"] ["thing"] (defScope s_is_integer) := ⟨rfl, rfl, rfl, by decide +kernel, rfl, by decide +kernel, by decide +kernel⟩
theorem ok_isint {f : Addr} {fd : FuncData} (F : Fun K "is_integer" "is_integer" s_is_integer f fd) (B : Bn mg) : FnOk P w K mg base CX0 1 f fd ["thing"] (spInt K) := by
  refine F.ok sc_is_integer (fun vs H Q E h => ?_) (fun cdv A outer s H vs Q E hr h => ?_)
  · obtain ⟨x, t, b, rfl, _⟩ := h
    rfl
  · obtain ⟨x, t, b, rfl, hty, ⟨b1, h1, hf, ht⟩, q⟩ := h
    refine ⟨_, pss_one (ps_ret (pe_and (pe_callB call_isi (by rfl) B.isinstance (by decide +kernel) (pa_cons (pv 0) (pa_cons (pe_bltn (v := .ty "int") (by rfl) B.int (by decide +kernel) rfl) pa_nil)))
      (pe_one (pe_not (pe_callB call_isi (by rfl) B.isinstance (by decide +kernel) (pa_cons (pv 0) (pa_cons (pe_bltn (v := .ty "bool") (by rfl) B.bool (by decide +kernel) rfl) pa_nil))))))), ?_⟩
    refine ⟨_, rfl, _, _, _, _, _, rfl, .ty _, hty, h1, _, rfl, ?_⟩
    cases b1 with
    | false =>
      refine iteF ?_
      rw [hf rfl] at q
      exact q
    | true =>
      obtain ⟨b2, h2, rfl⟩ := ht rfl
      refine iteT ?_
      exact ⟨_, rfl, _, _, _, _, _, rfl, .ty _, hty, h2, _, rfl, q⟩
theorem sc_is_between : FnScope ["thing", "low", "high"] ["thing", "low", "high"] (defScope s_is_between) := ⟨rfl, rfl, rfl, by decide +kernel, rfl, by decide +kernel, by decide +kernel⟩
theorem ok_between {f g : Addr} {fd gd : FuncData} (F : Fun K "is_between" "is_between" s_is_between f fd) (G : FnOk P w K mg base CX0 1 g gd ["thing"] (spInt K)) (mgG : mg "is_integer" = some (.ref g)) (kG : PySem.W.keepIn K (.ref g) = true) (bG : Binds K gd ["thing"] []) :
    FnOk P w K mg base CX0 2 f fd ["thing", "low", "high"] (spBetween K) := by
  refine F.ok sc_is_between (fun vs H Q E h => ?_) (fun cdv A outer s H vs Q E hr h => ?_)
  · obtain ⟨x, lo, hi, t, b, rfl, _⟩ := h
    rfl
  · obtain ⟨x, lo, hi, t, b, rfl, hty, hb, hf, ht⟩ := h
    refine ⟨_, pss_one (ps_ret (pe_and (pe_call G hr rfl mgG kG bG .nil pass0 (pa_cons (pv 0) pa_nil)) (pe_one (pe_chain op_le op_le (pv 1) (pv 0) (pv 2))))), ?_⟩
    refine ⟨_, rfl, x, t, b, rfl, hty, hb, b, rfl, ?_⟩
    cases b with
    | false => exact iteF (hf rfl)
    | true =>
      obtain ⟨i, rfl, q⟩ := ht rfl
      refine iteT ⟨_, rfl, _, rfl, _, _, rfl, rfl, _, rfl, ?_⟩
      refine ite2 (fun h1 => ?_) (fun h1 => ?_)
      · refine ⟨_, rfl, _, _, rfl, rfl, ?_⟩
        have h1' : lo ≤ i := of_decide_eq_true h1
        have e : decide (lo ≤ i ∧ i ≤ hi) = decide (i ≤ hi) := by
          by_cases h2 : i ≤ hi
          · rw [decide_eq_true h2, decide_eq_true ⟨h1', h2⟩]
          · rw [decide_eq_false h2, decide_eq_false fun z => h2 z.2]
        rw [e] at q
        exact q
      · have h1' : ¬ lo ≤ i := fun z => h1 (decide_eq_true z)
        rw [decide_eq_false fun z => h1' z.1] at q
        exact q
end
end Wb

namespace Wb
open PySem L2 Ee
/-! ### the law's own drawing -/
def spPool (K : PySem.W.Frag) : Sp := fun vs H Q _ => ∃ (a : Addr) (ns : List Int) (k : Int), vs = [.ref a, .int k] ∧ SqL K H a (ns.map V.int) ∧ ns.length ≤ 63 ∧ 0 ≤ k ∧ k ≤ 63 ∧
  ∀ H' p, Same H H' → H p = none → PoolAt H' p → Q (.ref p) H'
def spTake : Sp := fun vs H Q _ => ∃ (p : Addr) (k : Int), vs = [.ref p, .int k] ∧ PoolAt H p ∧ 0 < k ∧ k ≤ 10 ^ 18 ∧
  ∀ H' r, But [p] H H' → PoolAt H' p → 0 ≤ r → r < k → Q (.int r) H'
def spModulus : Sp := fun vs H Q _ => ∃ (p : Addr), vs = [.ref p] ∧ PoolAt H p ∧
  ∀ H' m, But [p] H H' → PoolAt H' p → m ∈ ([0, 2, 3, 4, 5, 12, 60] : List Int) → Q (.int m) H'
/-- a list of pairs lies at a -/
def PairsAt (H : Hp) (ts : List Addr) (ps : List (Nat × Nat)) : Prop := ts.length = ps.length ∧ ∀ (i : Nat) (t : Addr) (p : Nat × Nat), ts[i]? = some t → ps[i]? = some p → H t = some (.tup [.int p.1, .int p.2])
def EdgesAt (H : Hp) (a : Addr) (ts : List Addr) (ps : List (Nat × Nat)) : Prop := H a = some (.lst (ts.map V.ref)) ∧ PairsAt H ts ps
theorem PairsAt.same {H H' : Hp} {ts : List Addr} {ps : List (Nat × Nat)} (h : PairsAt H ts ps) (s : Same H H') : PairsAt H' ts ps := ⟨h.1, fun i t p a b => s _ _ (h.2 i t p a b)⟩
theorem PairsAt.but {l : List Addr} {H H' : Hp} {ts : List Addr} {ps : List (Nat × Nat)} (h : PairsAt H ts ps) (s : But l H H') (n : ∀ b ∈ l, ∀ xs, H b ≠ some (.tup xs)) : PairsAt H' ts ps :=
  ⟨h.1, fun i t p a b => s _ _ (fun z => n t z _ (h.2 i t p a b)) (h.2 i t p a b)⟩
theorem PairsAt.snoc {H H' : Hp} {ts : List Addr} {ps : List (Nat × Nat)} {t : Addr} {p : Nat × Nat} (h : PairsAt H ts ps) (s : Same H H') (ht : H' t = some (.tup [.int p.1, .int p.2])) : PairsAt H' (ts ++ [t]) (ps ++ [p]) := by
  refine ⟨by simp [h.1], fun i u q a b => ?_⟩
  by_cases hi : i < ts.length
  · rw [List.getElem?_append_left hi] at a
    rw [List.getElem?_append_left (by rw [← h.1]; exact hi)] at b
    exact s _ _ (h.2 i u q a b)
  · have e : i = ts.length := by
      have := (List.getElem?_eq_some_iff.mp a).1
      simp at this
      omega
    subst e
    rw [List.getElem?_append_right (Nat.le_refl _)] at a
    rw [h.1, List.getElem?_append_right (Nat.le_refl _)] at b
    simp at a b
    subst a b
    exact ht
/-- many links, all in the pool's own heap's future -/
def spLinks : Sp := fun vs H Q _ => ∃ (p : Addr) (n m : Nat), vs = [.ref p, .int n, .int m] ∧ PoolAt H p ∧ 0 < n ∧ n ≤ 30 ∧ m ≤ 60 ∧
  ∀ H' a ts ps, But [p] H H' → PoolAt H' p → H a = none → (∀ t ∈ ts, H t = none) → EdgesAt H' a ts ps → Within n ps → ps.length ≤ m → Q (.ref a) H'
theorem _root_.Ee.PoolAt.nl {H : Hp} {p : Addr} (h : PoolAt H p) : ∃ xs, H p = some (.lst xs) := let ⟨_, _, h, _⟩ := h; ⟨_, h⟩

section
variable {P : Program} {w : World} {K : PySem.W.Frag} {mg : Str → Option Value} {base : Heap}
theorem sc_law_pool : FnScope ["_law_script", "_law_k", "_law_cell", "_law_seed"] ["_law_script", "_law_k"] (defScope s_law_pool) := ⟨rfl, rfl, rfl, by decide +kernel, rfl, by decide +kernel, by decide +kernel⟩
theorem ok_pool {f : Addr} {fd : FuncData} (F : Fun K "_law_pool" "_law_pool" s_law_pool f fd) (B : Bn mg) : FnOk P w K mg base CX0 1 f fd ["_law_script", "_law_k"] (spPool K) := by
  refine F.ok sc_law_pool (fun vs H Q E h => ?_) (fun cdv A outer s H vs Q E hr h => ?_)
  · obtain ⟨a, ns, k, rfl, _⟩ := h
    rfl
  · obtain ⟨a, ns, k, rfl, hS, hl, k0, k1, q⟩ := h
    refine ⟨_, pss_cons (ps_set (i := 2) sc_law_pool.nd rfl (Or.inl rfl) pe_int)
      (pss_cons (ps_if (pt_cmpR op_lt (pv 1) (pe_callB call_len_seq (by rfl) B.len PySem.boot_len (pa_cons (pv 0) pa_nil)) (nomark _)) (pss_one (ps_set (i := 2) sc_law_pool.nd rfl (Or.inl rfl) (pe_ix ix_list (pv 0) (pv 1) (fun _ _ => rfl)))) pss_nil)
      (pss_cons (ps_set (i := 3) sc_law_pool.nd rfl (Or.inl rfl) (pe_op op_mod (pe_op op_mul (pe_op op_add (pe_op op_add (pe_op op_mod (pv 2) pe_int) (pe_op op_mul (pe_op op_mul pe_int (pv 1)) (pv 1))) pe_int) pe_int) pe_int))
      (pss_cons (ps_if (pt_cmpR op_lt (pv 2) (pe_op op_pow pe_int pe_int) (nomark _)) (pss_one (ps_set (i := 2) sc_law_pool.nd rfl (Or.inl rfl) pe_int)) pss_nil)
      (pss_one (ps_ret (pe_lst (pa_cons (pv 2) (pa_cons (pe_op op_add (pe_op op_mod (pe_op op_mul (pv 3) (pv 3)) pe_int) pe_int) pa_nil)))))))), ?_⟩
    -- behind the first if: any cell
    have rest : ∀ c : Int, tSeq (tAsg (tOp (rI (fun _ j => 0 < j) fun i j => .int (i % j)) (tOp (rI CMul fun i j => .int (i * j)) (tOp (rI0 fun i j => .int (i + j)) (tOp (rI0 fun i j => .int (i + j)) (tOp (rI (fun _ j => 0 < j) fun i j => .int (i % j)) (tVar 2) (tC (.int 2147483629)))
        (tOp (rI CMul fun i j => .int (i * j)) (tOp (rI CMul fun i j => .int (i * j)) (tC (.int 7919)) (tVar 1)) (tVar 1))) (tC (.int 13))) (tC (.int 48271))) (tC (.int 2147483647))) (gName 3))
        (tSeq (tIfS (tTest (tOp (rI0 fun i j => .bl (decide (i < j))) (tVar 2) (tOp (rI CPow fun i j => .int (i ^ j.toNat)) (tC (.int 10)) (tC (.int 18))))) (tAsg (tC (.int 0)) (gName 2)) tNext)
          (tRet (tLst (tCons (tVar 2) (tCons (tOp (rI0 fun i j => .int (i + j)) (tOp (rI (fun _ j => 0 < j) fun i j => .int (i % j)) (tOp (rI CMul fun i j => .int (i * j)) (tVar 3) (tVar 3)) (tC (.int 2147483587))) (tC (.int 1))) tNil)))))
        { nx := fun _ H' => Q .non H', rt := Q } [some (.ref a), some (.int k), some (.int c), none] H := by
      intro c
      have b1 : 0 ≤ c % 2147483629 ∧ c % 2147483629 < 2147483629 := ⟨Int.emod_nonneg _ (by decide), Int.emod_lt_of_pos _ (by decide)⟩
      have b2 : 0 ≤ 7919 * k * k ∧ 7919 * k * k ≤ 7919 * 63 * 63 := by
        have h1 : 0 ≤ 7919 * k := by omega
        have h2 : 7919 * k ≤ 7919 * 63 := by omega
        exact ⟨Int.mul_nonneg h1 k0, Int.mul_le_mul h2 k1 k0 (by decide)⟩
      refine ⟨_, rfl, _, _, rfl, rfl, (by show (0 : Int) < 2147483629; decide), _, rfl, _, _, rfl, rfl, .inl ⟨by decide, by decide⟩, _, rfl, _, _, rfl, rfl, .inl ⟨by omega, by omega⟩, _, _, rfl, rfl, _, _, rfl, rfl, _, _, rfl, rfl, .inr ⟨by decide, by decide⟩, _, _, rfl, rfl, (by show (0 : Int) < 2147483647; decide), ?_⟩
      refine ⟨_, rfl, _, _, rfl, rfl, ⟨by decide, by decide, by decide⟩, _, _, rfl, rfl, _, rfl, ?_⟩
      have fin : ∀ c' sd : Int, 0 ≤ sd → sd < 2147483647 → (tRet (tLst (tCons (tVar 2) (tCons (tOp (rI0 fun i j => .int (i + j)) (tOp (rI (fun _ j => 0 < j) fun i j => .int (i % j)) (tOp (rI CMul fun i j => .int (i * j)) (tVar 3) (tVar 3)) (tC (.int 2147483587))) (tC (.int 1))) tNil)))) { nx := fun _ H' => Q .non H', rt := Q } [some (.ref a), some (.int k), some (.int c'), some (.int sd)] H := by
        intro c' sd h0 h1
        refine ⟨_, rfl, _, rfl, _, rfl, _, _, rfl, rfl, .inl ⟨by omega, by omega⟩, _, _, rfl, rfl, (by show (0 : Int) < 2147483587; decide), _, _, rfl, rfl, (by show 2 ≤ sizeLine; decide), fun p hp => ?_⟩
        have b4 : 0 ≤ sd * sd % 2147483587 ∧ sd * sd % 2147483587 < 2147483587 := ⟨Int.emod_nonneg _ (by decide), Int.emod_lt_of_pos _ (by decide)⟩
        exact q _ p (same_new (Same.refl H) (.inl hp)) hp ⟨_, _, upd_same, by omega, by omega⟩
      refine ite2 (fun _ => ?_) (fun _ => ?_)
      · exact fin 0 _ (Int.emod_nonneg _ (by decide)) (Int.emod_lt_of_pos _ (by decide))
      · exact fin c _ (Int.emod_nonneg _ (by decide)) (Int.emod_lt_of_pos _ (by decide))
    refine ⟨_, rfl, _, rfl, a, _, rfl, .inl hS, _, _, rfl, rfl, _, rfl, ?_⟩
    refine ite2 (fun h => ?_) (fun h => ?_)
    · have hlt : k < ((ns.map V.int).length : Int) := of_decide_eq_true h
      rw [List.length_map] at hlt
      obtain ⟨j, rfl⟩ : ∃ j : Nat, k = (j : Int) := ⟨k.toNat, (Int.toNat_of_nonneg k0).symm⟩
      have hj : j < ns.length := by omega
      exact ⟨_, rfl, _, rfl, a, _, _, .int ns[j], rfl, rfl, hS, atI_nat (by rw [List.getElem?_map, List.getElem?_eq_getElem hj]; rfl), rest ns[j]⟩
    · exact rest 0
theorem sc_law_take : FnScope ["_law_pool_here", "_law_sides", "_law_found"] ["_law_pool_here", "_law_sides"] (defScope s_law_take) := ⟨rfl, rfl, rfl, by decide +kernel, rfl, by decide +kernel, by decide +kernel⟩
theorem ok_take {f : Addr} {fd : FuncData} (F : Fun K "_law_take" "_law_take" s_law_take f fd) : FnOk P w K mg base CX0 1 f fd ["_law_pool_here", "_law_sides"] spTake := by
  refine F.ok sc_law_take (fun vs H Q E h => ?_) (fun cdv A outer s H vs Q E hr h => ?_)
  · obtain ⟨p, k, rfl, _⟩ := h
    rfl
  · obtain ⟨p, k, rfl, ⟨a, b, hp, b0, b1⟩, k0, k1, q⟩ := h
    refine ⟨_, pss_cons (ps_if (pt_cmpR op_gt (pe_ix ix_list (pv 0) pe_int (fun _ _ => rfl)) pe_int (nomark _))
        (pss_cons (ps_set (i := 2) sc_law_take.nd rfl (Or.inl rfl) (pe_op op_mod (pe_ix ix_list (pv 0) pe_int (fun _ _ => rfl)) (pv 1)))
        (pss_cons (ps_asg (pe_op op_fdivW (pe_ix ix_list (pv 0) pe_int (fun _ _ => rfl)) (pv 1)) (pg_sub (pv 0) pe_int set_list)) (pss_one (ps_ret (pv 2))))) pss_nil)
      (pss_cons (ps_asg (pe_op op_mod (pe_op op_add (pe_op op_mul (pe_ix ix_list (pv 0) pe_int (fun _ _ => rfl)) pe_int) pe_int) pe_int) (pg_sub (pv 0) pe_int set_list))
      (pss_one (ps_ret (pe_op op_mod (pe_op op_fdiv (pe_op op_mod (pe_op op_mul (pe_ix ix_list (pv 0) pe_int (fun _ _ => rfl)) (pe_ix ix_list (pv 0) pe_int (fun _ _ => rfl))) pe_int) pe_int) (pv 1))))), ?_⟩
    refine ⟨_, rfl, p, _, _, .int a, rfl, rfl, SqL.of hp, rfl, _, _, rfl, rfl, _, rfl, ?_⟩
    refine ite2 (fun _ => ?_) (fun _ => ?_)
    · refine ⟨_, rfl, p, _, _, .int a, rfl, rfl, SqL.of hp, rfl, _, rfl, _, _, rfl, rfl, k0, ?_⟩
      refine ⟨_, rfl, p, _, _, .int a, rfl, rfl, SqL.of hp, rfl, _, rfl, _, _, rfl, rfl, wide_div (b := 60) k0 (by omega) (by decide) (by decide), ?_⟩
      refine ⟨_, rfl, p, _, _, 0, rfl, rfl, hp, rfl, ?_⟩
      exact ⟨_, rfl, q _ _ ((But.refl _ H).upd_in (by simp)) ⟨_, _, upd_same, b0, b1⟩ (Int.emod_nonneg _ (by omega)) (Int.emod_lt_of_pos _ k0)⟩
    · refine ⟨_, rfl, p, _, _, .int b, rfl, rfl, SqL.of hp, rfl, _, _, rfl, rfl, .inl ⟨by omega, by omega⟩, _, _, rfl, rfl, _, _, rfl, rfl, (by show (0 : Int) < 2147483647; decide), ?_⟩
      refine ⟨_, rfl, p, _, _, 1, rfl, rfl, hp, rfl, ?_⟩
      have b3 : 0 ≤ (b * 48271 + 11) % 2147483647 ∧ (b * 48271 + 11) % 2147483647 < 2147483647 := ⟨Int.emod_nonneg _ (by decide), Int.emod_lt_of_pos _ (by decide)⟩
      have hp2 : upd H p (.lst ([.int a, .int b].set 1 (.int ((b * 48271 + 11) % 2147483647)))) p = some (.lst [.int a, .int ((b * 48271 + 11) % 2147483647)]) := upd_same
      refine ⟨_, rfl, p, _, _, .int ((b * 48271 + 11) % 2147483647), rfl, rfl, SqL.of hp2, rfl, _, rfl, p, _, _, .int ((b * 48271 + 11) % 2147483647), rfl, rfl, SqL.of hp2, rfl, _, _, rfl, rfl, .inl ⟨by omega, by omega⟩, _, _, rfl, rfl, (by show (0 : Int) < 2147483629; decide),
        _, _, rfl, rfl, ⟨by decide, by decide⟩, _, rfl, _, _, rfl, rfl, k0, ?_⟩
      exact q _ _ ((But.refl _ H).upd_in (by simp)) ⟨_, _, hp2, b3.1, by omega⟩ (Int.emod_nonneg _ (by omega)) (Int.emod_lt_of_pos _ k0)
end
end Wb

namespace Wb
open PySem L2 Ee
theorem at_moduli {r : Int} (h0 : 0 ≤ r) (h1 : r < 8) : ∃ m : Int, m ∈ ([0, 2, 3, 4, 5, 12, 60] : List Int) ∧ atI ([.int 0, .int 0, .int 2, .int 3, .int 4, .int 5, .int 12, .int 60] : List V) r = some (.int m) := by
  have e : r = 0 ∨ r = 1 ∨ r = 2 ∨ r = 3 ∨ r = 4 ∨ r = 5 ∨ r = 6 ∨ r = 7 := by omega
  rcases e with rfl | rfl | rfl | rfl | rfl | rfl | rfl | rfl
  · exact ⟨0, by decide, rfl⟩
  · exact ⟨0, by decide, rfl⟩
  · exact ⟨2, by decide, rfl⟩
  · exact ⟨3, by decide, rfl⟩
  · exact ⟨4, by decide, rfl⟩
  · exact ⟨5, by decide, rfl⟩
  · exact ⟨12, by decide, rfl⟩
  · exact ⟨60, by decide, rfl⟩
theorem _root_.Ee.PoolAt.new {H : Hp} {p l : Addr} {o : HO} (h : PoolAt H p) (n : H l = none) : PoolAt (upd H l o) p := by
  obtain ⟨a, b, hp, b0, b1⟩ := h
  exact ⟨a, b, by rw [upd_ne (ne_of_none hp n)]; exact hp, b0, b1⟩
theorem _root_.Ee.PoolAt.notup {H : Hp} {p : Addr} (h : PoolAt H p) : ∀ b ∈ [p], ∀ xs, H b ≠ some (.tup xs) := fun b hb xs e => by
  obtain ⟨_, _, hp, _⟩ := h
  have e' : b = p := by simpa using hb
  subst e'
  rw [hp] at e
  cases e
theorem _root_.Ee.PoolAt.ne {H : Hp} {p l : Addr} (h : PoolAt H p) (n : H l = none) : l ∉ [p] := fun hl => by
  obtain ⟨_, _, hp, _⟩ := h
  have e' : l = p := by simpa using hl
  subst e'
  rw [hp] at n
  cases n
section
variable {P : Program} {w : World} {K : PySem.W.Frag} {mg : Str → Option Value} {base : Heap}
theorem sc_law_modulus : FnScope ["_law_pool_here"] ["_law_pool_here"] (defScope s_law_modulus) := ⟨rfl, rfl, rfl, by decide +kernel, rfl, by decide +kernel, by decide +kernel⟩
theorem ok_modulus {f g : Addr} {fd gd : FuncData} (F : Fun K "_law_modulus" "_law_modulus" s_law_modulus f fd) (G : FnOk P w K mg base CX0 1 g gd ["_law_pool_here", "_law_sides"] spTake) (mgG : mg "_law_take" = some (.ref g)) (kG : PySem.W.keepIn K (.ref g) = true) (bG : Binds K gd ["_law_pool_here", "_law_sides"] []) :
    FnOk P w K mg base CX0 2 f fd ["_law_pool_here"] spModulus := by
  refine F.ok sc_law_modulus (fun vs H Q E h => ?_) (fun cdv A outer s H vs Q E hr h => ?_)
  · obtain ⟨p, rfl, _⟩ := h
    rfl
  · obtain ⟨p, rfl, hp, q⟩ := h
    refine ⟨_, pss_one (ps_ret (pe_ix ix_list (pe_lst (pa_cons pe_int (pa_cons pe_int (pa_cons pe_int (pa_cons pe_int (pa_cons pe_int (pa_cons pe_int (pa_cons pe_int (pa_cons pe_int pa_nil)))))))))
      (pe_call G hr rfl mgG kG bG .nil pass0 (pa_cons (pv 0) (pa_cons pe_int pa_nil))) (fun _ _ => rfl))), ?_⟩
    refine ⟨(by show 8 ≤ sizeLine; decide), fun l hl => ⟨_, rfl, p, 8, rfl, hp.new hl, by decide, by decide, fun H' r hb hp' r0 r1 => ?_⟩⟩
    obtain ⟨m, hm, hat⟩ := at_moduli r0 r1
    refine ⟨l, _, r, .int m, rfl, rfl, SqL.of (hb.at (hp.ne hl) upd_same), hat, ?_⟩
    exact q _ _ (((But.refl _ H).new (.inl hl)).trans hb) hp' hm
theorem sc_law_links : FnScope ["_law_pool_here", "_law_nodes", "_law_most", "_law_found", "_law_turn"] ["_law_pool_here", "_law_nodes", "_law_most"] (defScope s_law_links) := ⟨rfl, rfl, rfl, by decide +kernel, rfl, by decide +kernel, by decide +kernel⟩
theorem ok_links {f g : Addr} {fd gd : FuncData} (F : Fun K "_law_links" "_law_links" s_law_links f fd) (B : Bn mg) (G : FnOk P w K mg base CX0 1 g gd ["_law_pool_here", "_law_sides"] spTake) (mgG : mg "_law_take" = some (.ref g)) (kG : PySem.W.keepIn K (.ref g) = true) (bG : Binds K gd ["_law_pool_here", "_law_sides"] []) :
    FnOk P w K mg base CX0 2 f fd ["_law_pool_here", "_law_nodes", "_law_most"] spLinks := by
  refine F.ok sc_law_links (fun vs H Q E h => ?_) (fun cdv A outer s H vs Q E hr h => ?_)
  · obtain ⟨p, n, m, rfl, _⟩ := h
    rfl
  · obtain ⟨p, n, m, rfl, hp, n0, n1, m1, q⟩ := h
    refine ⟨_, pss_cons (ps_set (i := 3) sc_law_links.nd rfl (Or.inl rfl) (pe_lst pa_nil))
      (pss_cons (ps_for PassesOwn.never rfl (pi_range1 rfl B.range (pa_cons (pe_call G hr rfl mgG kG bG .nil pass0 (pa_cons (pv 0) (pa_cons (pe_op op_add (pv 2) pe_int) pa_nil))) pa_nil)) (pg_name (i := 4) sc_law_links.nd rfl (Or.inl rfl))
        (pss_one (ps_expr (pe_bm PySem.F.plainAttrs_list PySem.F.slot_list_append PySem.F.type_list_append mt_append (pv 3) (pa_cons (pe_tup (pa_cons (pe_call G hr rfl mgG kG bG .nil pass0 (pa_cons (pv 0) (pa_cons (pv 1) pa_nil)))
          (pa_cons (pe_call G hr rfl mgG kG bG .nil pass0 (pa_cons (pv 0) (pa_cons (pv 1) pa_nil))) pa_nil))) pa_nil)))))
      (pss_one (ps_ret (pv 3)))), ?_⟩
    refine ⟨Nat.zero_le _, fun l hl => ?_⟩
    have nlp := hp.ne hl
    refine ⟨_, rfl, _, rfl, _, _, rfl, rfl, p, (m : Int) + 1, rfl, hp.new hl, by omega, by omega, fun H1 r hb1 hp1 r0 r1 => ?_⟩
    have hb1' : But [p] H H1 := ((But.refl _ H).new (.inl hl)).trans hb1
    refine ⟨r, rfl, by omega, by omega, for_range (lo := 0) (n := r.toNat) (fun i σ H' => ∃ ts ps v, σ = [some (.ref p), some (.int n), some (.int m), some (.ref l), v] ∧ But [p] H H' ∧ PoolAt H' p ∧ EdgesAt H' l ts ps ∧ Within n ps ∧ ps.length = i ∧ ∀ t ∈ ts, H t = none)
      ⟨[], [], none, rfl, hb1', hp1, ⟨hb1.at nlp upd_same, rfl, fun i t p a => by simp at a⟩, fun e he => by simp at he, rfl, fun t ht => by simp at ht⟩ ?_ ?_⟩
    · rintro i σ H2 hi ⟨ts, ps, v, rfl, hb2, hp2, ⟨hl2, hps2⟩, hw2, hlen2, hfr⟩
      refine ⟨_, rfl, .inl ⟨rfl, _, SqL.of hl2⟩, ?_⟩
      refine ⟨_, rfl, _, rfl, p, (n : Int), rfl, hp2, by omega, by omega, fun H3 a hb3 hp3 a0 a1 => ?_⟩
      refine ⟨_, rfl, _, rfl, p, (n : Int), rfl, hp3, by omega, by omega, fun H4 b hb4 hp4 c0 c1 => ?_⟩
      refine ⟨(by show 2 ≤ sizeLine; decide), fun t ht => ?_⟩
      have hb24 : But [p] H2 H4 := hb3.trans hb4
      have hl4 := hb24.at nlp hl2
      refine ⟨l, _, _, rfl, rfl, (by rw [upd_ne (ne_of_none hl4 ht)]; exact hl4), ?_, ?_⟩
      · rw [List.length_map, hps2.1, hlen2]
        have h9 : i ≤ 60 := by omega
        exact Nat.lt_of_le_of_lt h9 (by decide)
      · obtain ⟨a', rfl⟩ : ∃ j : Nat, a = (j : Int) := ⟨a.toNat, (Int.toNat_of_nonneg a0).symm⟩
        obtain ⟨b', rfl⟩ : ∃ j : Nat, b = (j : Int) := ⟨b.toNat, (Int.toNat_of_nonneg c0).symm⟩
        have ntl : t ≠ l := (ne_of_none hl4 ht).symm
        have hps4 : PairsAt H4 ts ps := hps2.but hb24 hp2.notup
        refine ⟨ts ++ [t], ps ++ [(a', b')], _, rfl, ?_, ?_, ⟨?_, ?_⟩, ?_, by simp [hlen2], fun u hu => by
          rcases List.mem_append.mp hu with hu | hu
          · exact hfr u hu
          · have e : u = t := by simpa using hu
            subst e
            exact (hb2.trans hb24).free (hp4.ne ht) ht⟩
        · exact ((hb2.trans hb24).new (.inl ht)).new (.inr hl)
        · obtain ⟨x, y, e, y0, y1⟩ := hp4
          refine ⟨x, y, ?_, y0, y1⟩
          have npl : p ≠ l := fun z => nlp (by simp [z])
          rw [upd_ne npl, upd_ne (ne_of_none e ht)]
          exact e
        · rw [upd_same]
          simp
        · have s1 : Same H4 (upd H4 t (.tup [.int (a' : Int), .int (b' : Int)])) := same_new (Same.refl _) (.inl ht)
          have h5 : PairsAt (upd H4 t (.tup [.int (a' : Int), .int (b' : Int)])) (ts ++ [t]) (ps ++ [(a', b')]) := hps4.snoc s1 upd_same
          refine ⟨h5.1, fun i u pr e1 e2 => ?_⟩
          have h6 := h5.2 i u pr e1 e2
          have nul : u ≠ l := by
            rintro rfl
            rw [upd_ne ntl.symm, hl4] at h6
            cases h6
          rw [upd_ne nul]
          exact h6
        · intro e he
          rcases List.mem_append.mp he with he | he
          · exact hw2 e he
          · have e' : e = (a', b') := by simpa using he
            subst e'
            exact ⟨by show a' < n; omega, by show b' < n; omega⟩
    · rintro σ H2 ⟨ts, ps, v, rfl, hb2, hp2, hE, hw2, hlen2, hfr⟩
      exact ⟨_, rfl, q H2 l ts ps hb2 hp2 hl hfr hE hw2 (by omega)⟩
end
end Wb

namespace Wb
open PySem L2 Ee
/-! ### targets and walks that the layer lacks -/
/-- o.f as a target -/
def gAttr (K : PySem.W.Frag) (to : TE) (f : Str) : TG := fun v σ H Q => to σ H fun x H1 => ∃ a C dx fs, x = .ref a ∧ H1 a = some (.ins C dx fs) ∧ Cls K C ∧ NoAttr K C f ∧ fs.length < 1000 ∧ Q σ (upd H1 a (.ins C dx (putF f v fs)))
theorem pg_attr {X : Cx} {o : Expr} {f : Str} {pos : Pos} {to : TE} (ho : PE X o to) : PG X (.Attribute o f pos) (gAttr X.K to f) := by
  refine ⟨fun pins s σ H v u Q I r h => ?_⟩
  rw [assign_Attribute]
  refine wpAny_bind (wpAny_holding (thn (ho.run pins s σ H _ I h) fun ov s1 ⟨x, H1, I1, r1, a, C, dx, fs, ex, ea, c, n, l, q⟩ => ?_))
  subst ex
  obtain rfl : ov = Value.ref a := r1
  exact wpAny_bind (wpAny_standAt (wpAny_bind (wpAny_holding (setattr_ok I1 ea c n l r fun s2 I2 => wpAny_release ⟨σ, _, I2, q⟩))))
/-- for .. in enumerate(list) -/
theorem for_enum {K : PySem.W.Frag} {a : Addr} {xs : List V} {g : TG} {tb : TS} {D : Ends} {σ : L2.St} {H : Hp} (Pv : Nat → L2.St → Hp → Prop) (h0 : Pv 0 σ H) (hl : ∀ i σ H, i ≤ xs.length → Pv i σ H → SqL K H a xs)
    (hs : ∀ i x T σ H, xs[i]? = some x → Pv i σ H → H T = none → g (.ref T) σ (upd H T (.tup [.int (i : Nat), x])) fun σ2 H2 => tb { D with nx := Pv (i + 1), ct := Pv (i + 1), bk := D.nx } σ2 H2) (hd : ∀ σ H, Pv xs.length σ H → D.nx σ H) :
    ∃ W : Nat → Nat → L2.St → Hp → Prop, (∃ m, W 0 m σ H) ∧ ∀ i m σ H, W i m σ H →
      ((Ite K a).stop i H ∧ D.nx σ H) ∨ ((Ite K a).go i H ∧ ∃ N : L2.St → Hp → Prop, (∀ σ' H', N σ' H' → ∃ m', m' < m ∧ W (i + 1) m' σ' H') ∧ ∀ x H', (Ite K a).yld i H x H' → g x σ H' fun σ2 H2 => tb { D with nx := N, ct := N, bk := D.nx } σ2 H2) := by
  refine ⟨fun i m σ H => m = xs.length - i ∧ i ≤ xs.length ∧ Pv i σ H, ⟨xs.length, by simp, Nat.zero_le _, h0⟩, ?_⟩
  rintro i m σ H ⟨rfl, hi, p⟩
  have q := hl i σ H hi p
  by_cases hlt : i < xs.length
  · refine .inr ⟨⟨xs, xs[i], q, by simp [hlt]⟩, Pv (i + 1), fun σ' H' p' => ⟨xs.length - (i + 1), by omega, rfl, hlt, p'⟩, fun x H' y => ?_⟩
    obtain ⟨T, z, rfl, hT, rfl, y⟩ := y
    exact hs i z T σ H (y xs q) p hT
  · have e : i = xs.length := by omega
    subst e
    exact .inl ⟨⟨xs, q, Nat.le_refl _⟩, hd σ H p⟩
/-! ### types of values under more heap -/
theorem tyX_same {K : PySem.W.Frag} {H H' : Hp} {x : V} {t : Value} (s : Same H H') (h : TyX K H x t) : TyX K H' x t := by
  cases h with
  | base b =>
    refine .base ?_
    cases b with
    | non => exact .non
    | bl y => exact .bl y
    | int i => exact .int i
    | str y => exact .str y
    | flt y => exact .flt y
    | lst e => exact .lst (s _ _ e)
    | frz e => exact .frz (s _ _ e)
    | tup e => exact .tup (s _ _ e)
    | dK e => exact .dK (s _ _ e)
    | dT e => exact .dT (s _ _ e)
    | ins e cl ha hn htk hm => exact .ins (s _ _ e) cl ha hn htk hm
  | byt b => exact .byt b
  | set e => exact .set (s _ _ e)
  | kList e c => exact .kList e c
  | kTuple e c => exact .kTuple e c
  | kDict e c => exact .kDict e c
  | fTuple e => exact .fTuple (s _ _ e)
  | fDict e => exact .fDict (s _ _ e)
theorem tyes {σ : L2.St} {H : Hp} {A B : Hp → Prop} (h : A H) : tYes σ H (fun b H3 => if b = true then A H3 else B H3) := by
  show if true = true then A H else B H
  rw [if_pos rfl]
  exact h
/-! ### lists of numbers -/
def ivs (l : List Nat) : List V := l.map fun (v : Nat) => V.int (v : Int)
def lab (n : Nat) (f : Nat → Nat) : List V := ivs ((List.range n).map f)
theorem ivs_at {l : List Nat} {i k : Nat} (h : l[i]? = some k) : atI (ivs l) (i : Int) = some (.int (k : Int)) := atI_nat (by unfold ivs; rw [List.getElem?_map, h]; rfl)
theorem lab_at {n : Nat} {f : Nat → Nat} {i : Nat} (h : i < n) : atI (lab n f) (i : Int) = some (.int (f i : Int)) := ivs_at (by rw [List.getElem?_map, List.getElem?_range h]; rfl)
theorem lab_len (n : Nat) (f : Nat → Nat) : (lab n f).length = n := by simp [lab, ivs]
theorem lab_get {n : Nat} {f : Nat → Nat} {i : Nat} (h : i < n) : (lab n f)[i]? = some (.int (f i : Int)) := by
  unfold lab ivs
  rw [List.getElem?_map, List.getElem?_map, List.getElem?_range h]
  rfl
theorem lab_congr {n : Nat} {f g : Nat → Nat} (h : ∀ v, v < n → f v = g v) : lab n f = lab n g := by
  unfold lab
  rw [List.map_congr_left fun v hv => h v (List.mem_range.mp hv)]
/-- the constants of the module -/
structure Cs (mg : Str → Option Value) : Prop where
  nodes : ∃ t, mg "MOST_NODES" = some (.int 30 t)
  edges : ∃ t, mg "MOST_EDGES" = some (.int 60 t)
  least : ∃ t, mg "LEAST_MODULUS" = some (.int 2 t)
  most : ∃ t, mg "MOST_MODULUS" = some (.int 60 t)
/-- a def by its name, its promise, its place: what a caller wants -/
structure Df (P : Program) (w : World) (K : PySem.W.Frag) (mg : Str → Option Value) (base : Heap) (k : Nat) (x : Str) (ps : List Str) (sp : Sp) : Prop where
  ex : ∃ (g : Addr) (gd : FuncData), FnOk P w K mg base CX0 k g gd ps sp ∧ mg x = some (.ref g) ∧ PySem.W.keepIn K (.ref g) = true ∧ Binds K gd ps []
def spIsMod (K : PySem.W.Frag) : Sp := fun vs H Q _ => ∃ (x : V) (t : Value) (b : Bool), vs = [x] ∧ TyX K H x t ∧ IntB K t b ∧ (b = false → Q (.bl false) H) ∧ (b = true → ∃ i, x = .int i ∧ Q (.bl (decide (i = 0 ∨ 2 ≤ i ∧ i ≤ 60))) H)
/-- b: x is a node below n -/
def NodeV (K : PySem.W.Frag) (H : Hp) (n : Nat) (x : V) (b : Bool) : Prop := ∃ t c, TyX K H x t ∧ IntB K t c ∧ (c = false → b = false) ∧ (c = true → ∃ i : Int, x = .int i ∧ b = decide (0 ≤ i ∧ i ≤ (n : Int) - 1))
theorem NodeV.same {K : PySem.W.Frag} {H H' : Hp} {n : Nat} {x : V} {b : Bool} (s : Same H H') (h : NodeV K H n x b) : NodeV K H' n x b := let ⟨t, c, h1, h2⟩ := h; ⟨t, c, tyX_same s h1, h2⟩
theorem NodeV.int {K : PySem.W.Frag} {H : Hp} {n v : Nat} (h : v < n) : NodeV K H n (.int (v : Int)) true := ⟨_, true, .base (.int _), intB_int, (fun z => nomatch z), fun _ => ⟨v, rfl, (decide_eq_true (by omega)).symm⟩⟩
def spIsEdge (K : PySem.W.Frag) : Sp := fun vs H Q _ => ∃ (n : Nat) (x : V), vs = [.int n, x] ∧
  ((∃ t, TyX K H x t ∧ PySem.W.kitOne K t (.type "tuple") = some false ∧ Q (.bl false) H) ∨ (∃ a xs, x = .ref a ∧ H a = some (.tup xs) ∧ xs.length ≠ 2 ∧ Q (.bl false) H) ∨
   (∃ a u v bu bv, x = .ref a ∧ H a = some (.tup [u, v]) ∧ NodeV K H n u bu ∧ NodeV K H n v bv ∧ ∀ H', Same H H' → Q (.bl (bu && bv)) H'))
def spCheck (K : PySem.W.Frag) : Sp := fun vs H Q _ => ∃ (n : Nat) (a : Addr) (ts : List Addr) (ps : List (Nat × Nat)), vs = [.int n, .ref a] ∧ EdgesAt H a ts ps ∧ Within n ps ∧ ps.length ≤ 60 ∧ ∀ H', Same H H' → Q .non H'
section
variable {P : Program} {w : World} {K : PySem.W.Frag} {mg : Str → Option Value} {base : Heap}
theorem sc_is_modulus : FnScope ["thing"] ["thing"] (defScope s_is_modulus) := ⟨rfl, rfl, rfl, by decide +kernel, rfl, by decide +kernel, by decide +kernel⟩
theorem ok_ismod {f : Addr} {fd : FuncData} (F : Fun K "is_modulus" "is_modulus" s_is_modulus f fd) (C : Cs mg) (D : Df P w K mg base 1 "is_integer" ["thing"] (spInt K)) : FnOk P w K mg base CX0 2 f fd ["thing"] (spIsMod K) := by
  obtain ⟨g, gd, G, mgG, kG, bG⟩ := D.ex
  obtain ⟨t1, c1⟩ := C.least
  obtain ⟨t2, c2⟩ := C.most
  refine F.ok sc_is_modulus (fun vs H Q E h => ?_) (fun cdv A outer s H vs Q E hr h => ?_)
  · obtain ⟨x, t, b, rfl, _⟩ := h
    rfl
  · obtain ⟨x, t, b, rfl, hty, hb, hf, ht⟩ := h
    refine ⟨_, pss_one (ps_ret (pe_and (pe_call G hr rfl mgG kG bG .nil pass0 (pa_cons (pv 0) pa_nil)) (pe_one (pe_or (pe_cmpR op_eq (pv 0) pe_int (nomark _))
      (pe_one (pe_chain op_le op_le (pe_glob rfl c1 (v := .int 2) ⟨_, rfl⟩) (pv 0) (pe_glob rfl c2 (v := .int 60) ⟨_, rfl⟩))))))), ?_⟩
    refine ⟨_, rfl, x, t, b, rfl, hty, hb, b, rfl, ?_⟩
    cases b with
    | false => exact iteF (hf rfl)
    | true =>
      obtain ⟨i, rfl, q⟩ := ht rfl
      refine iteT ⟨_, rfl, rfl, _, rfl, ?_⟩
      by_cases h0 : i = 0
      · subst h0
        refine if_pos (show decide (V.int 0 = V.int 0) = true from rfl) ▸ ?_
        exact q
      · have e0 : decide (V.int i = V.int 0) = false := decide_eq_false fun z => h0 (V.int.inj z)
        rw [e0]
        refine iteF ⟨_, rfl, _, _, rfl, rfl, _, rfl, ?_⟩
        refine ite2 (fun h1 => ?_) (fun h1 => ?_)
        · have h1' : 2 ≤ i := of_decide_eq_true h1
          refine ⟨_, _, rfl, rfl, ?_⟩
          have e : decide (i = 0 ∨ 2 ≤ i ∧ i ≤ 60) = decide (i ≤ 60) := by
            by_cases h2 : i ≤ 60
            · rw [decide_eq_true h2, decide_eq_true (.inr ⟨h1', h2⟩)]
            · rw [decide_eq_false h2, decide_eq_false (by omega)]
          rw [e] at q
          exact q
        · have h1' : ¬ 2 ≤ i := fun z => h1 (decide_eq_true z)
          rw [decide_eq_false (by omega)] at q
          exact q
theorem sc_is_edge : FnScope ["size", "thing", "node"] ["size", "thing"] (defScope s_is_edge) := ⟨rfl, rfl, rfl, by decide +kernel, rfl, by decide +kernel, by decide +kernel⟩
theorem ok_isedge {f : Addr} {fd : FuncData} (F : Fun K "is_edge" "is_edge" s_is_edge f fd) (B : Bn mg) (D : Df P w K mg base 2 "is_between" ["thing", "low", "high"] (spBetween K)) : FnOk P w K mg base CX0 3 f fd ["size", "thing"] (spIsEdge K) := by
  obtain ⟨g, gd, G, mgG, kG, bG⟩ := D.ex
  refine F.ok sc_is_edge (fun vs H Q E h => ?_) (fun cdv A outer s H vs Q E hr h => ?_)
  · obtain ⟨n, x, rfl, _⟩ := h
    rfl
  · obtain ⟨n, x, rfl, h⟩ := h
    refine ⟨_, pss_cons (ps_if (PW.pt (pw_or (pt_not (pt_val (pe_callB call_isi (by rfl) B.isinstance (by decide +kernel) (pa_cons (pv 1) (pa_cons (pe_bltn (v := .ty "tuple") (by rfl) B.tuple (by decide +kernel) rfl) pa_nil)))))
        (pw_or1 (pt_cmpR op_ne (pe_callB call_len_seq (by rfl) B.len PySem.boot_len (pa_cons (pv 1) pa_nil)) pe_int (nomark _))))) (pss_one (ps_ret pe_bl)) pss_nil)
      (pss_one (ps_ret (pe_callB (cr_all rfl) (by rfl) B.all (by decide +kernel) (pa_cons (pe_lc (own := [("node", 2)]) (g := gName 2) rfl sc_is_edge.nd (pi_tup (pv 1)) (blkOk_by (N := ["size", "thing", "node"]) (sc := defScope s_is_edge) (by decide +kernel))
        (fun _ _ _ _ _ => pg_name (i := 2) sc_is_edge.nd rfl (Or.inl rfl)) (fun _ _ _ _ _ => pts_nil) (fun _ _ _ _ _ => pe_call G hr rfl mgG kG bG .nil pass0 (pa_cons (pv 2) (pa_cons pe_int (pa_cons (pe_op op_sub (pv 0) pe_int) pa_nil))))) pa_nil)))), ?_⟩
    rcases h with ⟨t, hty, hk, q⟩ | ⟨a, xs, rfl, ha, hl, q⟩ | ⟨a, u, v, bu, bv, rfl, ha, hu, hv, q⟩
    · exact ⟨_, rfl, _, _, _, _, _, rfl, .ty _, hty, hk, _, rfl, iteT (iteT q)⟩
    · refine ⟨_, rfl, _, _, _, _, _, rfl, .ty _, .base (.tup ha), kit_ty (r := true) (by decide +kernel), _, rfl, iteF ⟨_, rfl, a, _, rfl, .inr (SqT.of ha), rfl, _, rfl, ?_⟩⟩
      have e : (!decide (V.int (xs.length : Int) = V.int 2)) = true := by
        rw [decide_eq_false fun z => hl (by have := V.int.inj z; omega)]
        rfl
      rw [e]
      exact iteT q
    · refine ⟨_, rfl, _, _, _, _, _, rfl, .ty _, .base (.tup ha), kit_ty (r := true) (by decide +kernel), _, rfl, iteF ⟨_, rfl, a, _, rfl, .inr (SqT.of ha), rfl, _, rfl, iteF ?_⟩⟩
      refine ⟨_, rfl, a, rfl, ⟨_, SqT.of ha⟩, fun D hD => lc_tup (xs := [u, v]) (fun i H' => Same H H' ∧ H' D = some (.lst (([bu, bv].take i).map V.bl)))
        ⟨same_new (Same.refl _) (.inl hD), upd_same⟩ (fun i H' _ ⟨s1, _⟩ => SqT.of (s1 _ _ ha)) ?_ ?_⟩
      · have one : ∀ (i : Nat) (x : V) (b : Bool) (H' : Hp), NodeV K H n x b → [bu, bv][i]? = some b → Same H H' → H' D = some (.lst (([bu, bv].take i).map V.bl)) →
            (tCall (spBetween K) [] E0 (tCons (tVar 2) (tCons (tC (.int 0)) (tCons (tOp (rI0 fun i j => .int (i - j)) (tVar 0) (tC (.int 1))) tNil)))) [some (.int n), some (.ref a), some x] H' fun y H4 => ∃ acc, H4 D = some (.lst acc) ∧ acc.length < sizeLine ∧
              (Same H (upd H4 D (.lst (acc ++ [y]))) ∧ (upd H4 D (.lst (acc ++ [y]))) D = some (.lst (([bu, bv].take (i + 1)).map V.bl))) := by
          intro i x b H' hx hb s1 hD'
          obtain ⟨t, c, h1, h2, h3, h4⟩ := hx
          have fin : ∀ b', b' = b → ∃ acc, H' D = some (.lst acc) ∧ acc.length < sizeLine ∧ (Same H (upd H' D (.lst (acc ++ [V.bl b']))) ∧ (upd H' D (.lst (acc ++ [V.bl b']))) D = some (.lst (([bu, bv].take (i + 1)).map V.bl))) := by
            rintro b' rfl
            refine ⟨_, hD', ?_, same_new s1 (.inr hD), ?_⟩
            · rw [List.length_map, List.length_take]
              exact Nat.lt_of_le_of_lt (Nat.min_le_right i 2) (by decide)
            · rw [upd_same, Wm.take_snoc hb, List.map_append]
              rfl
          refine ⟨_, rfl, _, rfl, _, _, rfl, rfl, x, 0, (n : Int) - 1, t, c, rfl, tyX_same s1 h1, h2, fun hc => ?_, fun hc => ?_⟩
          · exact fin false (h3 hc).symm
          · obtain ⟨z, rfl, e⟩ := h4 hc
            exact ⟨z, rfl, fin _ e.symm⟩
        intro i x H' hi ⟨s1, hD'⟩
        match i, hi with
        | 0, hi =>
          have e : u = x := Option.some.inj hi
          subst e
          exact ⟨rfl, tyes (one 0 u bu H' hu rfl s1 hD')⟩
        | 1, hi =>
          have e : v = x := Option.some.inj hi
          subst e
          exact ⟨rfl, tyes (one 1 v bv H' hv rfl s1 hD')⟩
      · intro H' ⟨s1, hD'⟩
        refine ⟨D, [bu, bv], rfl, SqL.of hD', ?_⟩
        have e : [bu, bv].all id = (bu && bv) := by simp
        rw [e]
        exact q H' s1
theorem sc_check_edges : FnScope ["size", "edges", "entry"] ["size", "edges"] (defScope s_check_edges) := ⟨rfl, rfl, rfl, by decide +kernel, rfl, by decide +kernel, by decide +kernel⟩
theorem ok_check {f : Addr} {fd : FuncData} (F : Fun K "check_edges" "check_edges" s_check_edges f fd) (B : Bn mg) (C : Cs mg) (D : Df P w K mg base 3 "is_edge" ["size", "thing"] (spIsEdge K)) : FnOk P w K mg base CX0 4 f fd ["size", "edges"] (spCheck K) := by
  obtain ⟨g, gd, G, mgG, kG, bG⟩ := D.ex
  obtain ⟨t1, c1⟩ := C.edges
  refine F.ok sc_check_edges (fun vs H Q E h => ?_) (fun cdv A outer s H vs Q E hr h => ?_)
  · obtain ⟨n, a, ts, ps, rfl, _⟩ := h
    rfl
  · obtain ⟨n, a, ts, ps, rfl, hE, hw, hl, q⟩ := h
    refine ⟨_, pss_cons (ps_if (pt_not (pt_val (pe_callB call_isiT (by rfl) B.isinstance (by decide +kernel) (pa_cons (pv 1) (pa_cons (pe_tup (pa_cons (pe_bltn (v := .ty "list") (by rfl) B.list (by decide +kernel) rfl) (pa_cons (pe_bltn (v := .ty "tuple") (by rfl) B.tuple (by decide +kernel) rfl) pa_nil))) pa_nil))))) (pss_one ps_never) pss_nil)
      (pss_cons (ps_for PassesOwn.never rfl (pi_list (pv 1)) (pg_name (i := 2) sc_check_edges.nd rfl (Or.inl rfl)) (pss_one (ps_if (pt_not (pt_val (pe_call G hr rfl mgG kG bG .nil pass0 (pa_cons (pv 0) (pa_cons (pv 2) pa_nil))))) (pss_one ps_never) pss_nil)))
      (pss_one (ps_if (pt_cmpR op_gt (pe_callB call_len_seq (by rfl) B.len PySem.boot_len (pa_cons (pv 1) pa_nil)) (pe_glob rfl c1 (v := .int 60) ⟨_, rfl⟩) (nomark _)) (pss_one ps_never) pss_nil))), ?_⟩
    refine ⟨_, rfl, (by show 2 ≤ sizeLine; decide), fun tp htp => ⟨_, tp, _, _, _, true, rfl, upd_same, .cons (.ty _) (.cons (.ty _) .nil), .base (.lst (by rw [upd_ne (ne_of_none hE.1 htp)]; exact hE.1)), kitAny_cons (b := true) (kit_ty (by decide +kernel)) (fun z => nomatch z) (fun _ => rfl), _, rfl, iteF ?_⟩⟩
    have s0 : Same H (upd H tp (.tup [.ty "list", .ty "tuple"])) := same_new (Same.refl _) (.inl htp)
    refine ⟨_, rfl, a, rfl, ⟨_, SqL.of (s0 _ _ hE.1)⟩, for_list (K := K) (xs := ts.map V.ref) (fun i σ H' => ∃ v, σ = [some (.int n), some (.ref a), v] ∧ Same H H') ⟨none, rfl, s0⟩ (fun i σ H' _ ⟨_, _, s1⟩ => SqL.of (s1 _ _ hE.1)) ?_ ?_⟩
    · rintro i x σ H' hi ⟨v, rfl, s1⟩
      obtain ⟨t, ht, rfl⟩ : ∃ t, ts[i]? = some t ∧ x = V.ref t := by
        rw [List.getElem?_map] at hi
        cases e : ts[i]? with
        | none => rw [e] at hi; cases hi
        | some t => rw [e] at hi; exact ⟨t, rfl, (Option.some.inj hi).symm⟩
      have hi' : i < ps.length := by rw [← hE.2.1]; exact (List.getElem?_eq_some_iff.mp ht).1
      have hp : ps[i]? = some ps[i] := List.getElem?_eq_getElem hi'
      have hw' := hw ps[i] (List.getElem_mem hi')
      refine ⟨_, rfl, _, rfl, n, .ref t, rfl, .inr (.inr ⟨t, _, _, true, true, rfl, s1 _ _ (hE.2.2 i t _ ht hp), .int hw'.1, .int hw'.2, fun H2 s2 => ⟨_, rfl, iteF ⟨_, rfl, s1.trans s2⟩⟩⟩)⟩
    · rintro σ H' ⟨v, rfl, s1⟩
      refine ⟨_, rfl, a, _, rfl, .inl (SqL.of (s1 _ _ hE.1)), _, _, rfl, rfl, _, rfl, ?_⟩
      have e : decide ((60 : Int) < ((ts.map V.ref).length : Int)) = false := decide_eq_false (by rw [List.length_map, hE.2.1]; omega)
      rw [e]
      exact iteF (q H' s1)
end
end Wb

namespace Wb
open PySem L2 Ee
theorem imin (a b : Nat) : (if (b : Int) < (a : Int) then (b : Int) else (a : Int)) = ((min a b : Nat) : Int) := by
  rcases Wm.min_or a b with ⟨h, h2⟩ | ⟨h, h2⟩
  · rw [h, if_neg (by have := Nat.min_le_right a b; omega)]
  · rw [h]
    split
    · rfl
    · have := Nat.min_le_left a b
      omega
theorem imax (a b : Nat) : (if (b : Int) > (a : Int) then (b : Int) else (a : Int)) = ((max a b : Nat) : Int) := by
  rcases Wm.min_or a b with ⟨h, h2⟩ | ⟨h, h2⟩
  · rw [h2]
    split
    · rfl
    · have := Nat.le_max_left a b
      omega
  · rw [h2, if_neg (by have := Nat.le_max_right a b; omega)]
theorem dint (a b : Nat) : decide (V.int (a : Int) = V.int (b : Int)) = decide (a = b) := by
  by_cases h : a = b
  · subst h; simp
  · rw [decide_eq_false h, decide_eq_false fun z => h (by have := V.int.inj z; omega)]
theorem refs_get {ts : List Addr} {i : Nat} {x : V} (h : (ts.map V.ref)[i]? = some x) : ∃ t, ts[i]? = some t ∧ x = V.ref t := by
  rw [List.getElem?_map] at h
  cases e : ts[i]? with
  | none => rw [e] at h; cases h
  | some t => rw [e] at h; exact ⟨t, rfl, (Option.some.inj h).symm⟩
theorem ivs_get {l : List Nat} {i : Nat} {x : V} (h : (ivs l)[i]? = some x) : ∃ k, l[i]? = some k ∧ x = V.int (k : Int) := by
  unfold ivs at h
  rw [List.getElem?_map] at h
  cases e : l[i]? with
  | none => rw [e] at h; cases h
  | some t => rw [e] at h; exact ⟨t, rfl, (Option.some.inj h).symm⟩
theorem gs_same {f : Nat → Nat} {e : Nat × Nat} (h : f e.1 = f e.2) : Wm.gs f e = f := by
  funext v
  by_cases h2 : f v = max (f e.1) (f e.2)
  · rw [Wm.gs_hit h2, h2, h]
    simp
  · exact Wm.gs_miss h2
theorem rg_lab (n : Nat) : rgV 0 (n : Int) = lab n id := by
  unfold rgV lab ivs
  rw [List.map_id]
  have e : ((n : Int) - 0).toNat = n := by omega
  rw [e]
  exact List.map_congr_left fun i _ => by rw [Int.zero_add]
theorem rgOk {n : Nat} (h : n ≤ 1000) : RgOk 0 (n : Int) := RgOk.of_le (Int.le_refl _) (by omega) (by decide) (by omega)
theorem PairsAt.get {H : Hp} {ts : List Addr} {ps : List (Nat × Nat)} (h : PairsAt H ts ps) {i : Nat} {t : Addr} (ht : ts[i]? = some t) : ∃ e, ps[i]? = some e ∧ H t = some (.tup [.int e.1, .int e.2]) := by
  have hi : i < ps.length := by rw [← h.1]; exact (List.getElem?_eq_some_iff.mp ht).1
  exact ⟨ps[i], List.getElem?_eq_getElem hi, h.2 i t _ ht (List.getElem?_eq_getElem hi)⟩
theorem mem_of_get {α : Type} {l : List α} {i : Nat} {x : α} (h : l[i]? = some x) : x ∈ l := by
  obtain ⟨hi, rfl⟩ := List.getElem?_eq_some_iff.mp h
  exact List.getElem_mem hi
def spGrown : Sp := fun vs H Q _ => ∃ (n : Nat) (a : Addr) (ts : List Addr) (ps : List (Nat × Nat)), vs = [.int n, .ref a] ∧ EdgesAt H a ts ps ∧ Within n ps ∧ ps.length ≤ 60 ∧ n ≤ 30 ∧
  ∀ H' t nl fl, Same H H' → H' t = some (.tup [.ref nl, .ref fl]) → H nl = none → H fl = none → H' nl = some (.lst (ivs (Wm.nums ps ps.length))) → H' fl = some (.lst (lab n (Wm.F ps))) → Q (.ref t) H'
section
variable {P : Program} {w : World} {K : PySem.W.Frag} {mg : Str → Option Value} {base : Heap}
theorem sc_grown_forest : FnScope ["size", "pairs", "numbers", "firsts", "number", "tail", "head", "low", "high", "first"] ["size", "pairs"] (defScope s_grown_forest) := ⟨rfl, rfl, rfl, by decide +kernel, rfl, by decide +kernel, by decide +kernel⟩
theorem ok_grown {f : Addr} {fd : FuncData} (F : Fun K "grown_forest" "grown_forest" s_grown_forest f fd) (B : Bn mg) : FnOk P w K mg base CX0 1 f fd ["size", "pairs"] spGrown := by
  refine F.ok sc_grown_forest (fun vs H Q E h => ?_) (fun cdv A outer s H vs Q E hr h => ?_)
  · obtain ⟨n, a, ts, ps, rfl, _⟩ := h
    rfl
  · obtain ⟨n, a, ts, ps, rfl, hE, hw, hl, hn, q⟩ := h
    refine ⟨_, pss_cons (ps_set (i := 2) sc_grown_forest.nd rfl (Or.inl rfl) (pe_lst pa_nil))
      (pss_cons (ps_set (i := 3) sc_grown_forest.nd rfl (Or.inl rfl) (pe_listRg rfl rfl B.list (prg_1 rfl B.range (pv 0))))
      (pss_cons (ps_for PassesOwn.never rfl (pi_enum rfl B.enumerate (pa_cons (pv 1) pa_nil))
          (pg_tup rfl (pgs_cons (pg_name (i := 4) sc_grown_forest.nd rfl (Or.inl rfl)) (pgs_cons (pg_tup rfl (pgs_cons (pg_name (i := 5) sc_grown_forest.nd rfl (Or.inl rfl)) (pgs_cons (pg_name (i := 6) sc_grown_forest.nd rfl (Or.inl rfl)) pgs_nil))) pgs_nil)))
        (pss_one (ps_if (pt_cmpR op_ne (pe_ix ix_list (pv 3) (pv 5) (fun _ _ => rfl)) (pe_ix ix_list (pv 3) (pv 6) (fun _ _ => rfl)) (nomark _))
          (pss_cons (ps_expr (pe_bm PySem.F.plainAttrs_list PySem.F.slot_list_append PySem.F.type_list_append mt_append (pv 2) (pa_cons (pv 4) pa_nil)))
          (pss_cons (ps_set (i := 7) sc_grown_forest.nd rfl (Or.inr rfl) (pe_callB (call_min2 rfl) (by rfl) B.min (by decide +kernel) (pa_cons (pe_ix ix_list (pv 3) (pv 5) (fun _ _ => rfl)) (pa_cons (pe_ix ix_list (pv 3) (pv 6) (fun _ _ => rfl)) pa_nil))))
          (pss_cons (ps_set (i := 8) sc_grown_forest.nd rfl (Or.inr rfl) (pe_callB (call_max2 rfl) (by rfl) B.max (by decide +kernel) (pa_cons (pe_ix ix_list (pv 3) (pv 5) (fun _ _ => rfl)) (pa_cons (pe_ix ix_list (pv 3) (pv 6) (fun _ _ => rfl)) pa_nil))))
          (pss_one (ps_setLc (i := 3) (own := [("first", 9)]) (g := gName 9) rfl sc_grown_forest.nd rfl rfl (sw_true rfl rfl rfl (by decide +kernel)) (pi_list (pv 3)) (blkOk_by (N := ["size", "pairs", "numbers", "firsts", "number", "tail", "head", "low", "high", "first"]) (sc := defScope s_grown_forest) (by decide +kernel))
            (fun _ _ _ _ _ => pg_name (i := 9) sc_grown_forest.nd rfl (Or.inl rfl)) (fun _ _ _ _ _ => pts_nil) (fun _ _ _ _ _ => pe_ifExp (pt_cmpR op_eq (pv 9) (pv 8) (nomark _)) (pv 7) (pv 9))))))) pss_nil)))
      (pss_one (ps_ret (pe_tup (pa_cons (pv 2) (pa_cons (pv 3) pa_nil))))))), ?_⟩
    refine ⟨Nat.zero_le _, fun nl hnl => ?_⟩
    refine ⟨_, rfl, _, rfl, rgOk (by omega), fun fl hfl => ?_⟩
    rw [rg_lab]
    have hfl0 : H fl = none := (same_new (Same.refl H) (.inl hnl)).free hfl
    have nfn : nl ≠ fl := fun z => by rw [← z, upd_same] at hfl; cases hfl
    have s0 : Same H (upd (upd H nl (.lst [])) fl (.lst (lab n id))) := same_new (same_new (Same.refl H) (.inl hnl)) (.inr hfl0)
    refine ⟨_, rfl, a, _, rfl, SqL.of (s0 _ _ hE.1), for_enum (K := K) (xs := ts.map V.ref) (fun i σ H' => ∃ fl v4 v5 v6 v7 v8, σ = [some (.int n), some (.ref a), some (.ref nl), some (.ref fl), v4, v5, v6, v7, v8, none] ∧ Same H H' ∧ H fl = none ∧ nl ≠ fl ∧
        H' nl = some (.lst (ivs (Wm.nums ps i))) ∧ H' fl = some (.lst (lab n (Wm.F (ps.take i)))))
      ⟨fl, none, none, none, none, none, rfl, s0, hfl0, nfn, by rw [upd_ne nfn, upd_same]; rfl, upd_same⟩ (fun i σ H' _ ⟨_, _, _, _, _, _, _, s1, _⟩ => SqL.of (s1 _ _ hE.1)) ?_ ?_⟩
    · rintro i x T σ H1 hi ⟨fl, v4, v5, v6, v7, v8, rfl, s1, hfl0, nfn, h1n, h1f⟩ hT
      obtain ⟨t, ht, rfl⟩ := refs_get hi
      obtain ⟨e, he, het⟩ := (hE.2.same s1).get ht
      have hwe := hw e (mem_of_get he)
      have hi60 : i < ps.length := (List.getElem?_eq_some_iff.mp he).1
      have s2 : Same H1 (upd H1 T (.tup [.int (i : Nat), .ref t])) := same_new (Same.refl H1) (.inl hT)
      have h2n := s2 _ _ h1n
      have h2f := s2 _ _ h1f
      have s02 := s1.trans s2
      generalize hH2 : upd H1 T (.tup [.int (i : Nat), .ref t]) = H2 at *
      refine ⟨T, _, rfl, SqT.of (by rw [← hH2]; exact upd_same), rfl, _, _, rfl, _, _, rfl, t, _, rfl, SqT.of (s2 _ _ het), rfl, _, _, rfl, _, _, rfl, rfl, rfl, ?_⟩
      have hF := Wm.root_F i ps
      generalize hf : Wm.F (ps.take i) = f at *
      have hF' : Wm.F (ps.take (i + 1)) = Wm.gs f e := by rw [Wm.take_snoc he, Wm.F_snoc, hf]
      refine ⟨_, rfl, _, rfl, fl, _, _, _, rfl, rfl, SqL.of h2f, lab_at hwe.1, _, rfl, _, rfl, fl, _, _, _, rfl, rfl, SqL.of h2f, lab_at hwe.2, rfl, _, rfl, ?_⟩
      rw [dint]
      by_cases hd : f e.1 = f e.2
      · rw [decide_eq_true hd]
        refine iteF ?_
        refine ⟨fl, _, _, _, _, _, rfl, s02, hfl0, nfn, ?_, ?_⟩
        · rw [Wm.nums_succ, if_neg]
          · exact h2n
          · unfold Wm.grows
            rw [Wm.at2_get he, hf]
            simp [hd]
        · rw [hF', gs_same hd]
          exact h2f
      · rw [decide_eq_false hd]
        refine iteT ?_
        have hg : Wm.grows ps i = true := by
          unfold Wm.grows
          rw [Wm.at2_get he, hf]
          simp [hd]
        refine ⟨_, rfl, .inl ⟨rfl, _, SqL.of h2n⟩, _, rfl, nl, _, _, rfl, rfl, h2n, ?_, ?_⟩
        · unfold ivs
          rw [List.length_map]
          have hle : (Wm.nums ps i).length ≤ i := by
            unfold Wm.nums
            exact Nat.le_trans (List.length_filter_le _ _) (by rw [List.length_range]; exact Nat.le_refl _)
          exact small1000 (by omega)
        · have h3f : upd H2 nl (.lst (ivs (Wm.nums ps i) ++ [.int (i : Nat)])) fl = some (.lst (lab n f)) := by rw [upd_ne nfn.symm]; exact h2f
          have s03 : Same H (upd H2 nl (.lst (ivs (Wm.nums ps i) ++ [.int (i : Nat)]))) := same_new s02 (.inr hnl)
          generalize hH3 : upd H2 nl (.lst (ivs (Wm.nums ps i) ++ [.int (i : Nat)])) = H3 at *
          have h3n : H3 nl = some (.lst (ivs (Wm.nums ps (i + 1)))) := by
            rw [← hH3, upd_same, Wm.nums_succ, if_pos hg]
            unfold ivs
            rw [List.map_append]
            rfl
          refine ⟨_, rfl, _, rfl, fl, _, _, _, rfl, rfl, SqL.of h3f, lab_at hwe.1, _, rfl, _, rfl, fl, _, _, _, rfl, rfl, SqL.of h3f, lab_at hwe.2, _, _, rfl, ?_⟩
          rw [imin]
          refine ⟨_, rfl, _, rfl, fl, _, _, _, rfl, rfl, SqL.of h3f, lab_at hwe.1, _, rfl, _, rfl, fl, _, _, _, rfl, rfl, SqL.of h3f, lab_at hwe.2, _, _, rfl, ?_⟩
          rw [imax]
          refine ⟨_, rfl, fl, rfl, ⟨_, SqL.of h3f⟩, fun D hD => lc_list (K := K) (xs := lab n f) (fun j H' => Same H3 H' ∧ H' D = some (.lst ((lab n (Wm.gs f e)).take j)))
            ⟨same_new (Same.refl _) (.inl hD), upd_same⟩ (fun j H' _ ⟨s4, _⟩ => SqL.of (s4 _ _ h3f)) ?_ ?_⟩
          · rintro j x H4 hj ⟨s4, h4⟩
            have hjn : j < n := by have := (List.getElem?_eq_some_iff.mp hj).1; rw [lab_len] at this; exact this
            have ex : x = .int (f j : Int) := by rw [lab_get hjn] at hj; exact (Option.some.inj hj).symm
            subst ex
            refine ⟨rfl, tyes ?_⟩
            have fin : ∀ z : V, z = .int (Wm.gs f e j : Int) → ∃ acc, H4 D = some (.lst acc) ∧ acc.length < sizeLine ∧ (Same H3 (upd H4 D (.lst (acc ++ [z]))) ∧ (upd H4 D (.lst (acc ++ [z]))) D = some (.lst ((lab n (Wm.gs f e)).take (j + 1)))) := by
              rintro z rfl
              refine ⟨_, h4, ?_, same_new s4 (.inr hD), ?_⟩
              · rw [List.length_take, lab_len]
                exact small1000 (by have := Nat.min_le_right j n; omega)
              · rw [upd_same, Wm.take_snoc (lab_get hjn)]
            refine ⟨_, rfl, _, rfl, rfl, _, rfl, ?_⟩
            rw [dint]
            by_cases hm : f j = max (f e.1) (f e.2)
            · rw [decide_eq_true hm]
              exact iteT ⟨_, rfl, fin _ (by rw [Wm.gs_hit hm])⟩
            · rw [decide_eq_false hm]
              exact iteF ⟨_, rfl, fin _ (by rw [Wm.gs_miss hm])⟩
          · rintro H4 ⟨s4, h4⟩
            have e4 : (lab n (Wm.gs f e)).take (lab n f).length = lab n (Wm.gs f e) := by rw [List.take_of_length_le (by rw [lab_len, lab_len]; exact Nat.le_refl _)]
            rw [e4] at h4
            refine ⟨D, _, _, _, _, _, rfl, s03.trans s4, s03.free hD, ?_, s4 _ _ h3n, ?_⟩
            · rintro rfl
              rw [h3n] at hD
              cases hD
            · rw [hF']
              exact h4
    · rintro σ H1 ⟨fl, v4, v5, v6, v7, v8, rfl, s1, hfl0, nfn, h1n, h1f⟩
      have el : (ts.map V.ref).length = ps.length := by rw [List.length_map]; exact hE.2.1
      rw [el] at h1n h1f
      rw [List.take_length] at h1f
      refine ⟨_, rfl, _, rfl, (by show 2 ≤ sizeLine; decide), fun t ht => ?_⟩
      have s2 : Same H1 (upd H1 t (.tup [.ref nl, .ref fl])) := same_new (Same.refl _) (.inl ht)
      exact q _ t nl fl (s1.trans s2) upd_same hnl hfl0 (s2 _ _ h1n) (s2 _ _ h1f)
end
end Wb

namespace Wb
open PySem L2 Ee
/-! ### what is asked of any data -/
def isInt : PyData → Bool
  | .int _ => true
  | _ => false
def betw (d : PyData) (lo hi : Int) : Bool := match d with
  | .int i => decide (lo ≤ i ∧ i ≤ hi)
  | _ => false
theorem intB_d {K : Fr} : ∀ d : PyData, IntB K (tyD d) (isInt d)
  | .none => ⟨false, kit_ty (by decide +kernel), (fun _ => rfl), (fun h => nomatch h)⟩
  | .bool _ => ⟨true, kit_ty (by decide +kernel), (fun h => nomatch h), (fun _ => ⟨true, kit_ty (by decide +kernel), rfl⟩)⟩
  | .int _ => intB_int
  | .str _ => ⟨false, kit_ty (by decide +kernel), (fun _ => rfl), (fun h => nomatch h)⟩
  | .list _ => ⟨false, kit_ty (by decide +kernel), (fun _ => rfl), (fun h => nomatch h)⟩
  | .tuple _ => ⟨false, kit_ty (by decide +kernel), (fun _ => rfl), (fun h => nomatch h)⟩
  | .dict _ => ⟨false, kit_ty (by decide +kernel), (fun _ => rfl), (fun h => nomatch h)⟩
section
variable {X Y : Vol} {σ : L2.St} {H H' H0 H1 : Hp} {ta tb tc te tl tp tk : TE} {K : Fr} {i j k lo hi : Int} {d e : PyData} {ds es : List PyData} {l p : Addr} {E : XK}
theorem ev_isint (h : Ev X te σ H (vD d)) : Ev X (tCall (spInt K) [] E (tCons te tNil)) σ H (vB (isInt d)) := fun Y H1 e Q q => h Y H1 e _ fun v H2 e2 p2 =>
  ⟨v, _, _, rfl, Dx.ty (Dx.same wo_le _ _ p2), intB_d d, q _ H2 e2 (.bl _)⟩
theorem ev_between (h : Ev X te σ H (vD d)) (h1 : Ev X tl σ H (vI lo)) (h2 : Ev X tb σ H (vI hi)) : Ev X (tCall (spBetween K) [] E (tCons te (tCons tl (tCons tb tNil)))) σ H (vB (betw d lo hi)) := fun Y H1 e Q q =>
  h Y H1 e _ fun v H2 e2 p2 => h1 Y H2 (e.trans e2) _ fun w H3 e3 p3 => h2 Y H3 ((e.trans e2).trans e3) _ fun u H4 e4 p4 => by
    cases p3; cases p4
    have p5 : Dx H4 v d := Dx.same wo_le _ _ ((e3.trans e4).upD p2)
    have ee := (e2.trans e3).trans e4
    refine ⟨v, lo, hi, _, _, rfl, Dx.ty p5, intB_d d, fun z => ?_, fun z => ?_⟩
    · have e1 : betw d lo hi = false := by
        cases d <;> first | rfl | cases z
      rw [e1] at q
      exact q _ H4 ee (.bl _)
    · cases d with
      | int i =>
        cases p5
        exact ⟨i, rfl, q _ H4 ee (.bl _)⟩
      | _ => cases z
theorem sub_but (i : Y.I H) (hp : Y.pool = some p) (b : But [p] H H') (h : PoolAt H' p) : Ext Y H H' := by
  have nT : ∀ q, (p, q) ∉ Y.T := fun q hq => by
    obtain ⟨ps, e⟩ := tab_at i.ti.1 hq
    obtain ⟨x, y, e2, _⟩ := i.pl p hp
    rw [show H p = some (.tbl ps) from e] at e2
    cases e2
  refine ⟨rfl, rfl, fun _ z => z, fun _ z => .inl z, fun c o n q => b c o (fun z => n (.inl (by rw [hp, show c = p by simpa using z]))) q, ⟨fun a z => ?_, fun p' hp' => ?_, ?_⟩⟩
  · by_cases ha : a = p
    · subst ha
      obtain ⟨_, _, e, _⟩ := h
      rw [e]; exact fun z => nomatch z
    · cases q : H a with
      | none => exact absurd q (i.live a z)
      | some o => rw [b a o (by simpa using ha) q]; exact fun z => nomatch z
  · rw [hp] at hp'
    cases hp'
    exact h
  · have plp : ∃ x y : Int, H p = some (.lst [.int x, .int y]) := let ⟨x, y, e, _⟩ := i.pl p hp; ⟨x, y, e⟩
    obtain ⟨x0, y0, e0⟩ := plp
    refine ⟨tabs_keep i.ti.1 (fun t ht => ?_) fun c q hc => b c _ (fun z => ?_) hc, fun n a ha hn u hu => ?_⟩
    · obtain ⟨ps, e⟩ := tab_at i.ti.1 ht
      rw [e]
      exact b _ _ (fun z => nT t.2 (by rw [← show t.1 = p by simpa using z]; exact ht)) e
    · have z' : c = p := by simpa using z
      rw [z', e0] at hc
      cases hc
    · by_cases z : a = p
      · obtain ⟨_, _, e, _⟩ := h
        rw [z, e] at hu
        rw [← Option.some.inj hu]
        exact True.intro
      · cases q : H a with
        | none => exact absurd q (i.live a ha)
        | some o =>
          have e := b a o (by simpa using z) q
          rw [hu] at e
          rw [Option.some.inj e]
          exact i.ti.2 n a ha hn o q
/-- a draw -/
theorem ev_take {n : Nat} (hs : σ[n]? = some (some (.ref p))) (hp : X.pool = some p) (h : Ev X tk σ H (vI k)) (h0 : 0 < k) (h1 : k ≤ 10 ^ 18) : Ev X (tCall spTake [] E (tCons (tVar n) (tCons tk tNil))) σ H (vX fun d => ∃ r : Int, d = .int r ∧ 0 ≤ r ∧ r < k) := fun Y H1 e Q q =>
  ⟨_, hs, h Y H1 e _ fun v H2 e2 p2 => by
    cases p2
    have hp' : Y.pool = some p := e.pool.trans hp
    exact ⟨p, k, rfl, e2.inv.pl p hp', h0, h1, fun H' r b hq r0 r1 => q _ H' (e2.trans (sub_but e2.inv hp' b hq)) ⟨.int r, ⟨r, rfl, r0, r1⟩, .int r⟩⟩⟩
theorem ev_modulus {n : Nat} (hs : σ[n]? = some (some (.ref p))) (hp : X.pool = some p) : Ev X (tCall spModulus [] E (tCons (tVar n) tNil)) σ H (vX fun d => ∃ r : Int, d = .int r ∧ r ∈ ([0, 2, 3, 4, 5, 12, 60] : List Int)) := fun Y H1 e Q q =>
  ⟨_, hs, by
    have hp' : Y.pool = some p := e.pool.trans hp
    exact ⟨p, rfl, e.inv.pl p hp', fun H' r b hq hr => q _ H' (sub_but e.inv hp' b hq) ⟨.int r, ⟨r, rfl, hr⟩, .int r⟩⟩⟩
/-- a list of pairs -/
theorem dx_pairs {G : Hp} {ts : List Addr} {ps : List (Nat × Nat)} (h : PairsAt H ts ps) (hG : ∀ t ∈ ts, ∀ o, H t = some o → G t = some o) : DxAll G (ts.map V.ref) (ps.map dPair) := by
  induction ts generalizing ps with
  | nil =>
    cases ps with
    | nil => exact .nil
    | cons e ps => cases h.1
  | cons t ts ih =>
    cases ps with
    | nil => cases h.1
    | cons e ps =>
      refine .cons (.tup (hG t (by simp) _ (h.2 0 t e rfl rfl)) (.cons (.int _) (.cons (.int _) .nil))) (ih ⟨Nat.succ.inj h.1, fun i u q a b => h.2 (i + 1) u q a b⟩ fun u hu => hG u (by simp [hu]))
theorem pairs_dx : ∀ {vs : List V} {ps : List (Nat × Nat)}, DxAll H vs (ps.map dPair) → ∃ ts : List Addr, vs = ts.map V.ref ∧ PairsAt H ts ps
  | _, [], h => by cases h; exact ⟨[], rfl, rfl, fun i t p a => by simp at a⟩
  | _, e :: ps, h => by
    cases h with
    | cons a t =>
      obtain ⟨ts, rfl, h2⟩ := pairs_dx t
      cases a with
      | tup ea al =>
        rename_i ad xs
        have e1 : xs = [.int e.1, .int e.2] := by
          cases al with
          | cons a1 t1 =>
            cases t1 with
            | cons a2 t2 =>
              cases t2; cases a1; cases a2
              rfl
        subst e1
        refine ⟨ad :: ts, rfl, by simp [h2.1], fun i u q a b => ?_⟩
        cases i with
        | zero =>
          simp at a b
          subst a b
          exact ea
        | succ i => exact h2.2 i u q a b
theorem edges_dx {v : V} {ps : List (Nat × Nat)} (h : Dx H v (dEdges ps)) : ∃ a ts, v = .ref a ∧ EdgesAt H a ts ps := by
  cases h with
  | lst ea al =>
    obtain ⟨ts, rfl, h2⟩ := pairs_dx al
    exact ⟨_, ts, rfl, ea, h2⟩
theorem ev_links {n : Nat} {a b : Nat} (hs : σ[n]? = some (some (.ref p))) (hp : X.pool = some p) (h : Ev X ta σ H (vI (a : Int))) (h' : Ev X tb σ H (vI (b : Int))) (h0 : 0 < a) (h1 : a ≤ 30) (h2 : b ≤ 60) :
    Ev X (tCall spLinks [] E (tCons (tVar n) (tCons ta (tCons tb tNil)))) σ H (vX fun d => ∃ ps : List (Nat × Nat), d = dEdges ps ∧ Ee.Within a ps ∧ ps.length ≤ b) := fun Y H1 e Q q =>
  ⟨_, hs, h Y H1 e _ fun v H2 e2 p2 => h' Y H2 (e.trans e2) _ fun w H3 e3 p3 => by
    cases p2; cases p3
    have e23 := e2.trans e3
    have hp' : Y.pool = some p := e.pool.trans hp
    refine ⟨p, a, b, rfl, e23.inv.pl p hp', h0, h1, h2, fun H' l ts ps bb hq hl hts hE hw hlen => ?_⟩
    have x := sub_but e23.inv hp' bb hq
    refine q _ H' (e23.trans x) ⟨dEdges ps, ⟨ps, rfl, hw, hlen⟩, .lst ?_ (dx_pairs hE.2 fun t ht o ho => ?_)⟩
    · rw [wo_out (fresh_out e23.inv hl)]
      exact hE.1
    · rw [wo_out (fresh_out e23.inv (hts t ht))]
      exact ho⟩
end
/-- a method by its promise -/
structure Md (P : Program) (w : World) (K : PySem.W.Frag) (mg : Str → Option Value) (base : Heap) (C : Addr) (k : Nat) (m : Str) (ps : List Str) (sp : Sp) : Prop where
  ex : ∃ (g : Addr) (gd : FuncData), FnOk P w K mg base CX0 k g gd ps sp ∧ Meth K C m g ∧ Binds K gd ps []
def spLaw (K : PySem.W.Frag) : Sp := fun vs H Q _ => ∃ (a : Addr) (ns : List Int), vs = [.ref a] ∧ SqL K H a (ns.map V.int) ∧ ns.length ≤ 63 ∧ ∀ H', Q (.bl true) H'
section
variable {X : Cx}
theorem pe_fldK {K : PySem.W.Frag} {e : Expr} {f : Str} {pos : Pos} {ta : TE} (he : PE X e ta) (hb : attributeBase e f X.env (eval e X.env) = eval e X.env) (hK : X.K = K := by rfl) : PE X (.Attribute e f pos) (tFld K ta f) := by
  subst hK
  exact pe_fld he hb
theorem pi_listK {K : PySem.W.Frag} {tg e : Expr} {ta : TE} (he : PE X e ta) (hK : X.K = K := by rfl) : PI X tg e (iList K ta) := by
  subst hK
  exact pi_list he
theorem pi_tupK {K : PySem.W.Frag} {tg e : Expr} {ta : TE} (he : PE X e ta) (hK : X.K = K := by rfl) : PI X tg e (iTup K ta) := by
  subst hK
  exact pi_tup he
theorem op_eqDK {K : PySem.W.Frag} (hu : X.A.units + 64 < cLine) (hK : X.K = K := by rfl) : OpR X (compareOp .Eq) (rEqD K) := hK ▸ op_eqD hu
theorem op_neDK {K : PySem.W.Frag} (hu : X.A.units + 64 < cLine) (hK : X.K = K := by rfl) : OpR X (compareOp .NotEq) (rNeD K) := hK ▸ op_neD hu
end
/-! ### len of an own object -/
def rLenO (C : Addr) (sp : Sp) : List V → Hp → VK → Prop := fun xs H Q => ∃ a dx fs, xs = [.ref a] ∧ H a = some (.ins C dx fs) ∧ sp [.ref a] H (fun v H' => ∃ n : Nat, v = .int n ∧ n ≤ 1000 ∧ Q v H') E0
theorem call_lenO {X : Cx} {C f : Addr} {fd : FuncData} {k : Nat} {sp : Sp} (m : Meth X.K C "__len__" f) (F : FnOk X.prog X.w X.K X.mg X.base CX0 k f fd ["self"] sp) (b : Binds X.K fd ["self"] []) (hr : Room (k + 1) X.A) : CallR X (.builtin "len") (rLenO C sp) := by
  intro pins s σ H xs us Q I r h
  obtain ⟨a, dx, fs, rfl, ea, h⟩ := h
  cases r with
  | cons r1 r2 =>
    cases r1
    cases r2
    obtain ⟨mm, fr⟩ := I.fr
    obtain ⟨mA, O, _⟩ := ins_get I.hok ea
    obtain ⟨od, J, _⟩ := O.look
    refine PySem.W.len_K fr I.ok.mod.kin J m.at_ m.fn (wpAny_call (codeAny_mono (F.run X.A.in1 X.stack s H ⟨[.ref a], []⟩ [.ref a] [.ref a] _ E0 hr.in1 I.env0.in1 (b s [.ref a] I.kIn rfl) (.cons rfl .nil) h) fun out s' got => ?_))
    match out, got with
    | .error e, got => exact got.elim
    | .ok .next, got => exact got.elim
    | .ok .brk, got => exact got.elim
    | .ok .cont, got => exact got.elim
    | .ok (.ret u), got =>
      obtain ⟨v, H', I', rv, n, rfl, hn, q⟩ := I.after got
      obtain ⟨t, rfl⟩ := rv
      exact ⟨⟨by omega, by omega⟩, .int n, H', I'.tok _, ⟨_, rfl⟩, q⟩
section
variable {X : Vol} {σ : L2.St} {H : Hp} {te : TE} {C : Addr} {w : WD}
/-- len(web), by what __len__ promises -/
theorem ev_lenO (h : Ev X te σ H (vW C w)) : Ev X (tCB (rLenO C (spF (α := WD) (fun _ => True) (fun w => [vW C w]) (fun w => vI (w.ps.length : Int)))) (tCons te tNil)) σ H (vI (w.ps.length : Int)) := fun Y H1 e Q q => h Y H1 e _ fun v H2 e2 p2 => by
  obtain ⟨ok, p, dx, le, lf, lfn, lt, rfl, h1, _⟩ := id p2
  refine ⟨p, dx, _, rfl, wo_le _ _ h1, w, Y.S, True.intro, e2.inv.live, .cons p2 .nil, fun v H' s r => ?_⟩
  cases r
  exact ⟨w.ps.length, rfl, by have := ok.l60; omega, q _ H' (e2.trans (.same s e2.inv)) (.int _)⟩
end
end Wb

namespace Wb
open PySem L2 Ee Lm LamX
local macro_rules | `(tactic| get_elem_tactic_trivial) => `(tactic| first
  | assumption | (refine Sub.upD (by assumption) ?_; get_elem_tactic_trivial) | (refine Sub.upP (by assumption) ?_; get_elem_tactic_trivial))
local macro_rules | `(tactic| trivial) => `(tactic| first
  | exact ev_int | exact ev_bl | exact ev_non | exact ev_str | exact ed_nil | exact ea_nil | exact eo_none | exact et_yes
  | exact ev_var rfl (Dx.int _) | exact ev_var rfl (Dx.bl _) | exact ev_var rfl (Dx.str _) | exact ev_var rfl Dx.non
  | (refine ev_varD rfl ?_; get_elem_tactic_trivial) | (refine ev_varW rfl ?_; get_elem_tactic_trivial)
  | (refine ed_cons ?_ ?_ <;> trivial) | (refine ea_cons ?_ ?_ <;> trivial) | (refine eo_some ?_ <;> trivial)
  | (refine ev_I0 ?_ ?_ <;> trivial) | (refine ev_I ?_ ?_ ?_ <;> try trivial) | (refine ev_cmp ?_ ?_ <;> trivial) | (refine ev_neg ?_ <;> trivial) | (refine ev_chain ?_ ?_ ?_ <;> trivial)
  | (refine ev_eqI ?_ ?_ <;> trivial) | (refine ev_neI ?_ ?_ <;> trivial) | (refine ev_eqS ?_ ?_ <;> trivial) | (refine ev_neS ?_ ?_ <;> trivial) | (refine ev_eqB ?_ ?_ <;> trivial) | (refine ev_neB ?_ ?_ <;> trivial)
  | (refine et_test ?_ <;> trivial) | (refine et_B ?_ <;> trivial) | (refine et_not ?_ <;> trivial)
  | (refine ev_lenL ?_ <;> trivial) | (refine ev_lenT ?_ <;> trivial)
  | (refine ev_ixL ?_ ?_ ?_ <;> try trivial) | (refine ev_ixT ?_ ?_ ?_ <;> try trivial)
  | (refine fld_count ?_ (by assumption) <;> trivial) | (refine fld_pairs ?_ (by assumption) <;> trivial) | (refine fld_mod ?_ (by assumption) <;> trivial) | (refine fld_nums ?_ (by assumption) <;> trivial) | (refine fld_firsts ?_ (by assumption) <;> trivial) | (refine fld_ties ?_ (by assumption) <;> trivial)
  | (refine ev_lenO ?_ <;> trivial) | (refine ev_isTup ?_ <;> trivial) | (refine ev_isLst ?_ <;> trivial)
  | (refine ev_isint ?_ <;> trivial) | (refine ev_between ?_ ?_ ?_ <;> trivial)
  | (refine (en_listL ?_).ev <;> trivial) | (refine (en_listT ?_).ev <;> trivial) | (refine (en_lst ?_ ?_).ev <;> try trivial) | (refine ev_tup ?_ ?_ <;> try trivial) | (refine (en_cat ?_ ?_ ?_).ev <;> try trivial))
abbrev s_weberr : Stmt := inClass (top 5) 0
theorem sc_weberr : FnScope ["self", "value"] ["self", "value"] (defScope s_weberr) := ⟨rfl, rfl, rfl, by decide +kernel, rfl, by decide +kernel, by decide +kernel⟩
theorem ok_weberr {P : Program} {w : World} {K : PySem.W.Frag} {mg : Str → Option Value} {base : Heap} {f : Addr} {fd : FuncData} (F : Fun K "__init__" "WebError.__init__" s_weberr f fd) : FnOk P w K mg base CX0 1 f fd ["self", "value"] (spWE K) := by
  refine F.ok sc_weberr (fun vs H Q E h => ?_) (fun cdv A outer s H vs Q E hr h => ?_)
  · obtain ⟨a, C, x, rfl, _⟩ := h
    rfl
  · obtain ⟨a, C, x, rfl, T, no, ha, q⟩ := h
    refine ⟨_, pss_one (ps_ost (pv 0) (pv 1)), ?_⟩
    exact ⟨_, rfl, _, rfl, a, C, rfl, T, no, .inl ⟨ha, fun dx n ne => q dx n ne⟩⟩
def spSize (C : Addr) : Sp := spF (α := WD) (fun _ => True) (fun w => [vW C w]) (fun w => vI w.n)
abbrev N_m_size : List Str := ["self"]
section
variable {P : Program} {w : World} {K : PySem.W.Frag} {mg : Str → Option Value} {base : Heap} {C : Addr} {fW_ CW_InvalidPotential CW_InvalidWeights : Addr}
theorem sc_m_size : FnScope N_m_size ["self"] (defScope s_m_size) := ⟨rfl, rfl, rfl, by decide +kernel, rfl, by decide +kernel, by decide +kernel⟩
theorem ok_m_size {f : Addr} {fd : FuncData} (F : Fun K "size" "Web.size" s_m_size f fd) (B : Bn mg) (T : Txt K mg C) :
    FnOk P w K mg base CX0 1 f fd ["self"] (spSize C) := by
  refine F.ok sc_m_size (fun vs H Q E h => ?_) (fun cdv A outer s H vs Q E hr h => ?_)
  · exact spF_len h fun _ => rfl
  · obtain ⟨w, S, hp, hS, hA, q⟩ := h
    rcases hA with _ | ⟨p1, _ | _⟩
    have iv := pure0.I hS
    refine ⟨_, (pss_one (ps_ret (pe_fldK (K := K) (pv 0) rfl))), ?_⟩
    refine q_ret ?_ iv fun v H1 e p => q v H1 (pure0.same e) p
    trivial
end
def spMod (C : Addr) : Sp := spF (α := WD) (fun _ => True) (fun w => [vW C w]) (fun w => vI w.m)
abbrev N_m_modulus : List Str := ["self"]
section
variable {P : Program} {w : World} {K : PySem.W.Frag} {mg : Str → Option Value} {base : Heap} {C : Addr} {fW_ CW_InvalidPotential CW_InvalidWeights : Addr}
theorem sc_m_modulus : FnScope N_m_modulus ["self"] (defScope s_m_modulus) := ⟨rfl, rfl, rfl, by decide +kernel, rfl, by decide +kernel, by decide +kernel⟩
theorem ok_m_modulus {f : Addr} {fd : FuncData} (F : Fun K "modulus" "Web.modulus" s_m_modulus f fd) (B : Bn mg) (T : Txt K mg C) :
    FnOk P w K mg base CX0 1 f fd ["self"] (spMod C) := by
  refine F.ok sc_m_modulus (fun vs H Q E h => ?_) (fun cdv A outer s H vs Q E hr h => ?_)
  · exact spF_len h fun _ => rfl
  · obtain ⟨w, S, hp, hS, hA, q⟩ := h
    rcases hA with _ | ⟨p1, _ | _⟩
    have iv := pure0.I hS
    refine ⟨_, (pss_one (ps_ret (pe_fldK (K := K) (pv 0) rfl))), ?_⟩
    refine q_ret ?_ iv fun v H1 e p => q v H1 (pure0.same e) p
    trivial
end
def spEdges (C : Addr) : Sp := spN (α := WD) (fun _ => True) (fun w => [vW C w]) (fun w => dEdges w.ps)
abbrev N_m_edges : List Str := ["self"]
section
variable {P : Program} {w : World} {K : PySem.W.Frag} {mg : Str → Option Value} {base : Heap} {C : Addr} {fW_ CW_InvalidPotential CW_InvalidWeights : Addr}
theorem sc_m_edges : FnScope N_m_edges ["self"] (defScope s_m_edges) := ⟨rfl, rfl, rfl, by decide +kernel, rfl, by decide +kernel, by decide +kernel⟩
theorem ok_m_edges {f : Addr} {fd : FuncData} (F : Fun K "edges" "Web.edges" s_m_edges f fd) (B : Bn mg) (T : Txt K mg C) :
    FnOk P w K mg base CX0 1 f fd ["self"] (spEdges C) := by
  refine F.ok sc_m_edges (fun vs H Q E h => ?_) (fun cdv A outer s H vs Q E hr h => ?_)
  · exact spN_len h fun _ => rfl
  · obtain ⟨w, S, hp, hS, hA, q⟩ := h
    rcases hA with _ | ⟨p1, _ | _⟩
    have iv := pure0.I hS
    refine ⟨_, (pss_one (ps_ret (pe_callTy call_list_of (by rfl) B.list (by decide +kernel) (pa_cons (pe_fldK (K := K) (pv 0) rfl) pa_nil)))), ?_⟩
    refine q_retN ?_ iv fun v H1 n e p => q v H1 (pure0.same e) n p
    refine en_listL ?_
    trivial
end
def spLen (C : Addr) : Sp := spF (α := WD) (fun _ => True) (fun w => [vW C w]) (fun w => vI (w.ps.length : Int))
abbrev N_m_len : List Str := ["self"]
section
variable {P : Program} {w : World} {K : PySem.W.Frag} {mg : Str → Option Value} {base : Heap} {C : Addr} {fW_ CW_InvalidPotential CW_InvalidWeights : Addr}
theorem sc_m_len : FnScope N_m_len ["self"] (defScope s_m_len) := ⟨rfl, rfl, rfl, by decide +kernel, rfl, by decide +kernel, by decide +kernel⟩
theorem ok_m_len {f : Addr} {fd : FuncData} (F : Fun K "__len__" "Web.__len__" s_m_len f fd) (B : Bn mg) (T : Txt K mg C) :
    FnOk P w K mg base CX0 1 f fd ["self"] (spLen C) := by
  refine F.ok sc_m_len (fun vs H Q E h => ?_) (fun cdv A outer s H vs Q E hr h => ?_)
  · exact spF_len h fun _ => rfl
  · obtain ⟨w, S, hp, hS, hA, q⟩ := h
    rcases hA with _ | ⟨p1, _ | _⟩
    have iv := pure0.I hS
    refine ⟨_, (pss_one (ps_ret (pe_callB call_len_seq (by rfl) B.len PySem.boot_len (pa_cons (pe_fldK (K := K) (pv 0) rfl) pa_nil)))), ?_⟩
    refine q_ret ?_ iv fun v H1 e p => q v H1 (pure0.same e) p
    refine (ev_lenL (fld_pairs ?_ T)).cast (by rw [List.length_map])
    trivial
end
def spEdge (C : Addr) : Sp := spF (α := WD × Nat) (fun a => a.2 < a.1.ps.length) (fun a => [vW C a.1, vI (a.2 : Int)]) (fun a => vD (dPair (Wm.at2 a.1.ps a.2)))
theorem at_pairs {ps : List (Nat × Nat)} {i : Nat} (h : i < ps.length) : atI (ps.map dPair) (i : Int) = some (dPair (Wm.at2 ps i)) := atI_nat (by
  rw [List.getElem?_map, List.getElem?_eq_getElem h]
  exact congrArg (fun e => some (dPair e)) (Wm.at2_get (List.getElem?_eq_getElem h)).symm)
abbrev N_m_edge : List Str := ["self", "number"]
section
variable {P : Program} {w : World} {K : PySem.W.Frag} {mg : Str → Option Value} {base : Heap} {C : Addr} {fW_ CW_InvalidPotential CW_InvalidWeights : Addr}
theorem sc_m_edge : FnScope N_m_edge ["self", "number"] (defScope s_m_edge) := ⟨rfl, rfl, rfl, by decide +kernel, rfl, by decide +kernel, by decide +kernel⟩
theorem ok_m_edge {f : Addr} {fd : FuncData} (F : Fun K "edge" "Web.edge" s_m_edge f fd) (B : Bn mg) (T : Txt K mg C)
    (D_is_between : Df P w K mg base 2 "is_between" ["thing", "low", "high"] (spBetween K)) :
    FnOk P w K mg base CX0 3 f fd ["self", "number"] (spEdge C) := by
  obtain ⟨g_is_between, gd_is_between, G_is_between, mg_is_between, kp_is_between, bb_is_between⟩ := D_is_between.ex
  refine F.ok sc_m_edge (fun vs H Q E h => ?_) (fun cdv A outer s H vs Q E hr h => ?_)
  · exact spF_len h fun _ => rfl
  · obtain ⟨⟨w, i⟩, S, hp, hS, hA, q⟩ := h
    rcases hA with _ | ⟨p1, _ | ⟨p2, _ | _⟩⟩
    have iv := pure0.I hS
    cases p2
    refine ⟨_, (pss_cons (ps_if (pt_not (pt_val (pe_call G_is_between (hr.mono (by decide)) rfl mg_is_between kp_is_between bb_is_between .nil pass0 (pa_cons (pv 1) (pa_cons pe_int (pa_cons (pe_op op_sub (pe_callB call_len_seq (by rfl) B.len PySem.boot_len (pa_cons (pe_fldK (K := K) (pv 0) rfl) pa_nil)) pe_int) pa_nil)))))) (pss_one ps_never) pss_nil)
      (pss_one (ps_ret (pe_ix (r := rIxL K) ix_list (pe_fldK (K := K) (pv 0) rfl) (pv 1) (fun _ _ => rfl))))), ?_⟩
    refine q_guard (EvT.cast (et_not (et_B (ev_between (d := .int i) (lo := 0) (hi := (w.ps.length : Int) - 1) ?_ ?_ ?_))) ?_) iv fun H1 e1 => ?_
    · trivial
    · trivial
    · refine ev_I0 ((ev_lenL (fld_pairs ?_ T)).cast (by rw [List.length_map])) ?_ <;> trivial
    · show (!decide (0 ≤ (i : Int) ∧ (i : Int) ≤ (w.ps.length : Int) - 1)) = false
      have hp' : i < w.ps.length := hp
      rw [decide_eq_true (by omega)]
      rfl
    · refine q_ret (ev_ixL (fld_pairs ?_ T) ?_ (at_pairs hp)) e1.inv fun v H2 e2 p => q v H2 (pure0.same (e1.trans e2)) p <;> trivial
end
end Wb

namespace Wb
open PySem L2 Ee Lm LamX
local macro_rules | `(tactic| get_elem_tactic_trivial) => `(tactic| first
  | assumption | (refine Sub.upD (by assumption) ?_; get_elem_tactic_trivial) | (refine Sub.upP (by assumption) ?_; get_elem_tactic_trivial))
local macro_rules | `(tactic| trivial) => `(tactic| first
  | exact ev_int | exact ev_bl | exact ev_non | exact ev_str | exact ed_nil | exact ea_nil | exact eo_none | exact et_yes
  | exact ev_var rfl (Dx.int _) | exact ev_var rfl (Dx.bl _) | exact ev_var rfl (Dx.str _) | exact ev_var rfl Dx.non
  | (refine ev_varD rfl ?_; get_elem_tactic_trivial) | (refine ev_varW rfl ?_; get_elem_tactic_trivial)
  | (refine ed_cons ?_ ?_ <;> trivial) | (refine ea_cons ?_ ?_ <;> trivial) | (refine eo_some ?_ <;> trivial)
  | (refine ev_I0 ?_ ?_ <;> trivial) | (refine ev_I ?_ ?_ ?_ <;> try trivial) | (refine ev_cmp ?_ ?_ <;> trivial) | (refine ev_neg ?_ <;> trivial) | (refine ev_chain ?_ ?_ ?_ <;> trivial)
  | (refine ev_eqI ?_ ?_ <;> trivial) | (refine ev_neI ?_ ?_ <;> trivial) | (refine ev_eqS ?_ ?_ <;> trivial) | (refine ev_neS ?_ ?_ <;> trivial) | (refine ev_eqB ?_ ?_ <;> trivial) | (refine ev_neB ?_ ?_ <;> trivial)
  | (refine et_test ?_ <;> trivial) | (refine et_B ?_ <;> trivial) | (refine et_not ?_ <;> trivial)
  | (refine ev_lenL ?_ <;> trivial) | (refine ev_lenT ?_ <;> trivial)
  | (refine ev_ixL ?_ ?_ ?_ <;> try trivial) | (refine ev_ixT ?_ ?_ ?_ <;> try trivial)
  | (refine fld_count ?_ (by assumption) <;> trivial) | (refine fld_pairs ?_ (by assumption) <;> trivial) | (refine fld_mod ?_ (by assumption) <;> trivial) | (refine fld_nums ?_ (by assumption) <;> trivial) | (refine fld_firsts ?_ (by assumption) <;> trivial) | (refine fld_ties ?_ (by assumption) <;> trivial)
  | (refine ev_lenO ?_ <;> trivial) | (refine ev_isTup ?_ <;> trivial) | (refine ev_isLst ?_ <;> trivial)
  | (refine ev_isint ?_ <;> trivial) | (refine ev_between ?_ ?_ ?_ <;> trivial)
  | (refine (en_listL ?_).ev <;> trivial) | (refine (en_listT ?_).ev <;> trivial) | (refine (en_lst ?_ ?_).ev <;> try trivial) | (refine ev_tup ?_ ?_ <;> try trivial) | (refine (en_cat ?_ ?_ ?_).ev <;> try trivial))
def wayB : PyData → Bool
  | .int i => decide (i ∈ ([1, -1] : List Int))
  | _ => false
def stepB (m : Nat) : PyData → Bool
  | .tuple [x, y] => betw x 0 ((m : Int) - 1) && wayB y
  | _ => false
def spIsStep (C : Addr) : Sp := spF (α := WD × PyData) (fun _ => True) (fun a => [vW C a.1, vD a.2]) (fun a => vB (stepB a.1.ps.length a.2))
end Wb

namespace Wb
open PySem L2 Ee Lm LamX
local macro_rules | `(tactic| get_elem_tactic_trivial) => `(tactic| first
  | assumption | (refine Sub.upD (by assumption) ?_; get_elem_tactic_trivial) | (refine Sub.upP (by assumption) ?_; get_elem_tactic_trivial))
local macro_rules | `(tactic| trivial) => `(tactic| first
  | exact ev_int | exact ev_bl | exact ev_non | exact ev_str | exact ed_nil | exact ea_nil | exact eo_none | exact et_yes
  | exact ev_var rfl (Dx.int _) | exact ev_var rfl (Dx.bl _) | exact ev_var rfl (Dx.str _) | exact ev_var rfl Dx.non
  | (refine ev_varD rfl ?_; get_elem_tactic_trivial) | (refine ev_varW rfl ?_; get_elem_tactic_trivial)
  | (refine ed_cons ?_ ?_ <;> trivial) | (refine ea_cons ?_ ?_ <;> trivial) | (refine eo_some ?_ <;> trivial)
  | (refine ev_I0 ?_ ?_ <;> trivial) | (refine ev_I ?_ ?_ ?_ <;> try trivial) | (refine ev_cmp ?_ ?_ <;> trivial) | (refine ev_neg ?_ <;> trivial) | (refine ev_chain ?_ ?_ ?_ <;> trivial)
  | (refine ev_eqI ?_ ?_ <;> trivial) | (refine ev_neI ?_ ?_ <;> trivial) | (refine ev_eqS ?_ ?_ <;> trivial) | (refine ev_neS ?_ ?_ <;> trivial) | (refine ev_eqB ?_ ?_ <;> trivial) | (refine ev_neB ?_ ?_ <;> trivial)
  | (refine et_test ?_ <;> trivial) | (refine et_B ?_ <;> trivial) | (refine et_not ?_ <;> trivial)
  | (refine ev_lenL ?_ <;> trivial) | (refine ev_lenT ?_ <;> trivial)
  | (refine ev_ixL ?_ ?_ ?_ <;> try trivial) | (refine ev_ixT ?_ ?_ ?_ <;> try trivial)
  | (refine fld_count ?_ (by assumption) <;> trivial) | (refine fld_pairs ?_ (by assumption) <;> trivial) | (refine fld_mod ?_ (by assumption) <;> trivial) | (refine fld_nums ?_ (by assumption) <;> trivial) | (refine fld_firsts ?_ (by assumption) <;> trivial) | (refine fld_ties ?_ (by assumption) <;> trivial)
  | (refine ev_lenO ?_ <;> trivial) | (refine ev_isTup ?_ <;> trivial) | (refine ev_isLst ?_ <;> trivial)
  | (refine ev_isint ?_ <;> trivial) | (refine ev_between ?_ ?_ ?_ <;> trivial)
  | (refine (en_listL ?_).ev <;> trivial) | (refine (en_listT ?_).ev <;> trivial) | (refine (en_lst ?_ ?_).ev <;> try trivial) | (refine ev_tup ?_ ?_ <;> try trivial) | (refine (en_cat ?_ ?_ ?_).ev <;> try trivial))
def endsAt (ps : List (Nat × Nat)) (i : Nat) (y : Int) : Nat × Nat := if y = 1 then Wm.at2 ps i else ((Wm.at2 ps i).2, (Wm.at2 ps i).1)
def endsD (ps : List (Nat × Nat)) : PyData → Nat × Nat
  | .tuple [.int i, .int y] => endsAt ps i.toNat y
  | _ => (0, 0)
def spStepEnds (C : Addr) : Sp := spF (α := WD × PyData) (fun a => stepB a.1.ps.length a.2 = true) (fun a => [vW C a.1, vD a.2]) (fun a => vD (dPair (endsD a.1.ps a.2)))
theorem step_is {m : Nat} {d : PyData} (h : stepB m d = true) : ∃ (i : Nat) (y : Int), d = .tuple [dN i, .int y] ∧ i < m ∧ (y = 1 ∨ y = -1) := by
  unfold stepB at h
  split at h
  · rename_i x y
    simp only [Bool.and_eq_true] at h
    obtain ⟨h1, h2⟩ := h
    cases x with
    | int i =>
      have h3 := of_decide_eq_true h1
      cases y with
      | int j =>
        have h4 : j ∈ ([1, -1] : List Int) := of_decide_eq_true h2
        refine ⟨i.toNat, j, ?_, by omega, by simpa using h4⟩
        have : ((i.toNat : Nat) : Int) = i := Int.toNat_of_nonneg h3.1
        rw [dN, this]
      | _ => cases h2
    | _ => cases h1
  · cases h
end Wb

namespace Wb
open PySem L2 Ee Lm LamX
local macro_rules | `(tactic| get_elem_tactic_trivial) => `(tactic| first
  | assumption | (refine Sub.upD (by assumption) ?_; get_elem_tactic_trivial) | (refine Sub.upP (by assumption) ?_; get_elem_tactic_trivial))
local macro_rules | `(tactic| trivial) => `(tactic| first
  | exact ev_int | exact ev_bl | exact ev_non | exact ev_str | exact ed_nil | exact ea_nil | exact eo_none | exact et_yes
  | exact ev_var rfl (Dx.int _) | exact ev_var rfl (Dx.bl _) | exact ev_var rfl (Dx.str _) | exact ev_var rfl Dx.non
  | (refine ev_varD rfl ?_; get_elem_tactic_trivial) | (refine ev_varW rfl ?_; get_elem_tactic_trivial)
  | (refine ed_cons ?_ ?_ <;> trivial) | (refine ea_cons ?_ ?_ <;> trivial) | (refine eo_some ?_ <;> trivial)
  | (refine ev_I0 ?_ ?_ <;> trivial) | (refine ev_I ?_ ?_ ?_ <;> try trivial) | (refine ev_cmp ?_ ?_ <;> trivial) | (refine ev_neg ?_ <;> trivial) | (refine ev_chain ?_ ?_ ?_ <;> trivial)
  | (refine ev_eqI ?_ ?_ <;> trivial) | (refine ev_neI ?_ ?_ <;> trivial) | (refine ev_eqS ?_ ?_ <;> trivial) | (refine ev_neS ?_ ?_ <;> trivial) | (refine ev_eqB ?_ ?_ <;> trivial) | (refine ev_neB ?_ ?_ <;> trivial)
  | (refine et_test ?_ <;> trivial) | (refine et_B ?_ <;> trivial) | (refine et_not ?_ <;> trivial)
  | (refine ev_lenL ?_ <;> trivial) | (refine ev_lenT ?_ <;> trivial)
  | (refine ev_ixL ?_ ?_ ?_ <;> try trivial) | (refine ev_ixT ?_ ?_ ?_ <;> try trivial)
  | (refine fld_count ?_ (by assumption) <;> trivial) | (refine fld_pairs ?_ (by assumption) <;> trivial) | (refine fld_mod ?_ (by assumption) <;> trivial) | (refine fld_nums ?_ (by assumption) <;> trivial) | (refine fld_firsts ?_ (by assumption) <;> trivial) | (refine fld_ties ?_ (by assumption) <;> trivial)
  | (refine ev_lenO ?_ <;> trivial) | (refine ev_isTup ?_ <;> trivial) | (refine ev_isLst ?_ <;> trivial)
  | (refine ev_isint ?_ <;> trivial) | (refine ev_between ?_ ?_ ?_ <;> trivial)
  | (refine (en_listL ?_).ev <;> trivial) | (refine (en_listT ?_).ev <;> trivial) | (refine (en_lst ?_ ?_).ev <;> try trivial) | (refine ev_tup ?_ ?_ <;> try trivial) | (refine (en_cat ?_ ?_ ?_).ev <;> try trivial))
def joinB : PyData → Bool
  | .tuple [.tuple [_, .int x], .tuple [.int y, _]] => decide (x = y)
  | _ => false
def spLinked : Sp := spF (α := List (Nat × Nat)) (fun a => a.length ≤ 5000) (fun a => [vD (.list (a.map dPair))]) (fun a => vB ((dZip (a.map dPair) ((a.map dPair).drop 1)).all joinB))
end Wb

namespace Wb
open PySem L2 Ee Lm LamX
local macro_rules | `(tactic| get_elem_tactic_trivial) => `(tactic| first
  | assumption | (refine Sub.upD (by assumption) ?_; get_elem_tactic_trivial) | (refine Sub.upP (by assumption) ?_; get_elem_tactic_trivial))
local macro_rules | `(tactic| trivial) => `(tactic| first
  | exact ev_int | exact ev_bl | exact ev_non | exact ev_str | exact ed_nil | exact ea_nil | exact eo_none | exact et_yes
  | exact ev_var rfl (Dx.int _) | exact ev_var rfl (Dx.bl _) | exact ev_var rfl (Dx.str _) | exact ev_var rfl Dx.non
  | (refine ev_varD rfl ?_; get_elem_tactic_trivial) | (refine ev_varW rfl ?_; get_elem_tactic_trivial)
  | (refine ed_cons ?_ ?_ <;> trivial) | (refine ea_cons ?_ ?_ <;> trivial) | (refine eo_some ?_ <;> trivial)
  | (refine ev_I0 ?_ ?_ <;> trivial) | (refine ev_I ?_ ?_ ?_ <;> try trivial) | (refine ev_cmp ?_ ?_ <;> trivial) | (refine ev_neg ?_ <;> trivial) | (refine ev_chain ?_ ?_ ?_ <;> trivial)
  | (refine ev_eqI ?_ ?_ <;> trivial) | (refine ev_neI ?_ ?_ <;> trivial) | (refine ev_eqS ?_ ?_ <;> trivial) | (refine ev_neS ?_ ?_ <;> trivial) | (refine ev_eqB ?_ ?_ <;> trivial) | (refine ev_neB ?_ ?_ <;> trivial)
  | (refine et_test ?_ <;> trivial) | (refine et_B ?_ <;> trivial) | (refine et_not ?_ <;> trivial)
  | (refine ev_lenL ?_ <;> trivial) | (refine ev_lenT ?_ <;> trivial)
  | (refine ev_ixL ?_ ?_ ?_ <;> try trivial) | (refine ev_ixT ?_ ?_ ?_ <;> try trivial)
  | (refine fld_count ?_ (by assumption) <;> trivial) | (refine fld_pairs ?_ (by assumption) <;> trivial) | (refine fld_mod ?_ (by assumption) <;> trivial) | (refine fld_nums ?_ (by assumption) <;> trivial) | (refine fld_firsts ?_ (by assumption) <;> trivial) | (refine fld_ties ?_ (by assumption) <;> trivial)
  | (refine ev_lenO ?_ <;> trivial) | (refine ev_isTup ?_ <;> trivial) | (refine ev_isLst ?_ <;> trivial)
  | (refine ev_isint ?_ <;> trivial) | (refine ev_between ?_ ?_ ?_ <;> trivial)
  | (refine (en_listL ?_).ev <;> trivial) | (refine (en_listT ?_).ev <;> trivial) | (refine (en_lst ?_ ?_).ev <;> try trivial) | (refine ev_tup ?_ ?_ <;> try trivial) | (refine (en_cat ?_ ?_ ?_).ev <;> try trivial))
def pairsE (ps : List (Nat × Nat)) (ds : List PyData) : List PyData := ds.map fun d => dPair (endsD ps d)
def walkB (w : WD) : PyData → Bool
  | .list ds => decide (0 < ds.length) && (ds.all (stepB w.ps.length) && (dZip (pairsE w.ps ds) ((pairsE w.ps ds).drop 1)).all joinB)
  | _ => false
def spIsWalk (C : Addr) : Sp := spF (α := WD × PyData) (fun a => ∀ ds, a.2 = .list ds → ds.length ≤ 5000) (fun a => [vW C a.1, vD a.2]) (fun a => vB (walkB a.1 a.2))
theorem walk_no {w : WD} {d : PyData} (h : isLst d = false) : walkB w d = false := by cases d <;> first | rfl | cases h
def startD (ps : List (Nat × Nat)) : PyData → Nat
  | .list (d :: _) => (endsD ps d).1
  | _ => 0
def stopD (ps : List (Nat × Nat)) : PyData → Nat
  | .list ds => (endsD ps (ds.getLastD .none)).2
  | _ => 0
theorem walk_pos {w : WD} {ds : List PyData} (h : walkB w (.list ds) = true) : 0 < ds.length ∧ ∀ d ∈ ds, stepB w.ps.length d = true := by
  simp only [walkB, Bool.and_eq_true] at h
  exact ⟨of_decide_eq_true h.1, List.all_eq_true.mp h.2.1⟩
theorem atI_last {ds : List PyData} (h : 0 < ds.length) : atI ds (-1) = some (ds.getLastD .none) := by
  have e : ixN ds.length (-1) = some (ds.length - 1) := by
    unfold ixN
    rw [if_neg (by decide), if_pos (by omega)]
    congr 1
    omega
  unfold atI
  rw [e]
  show ds[ds.length - 1]? = _
  rw [← List.getLast?_eq_getElem?, List.getLastD_eq_getLast?]
  cases h2 : ds.getLast? with
  | none => rw [List.getLast?_eq_none_iff] at h2; subst h2; cases h
  | some d => rfl
def closedB (w : WD) (d : PyData) : Bool := walkB w d && decide (startD w.ps d = stopD w.ps d)
end Wb

namespace Wb
open PySem L2 Ee Lm LamX
local macro_rules | `(tactic| get_elem_tactic_trivial) => `(tactic| first
  | assumption | (refine Sub.upD (by assumption) ?_; get_elem_tactic_trivial) | (refine Sub.upP (by assumption) ?_; get_elem_tactic_trivial))
local macro_rules | `(tactic| trivial) => `(tactic| first
  | exact ev_int | exact ev_bl | exact ev_non | exact ev_str | exact ed_nil | exact ea_nil | exact eo_none | exact et_yes
  | exact ev_var rfl (Dx.int _) | exact ev_var rfl (Dx.bl _) | exact ev_var rfl (Dx.str _) | exact ev_var rfl Dx.non
  | (refine ev_varD rfl ?_; get_elem_tactic_trivial) | (refine ev_varW rfl ?_; get_elem_tactic_trivial)
  | (refine ed_cons ?_ ?_ <;> trivial) | (refine ea_cons ?_ ?_ <;> trivial) | (refine eo_some ?_ <;> trivial)
  | (refine ev_I0 ?_ ?_ <;> trivial) | (refine ev_I ?_ ?_ ?_ <;> try trivial) | (refine ev_cmp ?_ ?_ <;> trivial) | (refine ev_neg ?_ <;> trivial) | (refine ev_chain ?_ ?_ ?_ <;> trivial)
  | (refine ev_eqI ?_ ?_ <;> trivial) | (refine ev_neI ?_ ?_ <;> trivial) | (refine ev_eqS ?_ ?_ <;> trivial) | (refine ev_neS ?_ ?_ <;> trivial) | (refine ev_eqB ?_ ?_ <;> trivial) | (refine ev_neB ?_ ?_ <;> trivial)
  | (refine et_test ?_ <;> trivial) | (refine et_B ?_ <;> trivial) | (refine et_not ?_ <;> trivial)
  | (refine ev_lenL ?_ <;> trivial) | (refine ev_lenT ?_ <;> trivial)
  | (refine ev_ixL ?_ ?_ ?_ <;> try trivial) | (refine ev_ixT ?_ ?_ ?_ <;> try trivial)
  | (refine fld_count ?_ (by assumption) <;> trivial) | (refine fld_pairs ?_ (by assumption) <;> trivial) | (refine fld_mod ?_ (by assumption) <;> trivial) | (refine fld_nums ?_ (by assumption) <;> trivial) | (refine fld_firsts ?_ (by assumption) <;> trivial) | (refine fld_ties ?_ (by assumption) <;> trivial)
  | (refine ev_lenO ?_ <;> trivial) | (refine ev_isTup ?_ <;> trivial) | (refine ev_isLst ?_ <;> trivial)
  | (refine ev_isint ?_ <;> trivial) | (refine ev_between ?_ ?_ ?_ <;> trivial)
  | (refine (en_listL ?_).ev <;> trivial) | (refine (en_listT ?_).ev <;> trivial) | (refine (en_lst ?_ ?_).ev <;> try trivial) | (refine ev_tup ?_ ?_ <;> try trivial) | (refine (en_cat ?_ ?_ ?_).ev <;> try trivial))
def spResidue (C : Addr) : Sp := spF (α := WD × Int) (fun _ => True) (fun a => [vW C a.1, vI a.2]) (fun a => vI (red a.1.m a.2))
theorem ok_of {C : Addr} {w : WD} {H : Hp} {v : V} (h : (vW C w).at_ H v) : w.Ok := h.1
abbrev N_residue : List Str := ["web", "number"]
section
variable {P : Program} {w : World} {K : PySem.W.Frag} {mg : Str → Option Value} {base : Heap} {C : Addr} {fW_ CW_InvalidPotential CW_InvalidWeights : Addr}
theorem sc_residue : FnScope N_residue ["web", "number"] (defScope s_residue) := ⟨rfl, rfl, rfl, by decide +kernel, rfl, by decide +kernel, by decide +kernel⟩
theorem ok_residue {f : Addr} {fd : FuncData} (F : Fun K "residue" "residue" s_residue f fd) (B : Bn mg) (T : Txt K mg C)
    (D_is_integer : Df P w K mg base 1 "is_integer" ["thing"] (spInt K))
    (D_m_modulus : Md P w K mg base C 1 "modulus" ["self"] (spMod C)) :
    FnOk P w K mg base CX0 2 f fd ["web", "number"] (spResidue C) := by
  obtain ⟨g_is_integer, gd_is_integer, G_is_integer, mg_is_integer, kp_is_integer, bb_is_integer⟩ := D_is_integer.ex
  obtain ⟨g_m_modulus, gd_m_modulus, G_m_modulus, ml_m_modulus, bb_m_modulus⟩ := D_m_modulus.ex
  refine F.ok sc_residue (fun vs H Q E h => ?_) (fun cdv A outer s H vs Q E hr h => ?_)
  · exact spF_len h fun _ => rfl
  · obtain ⟨⟨w, z⟩, S, hp, hS, hA, q⟩ := h
    rcases hA with _ | ⟨p1, _ | ⟨p2, _ | _⟩⟩
    rename_i v1
    cases p2
    have iv := pure0.I hS
    refine ⟨_, (pss_cons (ps_if (pt_not (pt_val (pe_call G_is_integer (hr.mono (by decide)) rfl mg_is_integer kp_is_integer bb_is_integer .nil pass0 (pa_cons (pv 1) pa_nil)))) (pss_one ps_never) pss_nil)
      (pss_cons (ps_if (pt_cmpR op_eq (pe_meth0 (pv 0) T.cl ml_m_modulus G_m_modulus (hr.mono (by decide)) bb_m_modulus .nil pass0) pe_int (nomark _)) (pss_one (ps_ret (pv 1))) pss_nil)
      (pss_one (ps_ret (pe_op op_mod (pv 1) (pe_meth0 (pv 0) T.cl ml_m_modulus G_m_modulus (hr.mono (by decide)) bb_m_modulus .nil pass0)))))), ?_⟩
    refine q_guard (EvT.cast (et_not (et_B (ev_isint (ev_varD rfl (.int z))))) rfl) iv fun H1 e1 => ?_
    refine q_if1 (et_test (ev_eqI (ev_meth w (ev_varW rfl (e1.upP p1)) (ins_web (by decide +kernel)) ea_nil rfl True.intro) ev_int)) e1.inv (fun hb H2 e2 => ?_) (fun hb H2 e2 => ?_)
    · have hm : w.m = 0 := of_decide_eq_true hb
      refine q_ret (ev_varD rfl (.int z)) e2.inv fun v H3 e3 p => q v H3 (pure0.same (e1.trans (e2.trans e3))) ?_
      show Dx _ v (.int (red w.m z))
      rw [red, if_pos hm]
      exact p
    · have hm : ¬ w.m = 0 := of_decide_eq_false hb
      have ok : w.Ok := ok_of p1
      refine q_ret (ev_I (g := fun i j => i % j) (ev_varD rfl (.int z)) (ev_meth w (ev_varW rfl ((e1.trans e2).upP p1)) (ins_web (by decide +kernel)) ea_nil rfl True.intro) ?_) e2.inv fun v H3 e3 p => q v H3 (pure0.same (e1.trans (e2.trans e3))) ?_
      · show (0 : Int) < w.m
        have := ok.md
        omega
      · show Dx _ v (.int (red w.m z))
        rw [red, if_neg hm]
        exact p
end
def resB (m : Int) : PyData → Bool
  | .int z => decide (z = red m z)
  | _ => false
def spIsResidue (C : Addr) : Sp := spF (α := WD × PyData) (fun _ => True) (fun a => [vW C a.1, vD a.2]) (fun a => vB (resB a.1.m a.2))
abbrev N_is_residue : List Str := ["web", "thing"]
section
variable {P : Program} {w : World} {K : PySem.W.Frag} {mg : Str → Option Value} {base : Heap} {C : Addr} {fW_ CW_InvalidPotential CW_InvalidWeights : Addr}
theorem sc_is_residue : FnScope N_is_residue ["web", "thing"] (defScope s_is_residue) := ⟨rfl, rfl, rfl, by decide +kernel, rfl, by decide +kernel, by decide +kernel⟩
theorem ok_is_residue {f : Addr} {fd : FuncData} (F : Fun K "is_residue" "is_residue" s_is_residue f fd) (B : Bn mg) (T : Txt K mg C)
    (D_residue : Df P w K mg base 2 "residue" ["web", "number"] (spResidue C))
    (D_is_integer : Df P w K mg base 1 "is_integer" ["thing"] (spInt K)) :
    FnOk P w K mg base CX0 3 f fd ["web", "thing"] (spIsResidue C) := by
  obtain ⟨g_residue, gd_residue, G_residue, mg_residue, kp_residue, bb_residue⟩ := D_residue.ex
  obtain ⟨g_is_integer, gd_is_integer, G_is_integer, mg_is_integer, kp_is_integer, bb_is_integer⟩ := D_is_integer.ex
  refine F.ok sc_is_residue (fun vs H Q E h => ?_) (fun cdv A outer s H vs Q E hr h => ?_)
  · exact spF_len h fun _ => rfl
  · obtain ⟨⟨w, d⟩, S, hp, hS, hA, q⟩ := h
    rcases hA with _ | ⟨p1, _ | ⟨p2, _ | _⟩⟩
    rename_i v1 v2
    have iv := pure0.I hS
    refine ⟨_, (pss_one (ps_ret (pe_and (pe_call G_is_integer (hr.mono (by decide)) rfl mg_is_integer kp_is_integer bb_is_integer .nil pass0 (pa_cons (pv 1) pa_nil)) (pe_one (pe_cmpR op_eq (pv 1) (pe_call G_residue (hr.mono (by decide)) rfl mg_residue kp_residue bb_residue .nil pass0 (pa_cons (pv 0) (pa_cons (pv 1) pa_nil))) (nomark _)))))), ?_⟩
    cases hd : isInt d with
    | false =>
      have e0 : resB w.m d = false := by cases d <;> first | rfl | cases hd
      refine q_ret (P := vB (isInt d && false)) (ev_andV (ev_isint (ev_varD rfl p2)) fun z => by rw [hd] at z; cases z) iv fun v H1 e1 p => q v H1 (pure0.same e1) ?_
      show Dx _ v (.bool (resB w.m d))
      rw [e0]
      rw [Bool.and_false] at p
      exact p
    | true =>
      cases d with
      | int z =>
        cases p2
        refine q_ret (P := vB (isInt (.int z) && decide (z = red w.m z))) (ev_andV (ev_isint (ev_varD rfl (.int z))) fun _ => ev_eqI (ev_varD rfl (.int z)) (ev_call (w, z) (ea_cons (ev_varW rfl p1) (ea_cons (ev_varD rfl (.int z)) ea_nil)) True.intro)) iv fun v H1 e1 p => q v H1 (pure0.same e1) p
      | _ => cases hd
end
end Wb

namespace Wb
open PySem L2 Ee Lm LamX
local macro_rules | `(tactic| get_elem_tactic_trivial) => `(tactic| first
  | assumption | (refine Sub.upD (by assumption) ?_; get_elem_tactic_trivial) | (refine Sub.upP (by assumption) ?_; get_elem_tactic_trivial))
local macro_rules | `(tactic| trivial) => `(tactic| first
  | exact ev_int | exact ev_bl | exact ev_non | exact ev_str | exact ed_nil | exact ea_nil | exact eo_none | exact et_yes
  | exact ev_var rfl (Dx.int _) | exact ev_var rfl (Dx.bl _) | exact ev_var rfl (Dx.str _) | exact ev_var rfl Dx.non
  | (refine ev_varD rfl ?_; get_elem_tactic_trivial) | (refine ev_varW rfl ?_; get_elem_tactic_trivial)
  | (refine ed_cons ?_ ?_ <;> trivial) | (refine ea_cons ?_ ?_ <;> trivial) | (refine eo_some ?_ <;> trivial)
  | (refine ev_I0 ?_ ?_ <;> trivial) | (refine ev_I ?_ ?_ ?_ <;> try trivial) | (refine ev_cmp ?_ ?_ <;> trivial) | (refine ev_neg ?_ <;> trivial) | (refine ev_chain ?_ ?_ ?_ <;> trivial)
  | (refine ev_eqI ?_ ?_ <;> trivial) | (refine ev_neI ?_ ?_ <;> trivial) | (refine ev_eqS ?_ ?_ <;> trivial) | (refine ev_neS ?_ ?_ <;> trivial) | (refine ev_eqB ?_ ?_ <;> trivial) | (refine ev_neB ?_ ?_ <;> trivial)
  | (refine et_test ?_ <;> trivial) | (refine et_B ?_ <;> trivial) | (refine et_not ?_ <;> trivial)
  | (refine ev_lenL ?_ <;> trivial) | (refine ev_lenT ?_ <;> trivial)
  | (refine ev_ixL ?_ ?_ ?_ <;> try trivial) | (refine ev_ixT ?_ ?_ ?_ <;> try trivial)
  | (refine fld_count ?_ (by assumption) <;> trivial) | (refine fld_pairs ?_ (by assumption) <;> trivial) | (refine fld_mod ?_ (by assumption) <;> trivial) | (refine fld_nums ?_ (by assumption) <;> trivial) | (refine fld_firsts ?_ (by assumption) <;> trivial) | (refine fld_ties ?_ (by assumption) <;> trivial)
  | (refine ev_lenO ?_ <;> trivial) | (refine ev_isTup ?_ <;> trivial) | (refine ev_isLst ?_ <;> trivial)
  | (refine ev_isint ?_ <;> trivial) | (refine ev_between ?_ ?_ ?_ <;> trivial)
  | (refine (en_listL ?_).ev <;> trivial) | (refine (en_listT ?_).ev <;> trivial) | (refine (en_lst ?_ ?_).ev <;> try trivial) | (refine ev_tup ?_ ?_ <;> try trivial) | (refine (en_cat ?_ ?_ ?_).ev <;> try trivial))
def ressB (m : Int) (n : Nat) : PyData → Bool
  | .list ds => decide (ds.length = n) && ds.all (resB m)
  | _ => false
def spAreResidues (C : Addr) : Sp := spF (α := WD × PyData × Nat) (fun a => ∀ ds, a.2.1 = .list ds → ds.length ≤ 5000) (fun a => [vW C a.1, vD a.2.1, vI (a.2.2 : Int)]) (fun a => vB (ressB a.1.m a.2.2 a.2.1))
abbrev N_are_residues : List Str := ["web", "thing", "count", "entry"]
section
variable {P : Program} {w : World} {K : PySem.W.Frag} {mg : Str → Option Value} {base : Heap} {C : Addr} {fW_ CW_InvalidPotential CW_InvalidWeights : Addr}
theorem sc_are_residues : FnScope N_are_residues ["web", "thing", "count"] (defScope s_are_residues) := ⟨rfl, rfl, rfl, by decide +kernel, rfl, by decide +kernel, by decide +kernel⟩
theorem ok_are_residues {f : Addr} {fd : FuncData} (F : Fun K "are_residues" "are_residues" s_are_residues f fd) (B : Bn mg) (T : Txt K mg C)
    (D_is_residue : Df P w K mg base 3 "is_residue" ["web", "thing"] (spIsResidue C)) :
    FnOk P w K mg base CX0 4 f fd ["web", "thing", "count"] (spAreResidues C) := by
  obtain ⟨g_is_residue, gd_is_residue, G_is_residue, mg_is_residue, kp_is_residue, bb_is_residue⟩ := D_is_residue.ex
  refine F.ok sc_are_residues (fun vs H Q E h => ?_) (fun cdv A outer s H vs Q E hr h => ?_)
  · exact spF_len h fun _ => rfl
  · obtain ⟨⟨w, d, n⟩, S, hp, hS, hA, q⟩ := h
    rcases hA with _ | ⟨p1, _ | ⟨p2, _ | ⟨p3, _ | _⟩⟩⟩
    cases p3
    rename_i v1 v2
    have iv := pure0.I hS
    refine ⟨_, (pss_cons (ps_if (PW.pt (pw_or (pt_not (pt_val (pe_callB call_isi (by rfl) B.isinstance (by decide +kernel) (pa_cons (pv 1) (pa_cons (pe_bltn (v := .ty "list") (by rfl) B.list (by decide +kernel) rfl) pa_nil))))) (pw_or1 (pt_cmpR op_ne (pe_callB call_len_seq (by rfl) B.len PySem.boot_len (pa_cons (pv 1) pa_nil)) (pv 2) (nomark _))))) (pss_one (ps_ret pe_bl)) pss_nil)
      (pss_one (ps_ret (pe_callB (cr_all rfl) (by rfl) B.all (by decide +kernel) (pa_cons (pe_lc (own := [("entry", 3)]) (g := (gName 3)) rfl sc_are_residues.nd (pi_list (pv 1)) (blkOk_by (N := N_are_residues) (sc := (defScope s_are_residues)) (by decide +kernel)) (fun _ _ _ _ _ => (pg_name (i := 3) sc_are_residues.nd rfl (Or.inl rfl))) (fun _ _ _ _ _ => pts_nil) (fun _ _ _ _ _ => (pe_call G_is_residue (hr.mono (by decide)) rfl mg_is_residue kp_is_residue bb_is_residue .nil pass0 (pa_cons (pv 0) (pa_cons (pv 3) pa_nil))))) pa_nil))))), ?_⟩
    cases hd : isLst d with
    | false =>
      refine q_if1 (b := true) ((et_or (a := true) (b := false) (EvT.cast (et_not (et_B (ev_isLst (ev_varD rfl p2)))) (by rw [hd]; rfl)) (fun z => nomatch z))) iv (fun _ H1 e1 => ?_) (fun z => nomatch z)
      refine q_ret ev_bl e1.inv fun v H2 e2 p => q v H2 (pure0.same (e1.trans e2)) ?_
      show Dx _ v (.bool (ressB w.m n d))
      have e0 : ressB w.m n d = false := by cases d <;> first | rfl | cases hd
      rw [e0]
      exact p
    | true =>
      cases d with
      | list ds =>
        have hl : ds.length ≤ 5000 := hp ds rfl
        have ex : Ev (pure0 S) (tVar 1) [some v1, some v2, some (.int (n : Int)), none] H (vL ds) := ev_varD rfl p2
        have t1 : ∀ b, decide ((ds.length : Int) = (n : Int)) = b → EvT (pure0 S) (tOr (tNot (tB (tCB (rIsi K) (tCons (tVar 1) (tCons (tC (.ty "list")) tNil))))) (tTest (tOp rNe (tCB (fun xs H Q => ∃ p ys, xs = [V.ref p] ∧ (SqL K H p ys ∨ SqT K H p ys) ∧ Q (.int ys.length) H) (tCons (tVar 1) tNil)) (tVar 2)))) [some v1, some v2, some (.int (n : Int)), none] H (!b) := fun b hb =>
          EvT.cast (et_or (et_not (et_B (ev_isLst ex))) fun _ => et_test (ev_neI (ev_lenL ex) (ev_varD rfl (.int _)))) (by show (!isLst (.list ds) || !decide ((ds.length : Int) = (n : Int))) = (!b); rw [hb]; rfl)
        by_cases h0 : ds.length = n
        · refine q_guard (t1 true (decide_eq_true (by omega))) iv fun H1 e1 => ?_
          have a1 : (ds.map fun d => PyData.bool (resB w.m d)) = (ds.map (resB w.m)).map PyData.bool := by rw [List.map_map]; rfl
          refine q_ret (P := vB (ds.all (resB w.m))) ((ev_all (bs := ds.map (resB w.m)) ((en_map (fun d => .bool (resB w.m d)) (es_list (ex.mono e1)) (by omega) fun Y i d v H2 hd s hv => tgt_name ⟨rfl, rfl, ev_call (w, d) (ea_cons (ev_varW rfl ((e1.trans s).upP p1)) (ea_cons (ev_varD rfl hv) ea_nil)) True.intro⟩).ev.cast (by rw [a1]))).cast (by rw [List.all_map]; rfl)) e1.inv fun v H2 e2 p => q v H2 (pure0.same (e1.trans e2)) ?_
          show Dx _ v (.bool (ressB w.m n (.list ds)))
          rw [ressB, decide_eq_true h0, Bool.true_and]
          exact p
        · refine q_if1 (t1 false (decide_eq_false (by omega))) iv (fun _ H1 e1 => ?_) (fun z => nomatch z)
          refine q_ret ev_bl e1.inv fun v H2 e2 p => q v H2 (pure0.same (e1.trans e2)) ?_
          show Dx _ v (.bool (ressB w.m n (.list ds)))
          rw [ressB, decide_eq_false h0, Bool.false_and]
          exact p
      | _ => cases hd
end
abbrev gainsB (w : WD) (d : PyData) : Bool := ressB w.m w.ps.length d
def spIsGains (C : Addr) : Sp := spF (α := WD × PyData) (fun a => ∀ ds, a.2 = .list ds → ds.length ≤ 5000) (fun a => [vW C a.1, vD a.2]) (fun a => vB (gainsB a.1 a.2))
abbrev potB (w : WD) (d : PyData) : Bool := ressB w.m w.n d
def spIsPotential (C : Addr) : Sp := spF (α := WD × PyData) (fun a => ∀ ds, a.2 = .list ds → ds.length ≤ 5000) (fun a => [vW C a.1, vD a.2]) (fun a => vB (potB a.1 a.2))
abbrev N_is_potential : List Str := ["web", "thing"]
section
variable {P : Program} {w : World} {K : PySem.W.Frag} {mg : Str → Option Value} {base : Heap} {C : Addr} {fW_ CW_InvalidPotential CW_InvalidWeights : Addr}
theorem sc_is_potential : FnScope N_is_potential ["web", "thing"] (defScope s_is_potential) := ⟨rfl, rfl, rfl, by decide +kernel, rfl, by decide +kernel, by decide +kernel⟩
theorem ok_is_potential {f : Addr} {fd : FuncData} (F : Fun K "is_potential" "is_potential" s_is_potential f fd) (B : Bn mg) (T : Txt K mg C)
    (D_are_residues : Df P w K mg base 4 "are_residues" ["web", "thing", "count"] (spAreResidues C))
    (D_m_size : Md P w K mg base C 1 "size" ["self"] (spSize C)) :
    FnOk P w K mg base CX0 5 f fd ["web", "thing"] (spIsPotential C) := by
  obtain ⟨g_are_residues, gd_are_residues, G_are_residues, mg_are_residues, kp_are_residues, bb_are_residues⟩ := D_are_residues.ex
  obtain ⟨g_m_size, gd_m_size, G_m_size, ml_m_size, bb_m_size⟩ := D_m_size.ex
  refine F.ok sc_is_potential (fun vs H Q E h => ?_) (fun cdv A outer s H vs Q E hr h => ?_)
  · exact spF_len h fun _ => rfl
  · obtain ⟨⟨w, d⟩, S, hp, hS, hA, q⟩ := h
    rcases hA with _ | ⟨p1, _ | ⟨p2, _ | _⟩⟩
    rename_i v1 v2
    have iv := pure0.I hS
    refine ⟨_, (pss_one (ps_ret (pe_call G_are_residues (hr.mono (by decide)) rfl mg_are_residues kp_are_residues bb_are_residues .nil pass0 (pa_cons (pv 0) (pa_cons (pv 1) (pa_cons (pe_meth0 (pv 0) T.cl ml_m_size G_m_size (hr.mono (by decide)) bb_m_size .nil pass0) pa_nil)))))), ?_⟩
    exact q_ret (ev_call (w, d, w.n) (ea_cons (ev_varW rfl p1) (ea_cons (ev_varD rfl p2) (ea_cons (ev_meth w (ev_varW rfl p1) (ins_web (by decide +kernel)) ea_nil rfl True.intro) ea_nil))) hp) iv fun v H1 e1 p => q v H1 (pure0.same e1) p
end
abbrev dZs (l : List Int) : PyData := .list (l.map PyData.int)
def termD (g : List Int) : PyData → Int
  | .tuple [.int i, .int y] => y * g.getD i.toNat 0
  | _ => 0
def sumD (g : List Int) (ds : List PyData) : Int := (ds.map (termD g)).sum
def spWalkSum (C : Addr) : Sp := spF (α := WD × List Int × List PyData) (fun a => gainsB a.1 (dZs a.2.1) = true ∧ walkB a.1 (.list a.2.2) = true ∧ a.2.2.length ≤ 5000) (fun a => [vW C a.1, vD (dZs a.2.1), vL a.2.2]) (fun a => vI (red a.1.m (sumD a.2.1 a.2.2)))
theorem gains_len {w : WD} {g : List Int} (h : gainsB w (dZs g) = true) : g.length = w.ps.length := by
  simp only [gainsB, ressB, Bool.and_eq_true] at h
  have := of_decide_eq_true h.1
  rwa [List.length_map] at this
theorem at_ints {g : List Int} {i : Nat} (h : i < g.length) : atI (g.map PyData.int) (i : Int) = some (.int (g.getD i 0)) := atI_nat (by
  rw [List.getElem?_map, List.getElem?_eq_getElem h, List.getD_eq_getElem?_getD, List.getElem?_eq_getElem h]
  rfl)
end Wb

namespace Wb
open PySem L2 Ee Lm LamX
local macro_rules | `(tactic| get_elem_tactic_trivial) => `(tactic| first
  | assumption | (refine Sub.upD (by assumption) ?_; get_elem_tactic_trivial) | (refine Sub.upP (by assumption) ?_; get_elem_tactic_trivial))
local macro_rules | `(tactic| trivial) => `(tactic| first
  | exact ev_int | exact ev_bl | exact ev_non | exact ev_str | exact ed_nil | exact ea_nil | exact eo_none | exact et_yes
  | exact ev_var rfl (Dx.int _) | exact ev_var rfl (Dx.bl _) | exact ev_var rfl (Dx.str _) | exact ev_var rfl Dx.non
  | (refine ev_varD rfl ?_; get_elem_tactic_trivial) | (refine ev_varW rfl ?_; get_elem_tactic_trivial)
  | (refine ed_cons ?_ ?_ <;> trivial) | (refine ea_cons ?_ ?_ <;> trivial) | (refine eo_some ?_ <;> trivial)
  | (refine ev_I0 ?_ ?_ <;> trivial) | (refine ev_I ?_ ?_ ?_ <;> try trivial) | (refine ev_cmp ?_ ?_ <;> trivial) | (refine ev_neg ?_ <;> trivial) | (refine ev_chain ?_ ?_ ?_ <;> trivial)
  | (refine ev_eqI ?_ ?_ <;> trivial) | (refine ev_neI ?_ ?_ <;> trivial) | (refine ev_eqS ?_ ?_ <;> trivial) | (refine ev_neS ?_ ?_ <;> trivial) | (refine ev_eqB ?_ ?_ <;> trivial) | (refine ev_neB ?_ ?_ <;> trivial)
  | (refine et_test ?_ <;> trivial) | (refine et_B ?_ <;> trivial) | (refine et_not ?_ <;> trivial)
  | (refine ev_lenL ?_ <;> trivial) | (refine ev_lenT ?_ <;> trivial)
  | (refine ev_ixL ?_ ?_ ?_ <;> try trivial) | (refine ev_ixT ?_ ?_ ?_ <;> try trivial)
  | (refine fld_count ?_ (by assumption) <;> trivial) | (refine fld_pairs ?_ (by assumption) <;> trivial) | (refine fld_mod ?_ (by assumption) <;> trivial) | (refine fld_nums ?_ (by assumption) <;> trivial) | (refine fld_firsts ?_ (by assumption) <;> trivial) | (refine fld_ties ?_ (by assumption) <;> trivial)
  | (refine ev_lenO ?_ <;> trivial) | (refine ev_isTup ?_ <;> trivial) | (refine ev_isLst ?_ <;> trivial)
  | (refine ev_isint ?_ <;> trivial) | (refine ev_between ?_ ?_ ?_ <;> trivial)
  | (refine (en_listL ?_).ev <;> trivial) | (refine (en_listT ?_).ev <;> trivial) | (refine (en_lst ?_ ?_).ev <;> try trivial) | (refine ev_tup ?_ ?_ <;> try trivial) | (refine (en_cat ?_ ?_ ?_).ev <;> try trivial))
def szW (m z : Int) : Int := if m = 0 then ((red m z).natAbs : Int) else min (red m z) (m - red m z)
def spSizeOf (C : Addr) : Sp := spF (α := WD × Int) (fun _ => True) (fun a => [vW C a.1, vI a.2]) (fun a => vI (szW a.1.m a.2))
abbrev N_size_of : List Str := ["web", "number", "reduced"]
section
variable {P : Program} {w : World} {K : PySem.W.Frag} {mg : Str → Option Value} {base : Heap} {C : Addr} {fW_ CW_InvalidPotential CW_InvalidWeights : Addr}
theorem sc_size_of : FnScope N_size_of ["web", "number"] (defScope s_size_of) := ⟨rfl, rfl, rfl, by decide +kernel, rfl, by decide +kernel, by decide +kernel⟩
theorem ok_size_of {f : Addr} {fd : FuncData} (F : Fun K "size_of" "size_of" s_size_of f fd) (B : Bn mg) (T : Txt K mg C)
    (D_residue : Df P w K mg base 2 "residue" ["web", "number"] (spResidue C))
    (D_m_modulus : Md P w K mg base C 1 "modulus" ["self"] (spMod C)) :
    FnOk P w K mg base CX0 3 f fd ["web", "number"] (spSizeOf C) := by
  obtain ⟨g_residue, gd_residue, G_residue, mg_residue, kp_residue, bb_residue⟩ := D_residue.ex
  obtain ⟨g_m_modulus, gd_m_modulus, G_m_modulus, ml_m_modulus, bb_m_modulus⟩ := D_m_modulus.ex
  refine F.ok sc_size_of (fun vs H Q E h => ?_) (fun cdv A outer s H vs Q E hr h => ?_)
  · exact spF_len h fun _ => rfl
  · obtain ⟨⟨w, z⟩, S, hT, hS, hA, q⟩ := h
    rcases hA with _ | ⟨p1, _ | ⟨p2, _ | _⟩⟩
    cases p2
    rename_i v1
    have iv := pure0.I hS
    try dsimp only at hT p1 q
    refine ⟨_, (pss_cons (ps_set (i := 2) sc_size_of.nd rfl (Or.inl rfl) (pe_call G_residue (hr.mono (by decide)) rfl mg_residue kp_residue bb_residue .nil pass0 (pa_cons (pv 0) (pa_cons (pv 1) pa_nil))))
      (pss_cons (ps_if (pt_cmpR op_eq (pe_meth0 (pv 0) T.cl ml_m_modulus G_m_modulus (hr.mono (by decide)) bb_m_modulus .nil pass0) pe_int (nomark _)) (pss_one (ps_ret (pe_callB call_abs (by rfl) B.abs (by decide +kernel) (pa_cons (pv 2) pa_nil)))) pss_nil)
      (pss_one (ps_ret (pe_callB (call_min2 rfl) (by rfl) B.min (by decide +kernel) (pa_cons (pv 2) (pa_cons (pe_op op_sub (pe_meth0 (pv 0) T.cl ml_m_modulus G_m_modulus (hr.mono (by decide)) bb_m_modulus .nil pass0) (pv 2)) pa_nil))))))), ?_⟩
    have eT : Ext (pure0 S) H H := .refl iv
    refine q_asgI (X := pure0 S) (i := (red w.m z)) (ev_call (w, z) (ea_cons (ev_varW rfl p1) (ea_cons (ev_varD rfl (.int _)) ea_nil)) True.intro) iv fun H1 e2 => ?_
    replace p1 := e2.upP p1
    replace eT := eT.trans e2
    refine q_if1 (X := pure0 S) (b := (decide (w.m = 0))) (et_test (ev_eqI (ev_meth w (ev_varW rfl p1) (ins_web (by decide +kernel)) ea_nil rfl True.intro) ev_int)) e2.inv (fun hb H3 e4 => ?_) (fun hb H5 e6 => ?_)
    · replace p1 := e4.upP p1
      replace eT := eT.trans e4
      exact q_ret (X := pure0 S) (P := vI (szW w.m z)) (Ev.cast (ev_abs (ev_varD rfl (.int _))) (congrArg PyData.int (by unfold szW; rw [if_pos (of_decide_eq_true hb)]))) e4.inv fun v H7 e8 g => q v H7 (pure0.same (eT.trans e8)) g
    replace p1 := e6.upP p1
    replace eT := eT.trans e6
    exact q_ret (X := pure0 S) (P := vI (szW w.m z)) (Ev.cast (ev_min2 (ev_varD rfl (.int _)) (ev_I0 (g := fun i j => i - j) (ev_meth w (ev_varW rfl p1) (ins_web (by decide +kernel)) ea_nil rfl True.intro) (ev_varD rfl (.int _)))) (congrArg PyData.int (by unfold szW; rw [if_neg (of_decide_eq_false hb)]))) e6.inv fun v H9 e10 g => q v H9 (pure0.same (eT.trans e10)) g
end
end Wb

namespace Wb
open PySem L2 Ee Lm LamX
local macro_rules | `(tactic| get_elem_tactic_trivial) => `(tactic| first
  | assumption | (refine Sub.upD (by assumption) ?_; get_elem_tactic_trivial) | (refine Sub.upP (by assumption) ?_; get_elem_tactic_trivial))
local macro_rules | `(tactic| trivial) => `(tactic| first
  | exact ev_int | exact ev_bl | exact ev_non | exact ev_str | exact ed_nil | exact ea_nil | exact eo_none | exact et_yes
  | exact ev_var rfl (Dx.int _) | exact ev_var rfl (Dx.bl _) | exact ev_var rfl (Dx.str _) | exact ev_var rfl Dx.non
  | (refine ev_varD rfl ?_; get_elem_tactic_trivial) | (refine ev_varW rfl ?_; get_elem_tactic_trivial)
  | (refine ed_cons ?_ ?_ <;> trivial) | (refine ea_cons ?_ ?_ <;> trivial) | (refine eo_some ?_ <;> trivial)
  | (refine ev_I0 ?_ ?_ <;> trivial) | (refine ev_I ?_ ?_ ?_ <;> try trivial) | (refine ev_cmp ?_ ?_ <;> trivial) | (refine ev_neg ?_ <;> trivial) | (refine ev_chain ?_ ?_ ?_ <;> trivial)
  | (refine ev_eqI ?_ ?_ <;> trivial) | (refine ev_neI ?_ ?_ <;> trivial) | (refine ev_eqS ?_ ?_ <;> trivial) | (refine ev_neS ?_ ?_ <;> trivial) | (refine ev_eqB ?_ ?_ <;> trivial) | (refine ev_neB ?_ ?_ <;> trivial)
  | (refine et_test ?_ <;> trivial) | (refine et_B ?_ <;> trivial) | (refine et_not ?_ <;> trivial)
  | (refine ev_lenL ?_ <;> trivial) | (refine ev_lenT ?_ <;> trivial)
  | (refine ev_ixL ?_ ?_ ?_ <;> try trivial) | (refine ev_ixT ?_ ?_ ?_ <;> try trivial)
  | (refine fld_count ?_ (by assumption) <;> trivial) | (refine fld_pairs ?_ (by assumption) <;> trivial) | (refine fld_mod ?_ (by assumption) <;> trivial) | (refine fld_nums ?_ (by assumption) <;> trivial) | (refine fld_firsts ?_ (by assumption) <;> trivial) | (refine fld_ties ?_ (by assumption) <;> trivial)
  | (refine ev_lenO ?_ <;> trivial) | (refine ev_isTup ?_ <;> trivial) | (refine ev_isLst ?_ <;> trivial)
  | (refine ev_isint ?_ <;> trivial) | (refine ev_between ?_ ?_ ?_ <;> trivial)
  | (refine (en_listL ?_).ev <;> trivial) | (refine (en_listT ?_).ev <;> trivial) | (refine (en_lst ?_ ?_).ev <;> try trivial) | (refine ev_tup ?_ ?_ <;> try trivial) | (refine (en_cat ?_ ?_ ?_).ev <;> try trivial))
theorem potB_iff {w : WD} {g : List Int} : potB w (dZs g) = true ↔ g.length = w.n ∧ ∀ x ∈ g, red w.m x = x := by
  show (decide ((g.map PyData.int).length = w.n) && (g.map PyData.int).all (resB w.m)) = true ↔ _
  rw [Bool.and_eq_true, List.length_map, decide_eq_true_eq, List.all_map, List.all_eq_true]
  constructor
  · rintro ⟨h1, h2⟩
    exact ⟨h1, fun x hx => (of_decide_eq_true (h2 x hx)).symm⟩
  · rintro ⟨h1, h2⟩
    exact ⟨h1, fun x hx => decide_eq_true (h2 x hx).symm⟩
def spCheckPot (C : Addr) : Sp := spF (α := WD × List Int) (fun a => potB a.1 (dZs a.2) = true) (fun a => [vW C a.1, vD (dZs a.2)]) (fun a => vD .none)
abbrev N_check_potential : List Str := ["web", "potential"]
section
variable {P : Program} {w : World} {K : PySem.W.Frag} {mg : Str → Option Value} {base : Heap} {C : Addr} {fW_ CW_InvalidPotential CW_InvalidWeights : Addr}
theorem sc_check_potential : FnScope N_check_potential ["web", "potential"] (defScope s_check_potential) := ⟨rfl, rfl, rfl, by decide +kernel, rfl, by decide +kernel, by decide +kernel⟩
theorem ok_check_potential {f : Addr} {fd : FuncData} (F : Fun K "check_potential" "check_potential" s_check_potential f fd) (B : Bn mg) (T : Txt K mg C)
    (D_is_potential : Df P w K mg base 5 "is_potential" ["web", "thing"] (spIsPotential C)) :
    FnOk P w K mg base CX0 6 f fd ["web", "potential"] (spCheckPot C) := by
  obtain ⟨g_is_potential, gd_is_potential, G_is_potential, mg_is_potential, kp_is_potential, bb_is_potential⟩ := D_is_potential.ex
  refine F.ok sc_check_potential (fun vs H Q E h => ?_) (fun cdv A outer s H vs Q E hr h => ?_)
  · exact spF_len h fun _ => rfl
  · obtain ⟨⟨w, g⟩, S, hg, hS, hA, q⟩ := h
    rcases hA with _ | ⟨p1, _ | ⟨p2, _ | _⟩⟩
    rename_i v1 v2
    have iv := pure0.I hS
    dsimp only at hg p1 p2 q
    have hgl := (potB_iff.mp hg).1
    have n30 := (ok_of p1).n30
    refine ⟨_, (pss_one (ps_if (pt_not (pt_val (pe_call G_is_potential (hr.mono (by decide)) rfl mg_is_potential kp_is_potential bb_is_potential .nil pass0 (pa_cons (pv 0) (pa_cons (pv 1) pa_nil))))) (pss_one ps_never) pss_nil)), ?_⟩
    exact s_guard (EvT.cast (et_not (et_B (ev_call (w, dZs g) (ea_cons (ev_varW rfl p1) (ea_cons (ev_varD rfl p2) ea_nil)) (fun es he => by cases he; rw [List.length_map]; omega)))) (by show (!potB w (dZs g)) = false; rw [hg]; rfl)) iv fun H1 e1 => q _ H1 (pure0.same e1) .non
end
end Wb

namespace Wb
open PySem L2 Ee Lm LamX
local macro_rules | `(tactic| get_elem_tactic_trivial) => `(tactic| first
  | assumption | (refine Sub.upD (by assumption) ?_; get_elem_tactic_trivial) | (refine Sub.upP (by assumption) ?_; get_elem_tactic_trivial))
local macro_rules | `(tactic| trivial) => `(tactic| first
  | exact ev_int | exact ev_bl | exact ev_non | exact ev_str | exact ed_nil | exact ea_nil | exact eo_none | exact et_yes
  | exact ev_var rfl (Dx.int _) | exact ev_var rfl (Dx.bl _) | exact ev_var rfl (Dx.str _) | exact ev_var rfl Dx.non
  | (refine ev_varD rfl ?_; get_elem_tactic_trivial) | (refine ev_varW rfl ?_; get_elem_tactic_trivial)
  | (refine ed_cons ?_ ?_ <;> trivial) | (refine ea_cons ?_ ?_ <;> trivial) | (refine eo_some ?_ <;> trivial)
  | (refine ev_I0 ?_ ?_ <;> trivial) | (refine ev_I ?_ ?_ ?_ <;> try trivial) | (refine ev_cmp ?_ ?_ <;> trivial) | (refine ev_neg ?_ <;> trivial) | (refine ev_chain ?_ ?_ ?_ <;> trivial)
  | (refine ev_eqI ?_ ?_ <;> trivial) | (refine ev_neI ?_ ?_ <;> trivial) | (refine ev_eqS ?_ ?_ <;> trivial) | (refine ev_neS ?_ ?_ <;> trivial) | (refine ev_eqB ?_ ?_ <;> trivial) | (refine ev_neB ?_ ?_ <;> trivial)
  | (refine et_test ?_ <;> trivial) | (refine et_B ?_ <;> trivial) | (refine et_not ?_ <;> trivial)
  | (refine ev_lenL ?_ <;> trivial) | (refine ev_lenT ?_ <;> trivial)
  | (refine ev_ixL ?_ ?_ ?_ <;> try trivial) | (refine ev_ixT ?_ ?_ ?_ <;> try trivial)
  | (refine fld_count ?_ (by assumption) <;> trivial) | (refine fld_pairs ?_ (by assumption) <;> trivial) | (refine fld_mod ?_ (by assumption) <;> trivial) | (refine fld_nums ?_ (by assumption) <;> trivial) | (refine fld_firsts ?_ (by assumption) <;> trivial) | (refine fld_ties ?_ (by assumption) <;> trivial)
  | (refine ev_lenO ?_ <;> trivial) | (refine ev_isTup ?_ <;> trivial) | (refine ev_isLst ?_ <;> trivial)
  | (refine ev_isint ?_ <;> trivial) | (refine ev_between ?_ ?_ ?_ <;> trivial)
  | (refine (en_listL ?_).ev <;> trivial) | (refine (en_listT ?_).ev <;> trivial) | (refine (en_lst ?_ ?_).ev <;> try trivial) | (refine ev_tup ?_ ?_ <;> try trivial) | (refine (en_cat ?_ ?_ ?_).ev <;> try trivial))
abbrev fewL (d : PyData) : Prop := ∀ ds, d = .list ds → ds.length ≤ 5000
abbrev spGainsOk (C : Addr) : Sp := spF (α := WD × PyData) (fun a => fewL a.2 ∧ gainsB a.1 a.2 = true) (fun a => [vW C a.1, vD a.2]) (fun _ => vD .none)
abbrev spGainsBad (C CW : Addr) : Sp := spX (α := WD × PyData) (fun a => fewL a.2 ∧ gainsB a.1 a.2 = false) (fun a => [vW C a.1, vD a.2]) (fun _ => CW) (fun a => a.2)
def spCheckGainsX (C CW : Addr) : Sp := spR (spGainsOk C) (spGainsBad C CW)
abbrev spPotOk (C : Addr) : Sp := spF (α := WD × PyData) (fun a => fewL a.2 ∧ potB a.1 a.2 = true) (fun a => [vW C a.1, vD a.2]) (fun _ => vD .none)
abbrev spPotBad (C CW : Addr) : Sp := spX (α := WD × PyData) (fun a => fewL a.2 ∧ potB a.1 a.2 = false) (fun a => [vW C a.1, vD a.2]) (fun _ => CW) (fun a => a.2)
def spCheckPotX (C CW : Addr) : Sp := spR (spPotOk C) (spPotBad C CW)
abbrev N_check_potentialX : List Str := ["web", "potential"]
section
variable {P : Program} {w : World} {K : PySem.W.Frag} {mg : Str → Option Value} {base : Heap} {C : Addr} {fW_ CW_InvalidPotential CW_InvalidWeights : Addr}
theorem sc_check_potentialX : FnScope N_check_potentialX ["web", "potential"] (defScope s_check_potential) := ⟨rfl, rfl, rfl, by decide +kernel, rfl, by decide +kernel, by decide +kernel⟩
theorem ok_check_potentialX {f : Addr} {fd : FuncData} (F : Fun K "check_potential" "check_potential" s_check_potential f fd) (B : Bn mg) (T : Txt K mg C)
    (D_is_potential : Df P w K mg base 5 "is_potential" ["web", "thing"] (spIsPotential C))
    (XE_InvalidPotential : ExW K mg "InvalidPotential" CW_InvalidPotential fW_)
    (WE_ : WeD P w K mg base fW_) :
    FnOk P w K mg base (L2.CX P w) 6 f fd ["web", "potential"] (spCheckPotX C CW_InvalidPotential) := by
  obtain ⟨g_is_potential, gd_is_potential, G_is_potential, mg_is_potential, kp_is_potential, bb_is_potential⟩ := D_is_potential.ex
  obtain ⟨fdW_, GW_, bW_⟩ := WE_.ex
  refine F.okX sc_check_potentialX (fun vs H Q E h => ?_) (fun cdv A outer s H vs Q E hr h => ?_)
  · rcases h with h | h
    · exact spF_len h fun _ => rfl
    · exact spX_len h fun _ => rfl
  · have h0 := h
    refine ⟨_, (pss_one (ps_if (pt_not (pt_val (pe_call G_is_potential (hr.mono (by decide)) rfl mg_is_potential kp_is_potential bb_is_potential .nil pass0 (pa_cons (pv 0) (pa_cons (pv 1) pa_nil))))) (pss_one (ps_raise rfl (takes_of rfl rfl rfl rfl) (pmk_oex XE_InvalidPotential.o XE_InvalidPotential.init XE_InvalidPotential.ty GW_ (hr.mono (by decide)) bW_ .nil pass0 rfl XE_InvalidPotential.mg (pa_cons (pv 1) pa_nil)))) pss_nil)), ?_⟩
    rcases h0 with ⟨⟨w, d⟩, S, ⟨hf, hg⟩, hS, hA, q⟩ | ⟨⟨w, d⟩, S, ⟨hf, hg⟩, hS, hA, q⟩
    · rcases hA with _ | ⟨p1, _ | ⟨p2, _ | _⟩⟩
      have iv := pure0.I hS
      exact s_guard (EvT.cast (et_not (et_B (ev_call (w, d) (ea_cons (ev_varW rfl p1) (ea_cons (ev_varD rfl p2) ea_nil)) hf))) (by show (!potB w d) = false; rw [show potB w d = true from hg]; rfl)) iv fun H1 e1 => q _ H1 (pure0.same e1) .non
    · rcases hA with _ | ⟨p1, _ | ⟨p2, _ | _⟩⟩
      have iv := pure0.I hS
      exact s_if1 (b := true) (EvT.cast (et_not (et_B (ev_call (w, d) (ea_cons (ev_varW rfl p1) (ea_cons (ev_varD rfl p2) ea_nil)) hf))) (by show (!potB w d) = true; rw [show potB w d = false from hg]; rfl)) iv (fun _ H1 e1 => s_raise XE_InvalidPotential.o XE_InvalidPotential.no (ev_varD rfl (e1.upD p2)) e1.inv fun dd v H2 e2 hd r => q dd v H2 (pure0.same (e1.trans e2)) hd r) (fun z => nomatch z)
end
abbrev spNegBad (C CW : Addr) : Sp := spX (α := WD × PyData) (fun a => fewL a.2 ∧ potB a.1 a.2 = false) (fun a => [vW C a.1, vD a.2]) (fun _ => CW) (fun a => a.2)
theorem up_potBad {C CW : Addr} : ∀ vs H Q E, spPotBad C CW vs H Q E → spCheckPotX C CW vs H Q E := fun _ _ _ _ h => Or.inr h
theorem up_potOk {C CW : Addr} : ∀ vs H Q E, spPotOk C vs H Q E → spCheckPotX C CW vs H Q E := fun _ _ _ _ h => Or.inl h
end Wb

namespace Wb
open PySem L2 Ee Lm LamX
local macro_rules | `(tactic| get_elem_tactic_trivial) => `(tactic| first
  | assumption | (refine Sub.upD (by assumption) ?_; get_elem_tactic_trivial) | (refine Sub.upP (by assumption) ?_; get_elem_tactic_trivial))
local macro_rules | `(tactic| trivial) => `(tactic| first
  | exact ev_int | exact ev_bl | exact ev_non | exact ev_str | exact ed_nil | exact ea_nil | exact eo_none | exact et_yes
  | exact ev_var rfl (Dx.int _) | exact ev_var rfl (Dx.bl _) | exact ev_var rfl (Dx.str _) | exact ev_var rfl Dx.non
  | (refine ev_varD rfl ?_; get_elem_tactic_trivial) | (refine ev_varW rfl ?_; get_elem_tactic_trivial)
  | (refine ed_cons ?_ ?_ <;> trivial) | (refine ea_cons ?_ ?_ <;> trivial) | (refine eo_some ?_ <;> trivial)
  | (refine ev_I0 ?_ ?_ <;> trivial) | (refine ev_I ?_ ?_ ?_ <;> try trivial) | (refine ev_cmp ?_ ?_ <;> trivial) | (refine ev_neg ?_ <;> trivial) | (refine ev_chain ?_ ?_ ?_ <;> trivial)
  | (refine ev_eqI ?_ ?_ <;> trivial) | (refine ev_neI ?_ ?_ <;> trivial) | (refine ev_eqS ?_ ?_ <;> trivial) | (refine ev_neS ?_ ?_ <;> trivial) | (refine ev_eqB ?_ ?_ <;> trivial) | (refine ev_neB ?_ ?_ <;> trivial)
  | (refine et_test ?_ <;> trivial) | (refine et_B ?_ <;> trivial) | (refine et_not ?_ <;> trivial)
  | (refine ev_lenL ?_ <;> trivial) | (refine ev_lenT ?_ <;> trivial)
  | (refine ev_ixL ?_ ?_ ?_ <;> try trivial) | (refine ev_ixT ?_ ?_ ?_ <;> try trivial)
  | (refine fld_count ?_ (by assumption) <;> trivial) | (refine fld_pairs ?_ (by assumption) <;> trivial) | (refine fld_mod ?_ (by assumption) <;> trivial) | (refine fld_nums ?_ (by assumption) <;> trivial) | (refine fld_firsts ?_ (by assumption) <;> trivial) | (refine fld_ties ?_ (by assumption) <;> trivial)
  | (refine ev_lenO ?_ <;> trivial) | (refine ev_isTup ?_ <;> trivial) | (refine ev_isLst ?_ <;> trivial)
  | (refine ev_isint ?_ <;> trivial) | (refine ev_between ?_ ?_ ?_ <;> trivial)
  | (refine (en_listL ?_).ev <;> trivial) | (refine (en_listT ?_).ev <;> trivial) | (refine (en_lst ?_ ?_).ev <;> try trivial) | (refine ev_tup ?_ ?_ <;> try trivial) | (refine (en_cat ?_ ?_ ?_).ev <;> try trivial))
def spTies : Sp := spN (α := Nat × List (Nat × Nat) × List Nat) (fun a => a.1 ≤ 30 ∧ Ee.Within a.1 a.2.1 ∧ (∀ k ∈ a.2.2, k < a.2.1.length) ∧ a.2.2.length ≤ 60) (fun a => [vI (a.1 : Int), vD (dEdges a.2.1), vD (dNs a.2.2)]) (fun a => dTies a.1 (tiesOf a.2.1 a.2.2))
theorem dNs_get {l : List Nat} {i : Nat} {d : PyData} (h : (l.map dN)[i]? = some d) : ∃ k, l[i]? = some k ∧ d = dN k := by
  rw [List.getElem?_map] at h
  obtain ⟨k, h1, rfl⟩ := Option.map_eq_some_iff.mp h
  exact ⟨k, h1, rfl⟩
theorem tieOf_len (ps : List (Nat × Nat)) (k v : Nat) : (tieOf ps k v).length ≤ 2 := by
  unfold tieOf
  rw [List.length_append]
  have h1 : ∀ (c : Prop) [Decidable c] (x : PyData), (if c then [x] else []).length ≤ 1 := fun c _ x => by split <;> simp
  have a := h1 ((Wm.at2 ps k).1 = v) (.tuple [.tuple [dN k, .int 1], dN (Wm.at2 ps k).2])
  have b := h1 ((Wm.at2 ps k).2 = v) (.tuple [.tuple [dN k, .int (-1)], dN (Wm.at2 ps k).1])
  omega
theorem tiesOf_len (ps : List (Nat × Nat)) : ∀ (ks : List Nat) (v : Nat), (tiesOf ps ks v).length ≤ 2 * ks.length
  | [], _ => by simp [tiesOf]
  | k :: ks, v => by
    have ih := tiesOf_len ps ks v
    have a := tieOf_len ps k v
    unfold tiesOf at ih ⊢
    rw [List.flatMap_cons, List.length_append, List.length_cons]
    omega
theorem tiesOf_snoc (ps : List (Nat × Nat)) (ks : List Nat) (k v : Nat) : tiesOf ps (ks ++ [k]) v = tiesOf ps ks v ++ tieOf ps k v := by
  unfold tiesOf
  rw [List.flatMap_append]
  simp
theorem dTies_congr {n : Nat} {f g : Nat → List PyData} (h : ∀ v, f v = g v) : dTies n f = dTies n g := by
  have : f = g := funext h
  rw [this]
abbrev N_ties_of : List Str := ["size", "pairs", "numbers", "ties", "number", "tail", "head", "node"]
section
variable {P : Program} {w : World} {K : PySem.W.Frag} {mg : Str → Option Value} {base : Heap} {C : Addr} {fW_ CW_InvalidPotential CW_InvalidWeights : Addr}
theorem sc_ties_of : FnScope N_ties_of ["size", "pairs", "numbers"] (defScope s_ties_of) := ⟨rfl, rfl, rfl, by decide +kernel, rfl, by decide +kernel, by decide +kernel⟩
theorem ok_ties_of {f : Addr} {fd : FuncData} (F : Fun K "ties_of" "ties_of" s_ties_of f fd) (B : Bn mg) (T : Txt K mg C) :
    FnOk P w K mg base CX0 1 f fd ["size", "pairs", "numbers"] spTies := by
  refine F.ok sc_ties_of (fun vs H Q E h => ?_) (fun cdv A outer s H vs Q E hr h => ?_)
  · exact spN_len h fun _ => rfl
  · obtain ⟨⟨n, ps, ks⟩, S, ⟨hn, hw, hk, hkl⟩, hS, hA, q⟩ := h
    rcases hA with _ | ⟨p1, _ | ⟨p2, _ | ⟨p3, _ | _⟩⟩⟩
    rename_i v2 v3
    have iv := pure0.I hS
    dsimp only at hn hw hk hkl p2 p3 q
    cases p1
    refine ⟨_, (pss_cons (ps_setLc (i := 3) (own := [("node", 7)]) (g := (gName 7)) rfl sc_ties_of.nd rfl rfl (sw_true rfl rfl rfl (by decide +kernel)) (pi_range1 rfl B.range (pa_cons (pv 0) pa_nil)) (blkOk_by (N := N_ties_of) (sc := (defScope s_ties_of)) (by decide +kernel)) (fun _ _ _ _ _ => (pg_name (i := 7) sc_ties_of.nd rfl (Or.inl rfl))) (fun _ _ _ _ _ => pts_nil) (fun _ _ _ _ _ => (pe_lst pa_nil)))
      (pss_cons (ps_for PassesOwn.never rfl (pi_list (pv 2)) (pg_name (i := 4) sc_ties_of.nd rfl (Or.inl rfl))
      (pss_cons (ps_asg (pe_ix (r := rIxL K) ix_list (pv 1) (pv 4) (fun _ _ => rfl)) (pg_tup rfl (pgs_cons (pg_name (i := 5) sc_ties_of.nd rfl (Or.inl rfl)) (pgs_cons (pg_name (i := 6) sc_ties_of.nd rfl (Or.inl rfl)) pgs_nil))))
      (pss_cons (ps_expr (pe_bm PySem.F.plainAttrs_list PySem.F.slot_list_append PySem.F.type_list_append mt_append (pe_ix (r := rIxL K) ix_list (pv 3) (pv 5) (fun _ _ => rfl)) (pa_cons (pe_tup (pa_cons (pe_tup (pa_cons (pv 4) (pa_cons pe_int pa_nil))) (pa_cons (pv 6) pa_nil))) pa_nil)))
      (pss_one (ps_expr (pe_bm PySem.F.plainAttrs_list PySem.F.slot_list_append PySem.F.type_list_append mt_append (pe_ix (r := rIxL K) ix_list (pv 3) (pv 6) (fun _ _ => rfl)) (pa_cons (pe_tup (pa_cons (pe_tup (pa_cons (pv 4) (pa_cons (pe_un un_neg pe_int) pa_nil))) (pa_cons (pv 5) pa_nil))) pa_nil)))))))
      (pss_one (ps_ret (pv 3))))), ?_⟩
    refine ⟨_, rfl, n, rfl, by omega, by omega, fun D hD => lc_range (lo := 0) (n := (n : Int).toNat) (fun i H' => ∃ ls, MakT (pure0 S) H D ls H' i (fun _ => [])) ⟨[], MakT.start iv hD⟩ ?_ ?_⟩
    · rintro i H1 hi ⟨ls, m⟩
      refine ⟨rfl, tyes ⟨Nat.zero_le _, fun l hl => ?_⟩⟩
      obtain ⟨acc, h1, h2, m'⟩ := m.more hl
      exact ⟨acc, h1, by rw [h2]; exact small1000 (by omega), _, m'⟩
    · rintro H1 ⟨ls, m⟩
      have en : (n : Int).toNat = n := by omega
      rw [en] at m
      have i1 := m.sub.inv
      refine q_for (X := (pure0 S).addL (D :: ls)) (es_list (ev_varD rfl (m.sub.upD p3))) i1 fun H2 e2 => ⟨fun i σ' H' => ∃ u4 u5 u6, σ' = [some (.int (n : Int)), some v2, some v3, some (.ref D), u4, u5, u6, none] ∧ MakT (pure0 S) H D ls H' n (tiesOf ps (ks.take i)) ∧ Wk ((pure0 S).addL (D :: ls)) H2 ((pure0 S).addL (D :: ls)) H', ?_, ?_, ?_, ?_⟩
      · refine ⟨none, none, none, rfl, ?_, .refl e2.inv⟩
        obtain ⟨i0, h1, h2, h3, s, h4, h5⟩ := m
        have np : ∀ a ∈ D :: ls, ¬ ((pure0 S).addL (D :: ls)).V a := fun a ha => pure0.V (S := S)
        refine ⟨i0, h1, h2, h3, s.trans e2, e2.old _ _ (np D (by simp)) h4, fun v l hv => ?_⟩
        obtain ⟨xs, hx, hd⟩ := h5 v l hv
        exact ⟨xs, e2.old _ _ (np l (by simp [List.mem_of_getElem? hv])) hx, e2.upA hd⟩
      · rintro i σ' H' ⟨_, _, _, _, _, s⟩
        exact s
      · rintro i d x σ' H' H'' ⟨u4, u5, u6, rfl, m', _⟩ s e3 hd hx
        obtain ⟨k, hki, rfl⟩ := dNs_get hd
        cases hx
        have hkp := hk k (List.mem_of_getElem? hki)
        have hwe := hw (Wm.at2 ps k) (by rw [Wm.at2_get (List.getElem?_eq_getElem hkp)]; exact List.getElem_mem hkp)
        have m3 : MakT (pure0 S) H D ls H'' n (tiesOf ps (ks.take i)) := by
          obtain ⟨i0, h1, h2, h3, s', h4, h5⟩ := m'
          have np : ∀ a ∈ D :: ls, ¬ ((pure0 S).addL (D :: ls)).V a := fun a ha => pure0.V (S := S)
          refine ⟨i0, h1, h2, h3, s'.trans e3, e3.old _ _ (np D (by simp)) h4, fun v l hv => ?_⟩
          obtain ⟨xs, hx, hd⟩ := h5 v l hv
          exact ⟨xs, e3.old _ _ (np l (by simp [List.mem_of_getElem? hv])) hx, e3.upA hd⟩
        have s03 := m3.sub.wk
        refine q_unpack2 (X := (pure0 S).addL (D :: ls)) (d := dN (Wm.at2 ps k).1) (e := dN (Wm.at2 ps k).2) (ev_ixL (ds := ps.map dPair) (ev_varD rfl (s03.upD p2)) (ev_varD rfl (.int _)) (at_pairs hkp)) m3.sub.inv fun w1 w2 H4 e4 d1 d2 => ?_
        cases d1; cases d2
        have m4 : MakT (pure0 S) H D ls H4 n (tiesOf ps (ks.take i)) := by
          obtain ⟨i0, h1, h2, h3, s', h4, h5⟩ := m3
          have np : ∀ a ∈ D :: ls, ¬ ((pure0 S).addL (D :: ls)).V a := fun a ha => pure0.V (S := S)
          refine ⟨i0, h1, h2, h3, s'.trans e4, e4.old _ _ (np D (by simp)) h4, fun v l hv => ?_⟩
          obtain ⟨xs, hx, hd⟩ := h5 v l hv
          exact ⟨xs, e4.old _ _ (np l (by simp [List.mem_of_getElem? hv])) hx, e4.upA hd⟩
        have hlen := tiesOf_len ps (ks.take i)
        have htl : (ks.take i).length ≤ 60 := Nat.le_trans (by rw [List.length_take]; exact Nat.min_le_right _ _) hkl
        refine s_appT (E := { nx := _, rt := _, bk := _, ct := _ }) m4 hwe.1 rfl rfl (d := .tuple [.tuple [dN k, .int 1], dN (Wm.at2 ps k).2]) ?_ (by have := hlen (Wm.at2 ps k).1; omega) fun H5 m5 s5 => ?_
        · exact ev_tup (ed_cons (ev_tup (ed_cons (ev_varD rfl (.int _)) (ed_cons ev_int ed_nil)) (by show 2 ≤ 40000; decide)) (ed_cons (ev_varD rfl (.int _)) ed_nil)) (by show 2 ≤ 40000; decide)
        refine s_appT m5 hwe.2 rfl rfl (d := .tuple [.tuple [dN k, .int (-1)], dN (Wm.at2 ps k).1]) ?_ ?_ fun H6 m6 s6 => ?_
        · exact ev_tup (ed_cons (ev_tup (ed_cons (ev_varD rfl (.int _)) (ed_cons (ev_neg ev_int) ed_nil)) (by show 2 ≤ 40000; decide)) (ed_cons (ev_varD rfl (.int _)) ed_nil)) (by show 2 ≤ 40000; decide)
        · have a := hlen (Wm.at2 ps k).1
          have b := hlen (Wm.at2 ps k).2
          split
          · rw [List.length_append, List.length_singleton]; omega
          · omega
        refine ⟨_, _, _, rfl, ?_, s.trans ((e3.wk.trans e4.wk).trans (s5.trans s6))⟩
        have e0 : (fun u => if u = (Wm.at2 ps k).2 then (if (Wm.at2 ps k).2 = (Wm.at2 ps k).1 then tiesOf ps (ks.take i) (Wm.at2 ps k).1 ++ [.tuple [.tuple [dN k, .int 1], dN (Wm.at2 ps k).2]] else tiesOf ps (ks.take i) (Wm.at2 ps k).2) ++ [.tuple [.tuple [dN k, .int (-1)], dN (Wm.at2 ps k).1]]
            else if u = (Wm.at2 ps k).1 then tiesOf ps (ks.take i) (Wm.at2 ps k).1 ++ [.tuple [.tuple [dN k, .int 1], dN (Wm.at2 ps k).2]] else tiesOf ps (ks.take i) u) = tiesOf ps (ks.take (i + 1)) := by
          funext u
          rw [Wm.take_snoc hki, tiesOf_snoc]
          unfold tieOf
          generalize (Wm.at2 ps k).1 = t
          generalize (Wm.at2 ps k).2 = h
          by_cases h1 : u = h
          · subst h1
            by_cases h2 : u = t
            · subst h2; simp
            · simp [h2, Ne.symm h2]
          · by_cases h2 : u = t
            · subst h2; simp [h1, Ne.symm h1]
            · simp [h1, h2, Ne.symm h1, Ne.symm h2]
        rw [← e0]
        exact m6
      · rintro σ' H' ⟨u4, u5, u6, rfl, m', _⟩ _
        have el : (ks.map dN).length = ks.length := List.length_map ..
        rw [el, List.take_length] at m'
        obtain ⟨x, y⟩ := m'.done
        exact ⟨_, rfl, q D H' (pure0.same x) hD y⟩
end
end Wb

namespace Wb
open PySem L2 Ee Lm LamX
local macro_rules | `(tactic| get_elem_tactic_trivial) => `(tactic| first
  | assumption | (refine Sub.upD (by assumption) ?_; get_elem_tactic_trivial) | (refine Sub.upP (by assumption) ?_; get_elem_tactic_trivial))
local macro_rules | `(tactic| trivial) => `(tactic| first
  | exact ev_int | exact ev_bl | exact ev_non | exact ev_str | exact ed_nil | exact ea_nil | exact eo_none | exact et_yes
  | exact ev_var rfl (Dx.int _) | exact ev_var rfl (Dx.bl _) | exact ev_var rfl (Dx.str _) | exact ev_var rfl Dx.non
  | (refine ev_varD rfl ?_; get_elem_tactic_trivial) | (refine ev_varW rfl ?_; get_elem_tactic_trivial)
  | (refine ed_cons ?_ ?_ <;> trivial) | (refine ea_cons ?_ ?_ <;> trivial) | (refine eo_some ?_ <;> trivial)
  | (refine ev_I0 ?_ ?_ <;> trivial) | (refine ev_I ?_ ?_ ?_ <;> try trivial) | (refine ev_cmp ?_ ?_ <;> trivial) | (refine ev_neg ?_ <;> trivial) | (refine ev_chain ?_ ?_ ?_ <;> trivial)
  | (refine ev_eqI ?_ ?_ <;> trivial) | (refine ev_neI ?_ ?_ <;> trivial) | (refine ev_eqS ?_ ?_ <;> trivial) | (refine ev_neS ?_ ?_ <;> trivial) | (refine ev_eqB ?_ ?_ <;> trivial) | (refine ev_neB ?_ ?_ <;> trivial)
  | (refine et_test ?_ <;> trivial) | (refine et_B ?_ <;> trivial) | (refine et_not ?_ <;> trivial)
  | (refine ev_lenL ?_ <;> trivial) | (refine ev_lenT ?_ <;> trivial)
  | (refine ev_ixL ?_ ?_ ?_ <;> try trivial) | (refine ev_ixT ?_ ?_ ?_ <;> try trivial)
  | (refine fld_count ?_ (by assumption) <;> trivial) | (refine fld_pairs ?_ (by assumption) <;> trivial) | (refine fld_mod ?_ (by assumption) <;> trivial) | (refine fld_nums ?_ (by assumption) <;> trivial) | (refine fld_firsts ?_ (by assumption) <;> trivial) | (refine fld_ties ?_ (by assumption) <;> trivial)
  | (refine ev_lenO ?_ <;> trivial) | (refine ev_isTup ?_ <;> trivial) | (refine ev_isLst ?_ <;> trivial)
  | (refine ev_isint ?_ <;> trivial) | (refine ev_between ?_ ?_ ?_ <;> trivial)
  | (refine (en_listL ?_).ev <;> trivial) | (refine (en_listT ?_).ev <;> trivial) | (refine (en_lst ?_ ?_).ev <;> try trivial) | (refine ev_tup ?_ ?_ <;> try trivial) | (refine (en_cat ?_ ?_ ?_).ev <;> try trivial))
/-- self (new since Hb), size, edges, modulus -/
def spInit (C : Addr) : Sp := fun vs H Q _ => ∃ (Hb : Hp) (p dx : Addr) (S : Addr → Prop) (w : WD) (v : V), vs = [.ref p, .int w.n, v, .int w.m] ∧ Hb p = none ∧ Hb dx = none ∧ dx ≠ p ∧ H = upd (upd Hb dx (.own p)) p (.ins C dx []) ∧ (∀ b, S b → Hb b ≠ none) ∧ w.Ok ∧ Dx ((pure0 S).wo Hb) v (dEdges w.ps) ∧
  ∀ H', Same Hb H' → (vW C w).at_ ((pure0 S).wo H') (.ref p) → Q .non H'
theorem dx_lst {H : Hp} {a : Addr} {ks : List Nat} (h : H a = some (.lst (ivs ks))) : Dx H (.ref a) (dNs ks) := by
  refine .lst h ?_
  unfold ivs
  have e1 : (ks.map fun (v : Nat) => V.int (v : Int)) = (ks.map fun (v : Nat) => (v : Int)).map V.int := by rw [List.map_map]; rfl
  have e2 : ks.map dN = (ks.map fun (v : Nat) => (v : Int)).map PyData.int := by rw [List.map_map]; rfl
  rw [e1, e2]
  exact dx_ints _
abbrev N_m_init : List Str := ["self", "size", "edges", "modulus", "tail", "head"]
section
variable {P : Program} {w : World} {K : PySem.W.Frag} {mg : Str → Option Value} {base : Heap} {C : Addr} {fW_ CW_InvalidPotential CW_InvalidWeights : Addr}
theorem sc_m_init : FnScope N_m_init ["self", "size", "edges", "modulus"] (defScope s_m_init) := ⟨rfl, rfl, rfl, by decide +kernel, rfl, by decide +kernel, by decide +kernel⟩
theorem ok_m_init {f : Addr} {fd : FuncData} {kws : List (Str × V)} {dvs : List V} (F : FunD K "__init__" "Web.__init__" (defArgs s_m_init) (defBody s_m_init) (defScope s_m_init) dvs kws f fd) (B : Bn mg) (T : Txt K mg C)
    (c0_MOST_NODES : ∃ t, mg "MOST_NODES" = some (.int 30 t))
    (D_is_between : Df P w K mg base 2 "is_between" ["thing", "low", "high"] (spBetween K))
    (D_check_edges : Df P w K mg base 4 "check_edges" ["size", "edges"] (spCheck K))
    (D_is_modulus : Df P w K mg base 2 "is_modulus" ["thing"] (spIsMod K))
    (D_grown_forest : Df P w K mg base 1 "grown_forest" ["size", "pairs"] spGrown)
    (D_ties_of : Df P w K mg base 1 "ties_of" ["size", "pairs", "numbers"] spTies) :
    FnOk P w K mg base CX0 5 f fd ["self", "size", "edges", "modulus"] (spInit C) := by
  obtain ⟨t_MOST_NODES, c_MOST_NODES⟩ := c0_MOST_NODES
  obtain ⟨g_is_between, gd_is_between, G_is_between, mg_is_between, kp_is_between, bb_is_between⟩ := D_is_between.ex
  obtain ⟨g_check_edges, gd_check_edges, G_check_edges, mg_check_edges, kp_check_edges, bb_check_edges⟩ := D_check_edges.ex
  obtain ⟨g_is_modulus, gd_is_modulus, G_is_modulus, mg_is_modulus, kp_is_modulus, bb_is_modulus⟩ := D_is_modulus.ex
  obtain ⟨g_grown_forest, gd_grown_forest, G_grown_forest, mg_grown_forest, kp_grown_forest, bb_grown_forest⟩ := D_grown_forest.ex
  obtain ⟨g_ties_of, gd_ties_of, G_ties_of, mg_ties_of, kp_ties_of, bb_ties_of⟩ := D_ties_of.ex
  refine F.ok sc_m_init (fun vs H Q E h => ?_) (fun cdv A outer s H vs Q E hr h => ?_)
  · obtain ⟨Hb, p, dx, S, w, v, rfl, _⟩ := h
    rfl
  · obtain ⟨Hb, p, dx, S, w, v, rfl, hp, hdx, hne, rfl, hS, ok, hE, q⟩ := h
    have iv := pure0.I hS
    have m := MakI.start (X := pure0 S) (C := C) iv hp hdx hne
    have n1 := ok.n1
    have n30 := ok.n30
    have l60 := ok.l60
    refine ⟨_, (PSs.nox (pss_cons (ps_if (pt_not (pt_val (pe_call G_is_between (hr.mono (by decide)) rfl mg_is_between kp_is_between bb_is_between .nil pass0 (pa_cons (pv 1) (pa_cons pe_int (pa_cons (pe_glob rfl c_MOST_NODES (v := .int 30) ⟨_, rfl⟩) pa_nil)))))) (pss_one ps_never) pss_nil)
      (pss_cons (ps_expr (pe_call G_check_edges (hr.mono (by decide)) rfl mg_check_edges kp_check_edges bb_check_edges .nil pass0 (pa_cons (pv 1) (pa_cons (pv 2) pa_nil))))
      (pss_cons (ps_if (pt_not (pt_val (pe_call G_is_modulus (hr.mono (by decide)) rfl mg_is_modulus kp_is_modulus bb_is_modulus .nil pass0 (pa_cons (pv 3) pa_nil)))) (pss_one ps_never) pss_nil)
      (pss_cons (ps_fld (pv 0) (pv 1) rfl)
      (pss_cons (ps_fld (pv 0) (pe_lc (own := [("tail", 4), ("head", 5)]) (g := (gTup K 2 (gCons (gName 4) (gCons (gName 5) gNil)))) rfl sc_m_init.nd (pi_list (pv 2)) (blkOk_by (N := N_m_init) (sc := (defScope s_m_init)) (by decide +kernel)) (fun _ _ _ _ _ => (pg_tup rfl (pgs_cons (pg_name (i := 4) sc_m_init.nd rfl (Or.inl rfl)) (pgs_cons (pg_name (i := 5) sc_m_init.nd rfl (Or.inl rfl)) pgs_nil)))) (fun _ _ _ _ _ => pts_nil) (fun _ _ _ _ _ => (pe_tup (pa_cons (pv 4) (pa_cons (pv 5) pa_nil))))) rfl)
      (pss_cons (ps_fld (pv 0) (pv 3) rfl)
      (pss_cons (ps_asg (pe_call G_grown_forest (hr.mono (by decide)) rfl mg_grown_forest kp_grown_forest bb_grown_forest .nil pass0 (pa_cons (pv 1) (pa_cons (pe_fldK (K := K) (pv 0) rfl) pa_nil))) (pg_tup rfl (pgs_cons (pg_attr (pv 0)) (pgs_cons (pg_attr (pv 0)) pgs_nil))))
      (pss_one (ps_fld (pv 0) (pe_call G_ties_of (hr.mono (by decide)) rfl mg_ties_of kp_ties_of bb_ties_of .nil pass0 (pa_cons (pv 1) (pa_cons (pe_fldK (K := K) (pv 0) rfl) (pa_cons (pe_fldK (K := K) (pv 0) rfl) pa_nil)))) rfl)))))))))), ?_⟩
    have hE1 := m.sub.upD hE
    refine q_guard (EvT.cast (et_not (et_B (ev_between (ev_varD rfl (.int (w.n : Int))) ev_int ev_int))) (by show (!decide ((1 : Int) ≤ (w.n : Int) ∧ (w.n : Int) ≤ 30)) = false; rw [decide_eq_true (by omega)]; rfl)) m.sub.inv fun H1 e1 => ?_
    obtain ⟨a, ts, rfl, hEt⟩ := edges_dx (Dx.same wo_le _ _ (e1.upD hE1))
    refine ⟨_, rfl, _, rfl, w.n, a, ts, w.ps, rfl, hEt, ok.wi, l60, fun H2 s2 => ?_⟩
    have e2 : Ext ((pure0 S).add p) H1 H2 := .same s2 e1.inv
    have e12 := e1.trans e2
    refine ⟨_, rfl, .int w.m, _, true, rfl, .base (.int _), intB_int, (fun z => nomatch z), fun _ => ⟨w.m, rfl, ?_⟩⟩
    have e0 : decide (w.m = 0 ∨ 2 ≤ w.m ∧ w.m ≤ 60) = true := decide_eq_true ok.md
    rw [e0]
    refine ⟨_, rfl, iteF ?_⟩
    refine q_fld (m.ext e12) rfl T.cl T.n1 (by show 0 < 1000; decide) (ev_varD rfl (.int (w.n : Int))) fun v1 H3 m3 s3 d1 => ?_
    cases d1
    have hE3 := Dx.same s3 _ _ (e12.upD hE1)
    refine q_fld m3 rfl T.cl T.n2 (by show 1 < 1000; decide) ((en_map (f := fun d => d) (es_list (ev_varD rfl hE3)) (by rw [List.length_map]; omega) fun Y i d v H1 hd s hv => ?_).ev.cast (by rw [List.map_id'])) fun v2 H4 m4 s4 d2 => ?_
    · rw [List.getElem?_map] at hd
      obtain ⟨e, _, rfl⟩ := Option.map_eq_some_iff.mp hd
      refine tgt_tup2 hv wo_le fun w1 w2 g1 g2 => ?_
      exact tgt_name (tgt_name ⟨rfl, rfl, ev_tup (ed_cons (ev_varD rfl g1) (ed_cons (ev_varD rfl g2) ed_nil)) (by show 2 ≤ 40000; decide)⟩)
    refine q_fld m4 rfl T.cl T.n3 (by show 2 < 1000; decide) (ev_varD rfl (.int w.m)) fun v3 H5 m5 s5 d3 => ?_
    cases d3
    have hD5 := Dx.same s5 _ _ d2
    have fs5 : H5 p = some (.ins C dx [("node_count", .int w.n), ("edge_pairs", v2), ("gain_modulus", .int w.m)]) := by
      rw [m5.ex, putF_new (ks := ["node_count", "edge_pairs"]) rfl (by decide +kernel), putF_new (ks := ["node_count"]) rfl (by decide +kernel)]
      rfl
    obtain ⟨b, us, rfl, hUt⟩ := edges_dx (Dx.same wo_le _ _ hD5)
    refine ⟨_, rfl, _, rfl, p, C, dx, _, .ref b, rfl, fs5, T.cl, T.n2, (lk_past (by decide +kernel)).trans lk_here, w.n, b, us, w.ps, rfl, hUt, ok.wi, l60, n30, fun H6 t nl fl s6 h6t hnl hfl h6n h6f => ?_⟩
    have m5' : MakI (pure0 S) Hb p C dx H5 [("node_count", .int w.n), ("edge_pairs", .ref b), ("gain_modulus", .int w.m)] := ⟨m5.i0, m5.fr, m5.sub, fs5⟩
    have e6 : Ext ((pure0 S).add p) H5 H6 := .same s6 m5'.sub.inv
    have m6 := m5'.ext e6
    have nnp : nl ≠ p := fun z => by rw [z, fs5] at hnl; cases hnl
    have nfp : fl ≠ p := fun z => by rw [z, fs5] at hfl; cases hfl
    have oS : ∀ x, H5 x = none → ¬ ((pure0 S).add p).S x := fun x hx z => m5'.sub.inv.live x z hx
    have dn6 : Dx (((pure0 S).add p).wo H6) (.ref nl) (dNs w.nums) := dx_lst (by rw [wo_out (oS nl hnl)]; exact h6n)
    have df6 : Dx (((pure0 S).add p).wo H6) (.ref fl) (dNs ((List.range w.n).map (Wm.F w.ps))) := dx_lst (by rw [wo_out (oS fl hfl)]; exact h6f)
    have de6 := e6.upD hD5
    refine ⟨t, _, rfl, SqT.of h6t, rfl, _, _, rfl, _, rfl, p, C, dx, _, rfl, m6.ex, T.cl, T.n4, (by show 3 < 1000; decide), ?_⟩
    have m7 := m6.put (gs := putF "forest_numbers" (.ref nl) [("node_count", .int w.n), ("edge_pairs", .ref b), ("gain_modulus", .int w.m)])
    refine ⟨_, _, rfl, _, rfl, p, C, dx, _, rfl, m7.ex, T.cl, T.n5, (by show 4 < 1000; decide), ?_⟩
    have m8 := m7.put (gs := putF "first_nodes" (.ref fl) (putF "forest_numbers" (.ref nl) [("node_count", .int w.n), ("edge_pairs", .ref b), ("gain_modulus", .int w.m)]))
    refine ⟨rfl, ?_⟩
    have w8 : ((pure0 S).add p).wo (upd (upd H6 p (.ins C dx (putF "forest_numbers" (.ref nl) [("node_count", .int w.n), ("edge_pairs", .ref b), ("gain_modulus", .int w.m)]))) p (.ins C dx (putF "first_nodes" (.ref fl) (putF "forest_numbers" (.ref nl) [("node_count", .int w.n), ("edge_pairs", .ref b), ("gain_modulus", .int w.m)])))) = ((pure0 S).add p).wo H6 := by rw [wo_put, wo_put]
    generalize upd (upd H6 p (.ins C dx (putF "forest_numbers" (.ref nl) [("node_count", .int w.n), ("edge_pairs", .ref b), ("gain_modulus", .int w.m)]))) p (.ins C dx (putF "first_nodes" (.ref fl) (putF "forest_numbers" (.ref nl) [("node_count", .int w.n), ("edge_pairs", .ref b), ("gain_modulus", .int w.m)]))) = H8 at *
    have fs8 : H8 p = some (.ins C dx [("node_count", .int w.n), ("edge_pairs", .ref b), ("gain_modulus", .int w.m), ("forest_numbers", .ref nl), ("first_nodes", .ref fl)]) := by
      rw [m8.ex, putF_new (f := "forest_numbers") (ks := ["node_count", "edge_pairs", "gain_modulus"]) rfl (by decide +kernel), putF_new (f := "first_nodes") (ks := ["node_count", "edge_pairs", "gain_modulus", "forest_numbers"]) rfl (by decide +kernel)]
      rfl
    have m8' : MakI (pure0 S) Hb p C dx H8 [("node_count", .int w.n), ("edge_pairs", .ref b), ("gain_modulus", .int w.m), ("forest_numbers", .ref nl), ("first_nodes", .ref fl)] := ⟨m8.i0, m8.fr, m8.sub, fs8⟩
    rw [← w8] at dn6 df6 de6
    have evf : ∀ {f : Str} {x : V} {d : PyData}, NoAttr K C f → ([("node_count", .int w.n), ("edge_pairs", .ref b), ("gain_modulus", .int w.m), ("forest_numbers", .ref nl), ("first_nodes", .ref fl)] : List (Str × V)).lookup f = some x → Dx (((pure0 S).add p).wo H8) x d → Ev ((pure0 S).add p) (tFld K (tVar 0) f) [some (.ref p), some (.int (w.n : Int)), some (.ref a), some (.int w.m), none, none] H8 (vD d) := fun {f x d} na lk hd Y H1 e Q q =>
      ⟨_, rfl, p, C, dx, _, _, rfl, e.old _ _ (pure0.V (S := S)) fs8, T.cl, na, lk, q _ H1 (.refl e.inv) (e.upD hd)⟩
    have pT : w.n ≤ 30 ∧ Ee.Within w.n w.ps ∧ (∀ k ∈ w.nums, k < w.ps.length) ∧ w.nums.length ≤ 60 := ⟨n30, ok.wi, fun k hk => List.mem_range.mp (List.mem_filter.mp hk).1, Nat.le_trans (Nat.le_trans (List.length_filter_le _ _) (by rw [List.length_range]; exact Nat.le_refl _)) l60⟩
    have aT : ∀ (E : XK) (ta : TA), EvA ((pure0 S).add p) ta [some (.ref p), some (.int (w.n : Int)), some (.ref a), some (.int w.m), none, none] H8 [vI (w.n : Int), vD (dEdges w.ps), vD (dNs w.nums)] → Ev ((pure0 S).add p) (tCall spTies [] E ta) [some (.ref p), some (.int (w.n : Int)), some (.ref a), some (.int w.m), none, none] H8 (vD (dTies w.n (tiesOf w.ps w.nums))) := fun E ta h => (en_call (w.n, w.ps, w.nums) h pT).ev
    refine s_fld m8' rfl T.cl T.n6 (by show 5 < 1000; decide) (aT _ _ (ea_cons (ev_varD rfl (.int (w.n : Int))) (ea_cons (evf T.n2 ((lk_past (by decide +kernel)).trans lk_here) de6) (ea_cons (evf T.n4 ((lk_past (by decide +kernel)).trans ((lk_past (by decide +kernel)).trans ((lk_past (by decide +kernel)).trans lk_here))) dn6) ea_nil)))) fun v9 H9 m9 s9 d9 => ?_
    have fs9 : H9 p = some (.ins C dx (wf w.n (.ref b) w.m (.ref nl) (.ref fl) v9)) := by
      rw [m9.ex, putF_new (ks := ["node_count", "edge_pairs", "gain_modulus", "forest_numbers", "first_nodes"]) rfl (by decide +kernel)]
      rfl
    have nS : ¬ S p := fun z => hS p z hp
    refine q H9 (pure0.same m9.sub) ⟨ok, p, dx, .ref b, .ref nl, .ref fl, v9, rfl, ?_, Dx.same wo_add _ _ (Dx.same s9 _ _ de6), Dx.same wo_add _ _ (Dx.same s9 _ _ dn6), Dx.same wo_add _ _ (Dx.same s9 _ _ df6), Dx.same wo_add _ _ d9⟩
    rw [wo_out (X := pure0 S) nS]
    exact fs9
end
end Wb

namespace Wb
open PySem L2 Ee Lm LamX
local macro_rules | `(tactic| get_elem_tactic_trivial) => `(tactic| first
  | assumption | (refine Sub.upD (by assumption) ?_; get_elem_tactic_trivial) | (refine Sub.upP (by assumption) ?_; get_elem_tactic_trivial))
local macro_rules | `(tactic| trivial) => `(tactic| first
  | exact ev_int | exact ev_bl | exact ev_non | exact ev_str | exact ed_nil | exact ea_nil | exact eo_none | exact et_yes
  | exact ev_var rfl (Dx.int _) | exact ev_var rfl (Dx.bl _) | exact ev_var rfl (Dx.str _) | exact ev_var rfl Dx.non
  | (refine ev_varD rfl ?_; get_elem_tactic_trivial) | (refine ev_varW rfl ?_; get_elem_tactic_trivial)
  | (refine ed_cons ?_ ?_ <;> trivial) | (refine ea_cons ?_ ?_ <;> trivial) | (refine eo_some ?_ <;> trivial)
  | (refine ev_I0 ?_ ?_ <;> trivial) | (refine ev_I ?_ ?_ ?_ <;> try trivial) | (refine ev_cmp ?_ ?_ <;> trivial) | (refine ev_neg ?_ <;> trivial) | (refine ev_chain ?_ ?_ ?_ <;> trivial)
  | (refine ev_eqI ?_ ?_ <;> trivial) | (refine ev_neI ?_ ?_ <;> trivial) | (refine ev_eqS ?_ ?_ <;> trivial) | (refine ev_neS ?_ ?_ <;> trivial) | (refine ev_eqB ?_ ?_ <;> trivial) | (refine ev_neB ?_ ?_ <;> trivial)
  | (refine et_test ?_ <;> trivial) | (refine et_B ?_ <;> trivial) | (refine et_not ?_ <;> trivial)
  | (refine ev_lenL ?_ <;> trivial) | (refine ev_lenT ?_ <;> trivial)
  | (refine ev_ixL ?_ ?_ ?_ <;> try trivial) | (refine ev_ixT ?_ ?_ ?_ <;> try trivial)
  | (refine fld_count ?_ (by assumption) <;> trivial) | (refine fld_pairs ?_ (by assumption) <;> trivial) | (refine fld_mod ?_ (by assumption) <;> trivial) | (refine fld_nums ?_ (by assumption) <;> trivial) | (refine fld_firsts ?_ (by assumption) <;> trivial) | (refine fld_ties ?_ (by assumption) <;> trivial)
  | (refine ev_lenO ?_ <;> trivial) | (refine ev_isTup ?_ <;> trivial) | (refine ev_isLst ?_ <;> trivial)
  | (refine ev_isint ?_ <;> trivial) | (refine ev_between ?_ ?_ ?_ <;> trivial)
  | (refine (en_listL ?_).ev <;> trivial) | (refine (en_listT ?_).ev <;> trivial) | (refine (en_lst ?_ ?_).ev <;> try trivial) | (refine ev_tup ?_ ?_ <;> try trivial) | (refine (en_cat ?_ ?_ ?_).ev <;> try trivial))
/-! ### walks of typed steps -/
theorem step_dStp {ps : List (Nat × Nat)} {s : Stp} (h : s.1 < ps.length) (hy : s.2 = 1 ∨ s.2 = -1) : stepB ps.length (dStp s) = true := by
  show (decide ((0 : Int) ≤ (s.1 : Int) ∧ (s.1 : Int) ≤ (ps.length : Int) - 1) && decide (s.2 ∈ ([1, -1] : List Int))) = true
  rw [decide_eq_true (by omega), decide_eq_true (by simpa using hy)]
  rfl
theorem ends_dStp (ps : List (Nat × Nat)) (s : Stp) : endsD ps (dStp s) = (sFrom ps s, sTo ps s) := by
  show endsAt ps (s.1 : Int).toNat s.2 = _
  rw [Int.toNat_natCast]
  unfold endsAt sFrom sTo
  by_cases h : s.2 = 1
  · rw [if_pos h, if_pos h, if_pos h]
  · rw [if_neg h, if_neg h, if_neg h]
theorem chain_valid {ps : List (Nat × Nat)} : ∀ {p : List Stp} {a b : Nat}, Chain ps a p b → ∀ s ∈ p, s.1 < ps.length ∧ (s.2 = 1 ∨ s.2 = -1)
  | [], _, _, _, _, hs => nomatch hs
  | s :: p, _, _, c, s', hs => by
    rcases List.mem_cons.mp hs with rfl | hs
    · exact ⟨c.1, c.2.1⟩
    · exact chain_valid c.2.2.2 s' hs
theorem join_dPair (x y : Nat × Nat) : joinB (.tuple [dPair x, dPair y]) = decide (x.2 = y.1) := by
  show decide ((x.2 : Int) = (y.1 : Int)) = _
  by_cases h : x.2 = y.1
  · rw [decide_eq_true h, decide_eq_true (by omega)]
  · rw [decide_eq_false h, decide_eq_false (by omega)]
theorem chain_join {ps : List (Nat × Nat)} : ∀ {p : List Stp} {a b : Nat}, Chain ps a p b → (dZip (pairsE ps (p.map dStp)) ((pairsE ps (p.map dStp)).drop 1)).all joinB = true
  | [], _, _, _ => rfl
  | [_], _, _, _ => rfl
  | s :: s2 :: p, _, b, c => by
    have ih := chain_join (p := s2 :: p) c.2.2.2
    have e : dZip (pairsE ps ((s :: s2 :: p).map dStp)) ((pairsE ps ((s :: s2 :: p).map dStp)).drop 1) = .tuple [dPair (endsD ps (dStp s)), dPair (endsD ps (dStp s2))] :: dZip (pairsE ps ((s2 :: p).map dStp)) ((pairsE ps ((s2 :: p).map dStp)).drop 1) := rfl
    rw [e, List.all_cons, ih, join_dPair, ends_dStp, ends_dStp]
    have h : sTo ps s = sFrom ps s2 := c.2.2.2.2.2.1.symm
    rw [decide_eq_true h]
    rfl
theorem walkB_chain {w : WD} {p : List Stp} {a b : Nat} (c : Chain w.ps a p b) (h : p ≠ []) : walkB w (dSteps p) = true := by
  have h1 : decide (0 < (p.map dStp).length) = true := decide_eq_true (by rw [List.length_map]; exact List.length_pos_iff.mpr h)
  have h2 : (p.map dStp).all (stepB w.ps.length) = true := by
    rw [List.all_map]
    exact List.all_eq_true.mpr fun s hs => by
      obtain ⟨x, y⟩ := chain_valid c s hs
      exact step_dStp x y
  show (decide (0 < (p.map dStp).length) && ((p.map dStp).all (stepB w.ps.length) && _)) = true
  rw [h1, h2, chain_join c]
  rfl
theorem start_chain {ps : List (Nat × Nat)} {p : List Stp} {a b : Nat} (c : Chain ps a p b) (h : p ≠ []) : startD ps (dSteps p) = a := by
  cases p with
  | nil => exact absurd rfl h
  | cons s p =>
    show (endsD ps (dStp s)).1 = a
    rw [ends_dStp]
    exact c.2.2.1
theorem stop_chain {ps : List (Nat × Nat)} : ∀ {p : List Stp} {a b : Nat}, Chain ps a p b → p ≠ [] → stopD ps (dSteps p) = b
  | [], _, _, _, h => absurd rfl h
  | [s], _, b, c, _ => by
    show (endsD ps (dStp s)).2 = b
    rw [ends_dStp]
    exact c.2.2.2
  | s :: s2 :: p, _, b, c, _ => by
    have ih := stop_chain (p := s2 :: p) c.2.2.2 (by simp)
    exact ih
theorem closed_chain {w : WD} {p : List Stp} {a : Nat} (c : Chain w.ps a p a) (h : p ≠ []) : closedB w (dSteps p) = true := by
  unfold closedB
  rw [walkB_chain c h, start_chain c h, stop_chain c h, decide_eq_true rfl]
  rfl
theorem sumD_steps (g : List Int) (p : List Stp) : sumD g (p.map dStp) = sumS g p := by
  unfold sumD sumS
  rw [List.map_map]
  congr 1
/-- gains as numbers -/
theorem gainsB_iff {w : WD} {g : List Int} : gainsB w (dZs g) = true ↔ g.length = w.ps.length ∧ ∀ x ∈ g, red w.m x = x := by
  show (decide ((g.map PyData.int).length = w.ps.length) && (g.map PyData.int).all (resB w.m)) = true ↔ _
  rw [Bool.and_eq_true, List.length_map, decide_eq_true_eq, List.all_map, List.all_eq_true]
  constructor
  · rintro ⟨h1, h2⟩
    exact ⟨h1, fun x hx => (of_decide_eq_true (h2 x hx)).symm⟩
  · rintro ⟨h1, h2⟩
    exact ⟨h1, fun x hx => decide_eq_true (h2 x hx).symm⟩
/-! ### plain data -/
theorem lay_steps : ∀ p : List Stp, PyData.canLayAll0 (p.map dStp) = true ∧ PyData.depthAll (p.map dStp) ≤ 1
  | [] => ⟨by simp [PyData.canLayAll0], by simp [PyData.depthAll]⟩
  | s :: p => by
    have ih := lay_steps p
    rw [List.map_cons]
    refine ⟨?_, ?_⟩
    · rw [PyData.canLayAll0, ih.1]; simp [dStp, PyData.canLay0, PyData.canLayAll0]
    · rw [PyData.depthAll]; exact Nat.max_le.mpr ⟨by simp [dStp, PyData.depth, PyData.depthAll], ih.2⟩
theorem shaped_steps (p : List Stp) : SeqAt.shaped (dSteps p) = true := by
  have h := lay_steps p
  unfold SeqAt.shaped
  have h1 : (PyData.list (p.map dStp)).canLay0 = true := by rw [PyData.canLay0]; exact h.1
  have h2 : (PyData.list (p.map dStp)).depth ≤ 64 := by rw [PyData.depth]; exact Nat.le_trans (Nat.succ_le_succ h.2) (by decide)
  rw [h1, decide_eq_true h2]
  rfl
theorem shaped_nil : SeqAt.shaped (.list []) = true := shaped_steps []
theorem eqv_nil : ∀ ds : List PyData, PyData.eqv (.list ds) (.list []) = decide (ds = [])
  | [] => by simp [PyData.eqv, PyData.eqvAll]
  | _ :: _ => by simp [PyData.eqv, PyData.eqvAll]
/-! ### drawn sides -/
section
variable {X : Vol} {σ : L2.St} {H : Hp} {tk ta tb : TE} {E : XK} {p : Addr} {K : Fr}
theorem ev_takeX {n : Nat} {N : Int} {pr : Int → Prop} (hs : σ[n]? = some (some (.ref p))) (hp : X.pool = some p) (h : Ev X tk σ H (vX fun d => ∃ k : Int, d = .int k ∧ pr k)) (hk : ∀ k, pr k → 0 < k ∧ k ≤ 10 ^ 18 ∧ k ≤ N) :
    Ev X (tCall spTake [] E (tCons (tVar n) (tCons tk tNil))) σ H (vX fun d => ∃ r : Int, d = .int r ∧ 0 ≤ r ∧ r < N) := fun Y H1 e Q q =>
  ⟨_, hs, h Y H1 e _ fun v H2 e2 ⟨_, ⟨k, rfl, hpk⟩, p2⟩ => by
    cases p2
    have hp' : Y.pool = some p := e.pool.trans hp
    obtain ⟨h0, h1, h2⟩ := hk k hpk
    exact ⟨p, k, rfl, e2.inv.pl p hp', h0, h1, fun H' r b hq r0 r1 => q _ H' (e2.trans (sub_but e2.inv hp' b hq)) ⟨.int r, ⟨r, rfl, r0, by omega⟩, .int r⟩⟩⟩
theorem ev_linksX {n : Nat} {a M : Nat} (hs : σ[n]? = some (some (.ref p))) (hp : X.pool = some p) (h : Ev X ta σ H (vI (a : Int))) (h' : Ev X tb σ H (vX fun d => ∃ b : Nat, d = dN b ∧ b ≤ M)) (h0 : 0 < a) (h1 : a ≤ 30) (h2 : M ≤ 60) :
    Ev X (tCall spLinks [] E (tCons (tVar n) (tCons ta (tCons tb tNil)))) σ H (vX fun d => ∃ ps : List (Nat × Nat), d = dEdges ps ∧ Ee.Within a ps ∧ ps.length ≤ M) := fun Y H1 e Q q =>
  ⟨_, hs, h Y H1 e _ fun v H2 e2 p2 => h' Y H2 (e.trans e2) _ fun w H3 e3 ⟨_, ⟨b, rfl, hb⟩, p3⟩ => by
    cases p2; cases p3
    have e23 := e2.trans e3
    have hp' : Y.pool = some p := e.pool.trans hp
    refine ⟨p, a, b, rfl, e23.inv.pl p hp', h0, h1, Nat.le_trans hb h2, fun H' l ts ps bb hq hl hts hE hw hlen => ?_⟩
    have x := sub_but e23.inv hp' bb hq
    refine q _ H' (e23.trans x) ⟨dEdges ps, ⟨ps, rfl, hw, Nat.le_trans hlen hb⟩, .lst ?_ (dx_pairs hE.2 fun t ht o ho => ?_)⟩
    · rw [wo_out (fresh_out e23.inv hl)]
      exact hE.1
    · rw [wo_out (fresh_out e23.inv (hts t ht))]
      exact ho⟩
/-- [x, y][take(pool, 2)] -/
theorem ev_pick2 {n : Nat} {x y : PyData} {tx ty : TE} {P : PyData → Prop} (hs : σ[n]? = some (some (.ref p))) (hp : X.pool = some p) (h : Ev X tx σ H (vD x)) (h' : Ev X ty σ H (vD y)) (hx : P x) (hy : P y) :
    Ev X (tOp (rIxL K) (tLst (tCons tx (tCons ty tNil))) (tCall spTake [] E (tCons (tVar n) (tCons (tC (.int 2)) tNil)))) σ H (vX P) :=
  ev_ixLx (ds := [x, y]) (p := fun r => 0 ≤ r ∧ r < 2) (R := P) (en_lst (ed_cons h (ed_cons h' ed_nil)) (by show 2 ≤ 40000; decide)).ev (ev_take (p := p) hs hp ev_int (by decide) (by decide)) fun r ⟨r0, r1⟩ => by
    have e : r = 0 ∨ r = 1 := by omega
    rcases e with rfl | rfl
    · exact ⟨x, rfl, hx⟩
    · exact ⟨y, rfl, hy⟩
end
end Wb

namespace Wb
open PySem L2 Ee Lm LamX
local macro_rules | `(tactic| get_elem_tactic_trivial) => `(tactic| first
  | assumption | (refine Sub.upD (by assumption) ?_; get_elem_tactic_trivial) | (refine Sub.upP (by assumption) ?_; get_elem_tactic_trivial))
local macro_rules | `(tactic| trivial) => `(tactic| first
  | exact ev_int | exact ev_bl | exact ev_non | exact ev_str | exact ed_nil | exact ea_nil | exact eo_none | exact et_yes
  | exact ev_var rfl (Dx.int _) | exact ev_var rfl (Dx.bl _) | exact ev_var rfl (Dx.str _) | exact ev_var rfl Dx.non
  | (refine ev_varD rfl ?_; get_elem_tactic_trivial) | (refine ev_varW rfl ?_; get_elem_tactic_trivial)
  | (refine ed_cons ?_ ?_ <;> trivial) | (refine ea_cons ?_ ?_ <;> trivial) | (refine eo_some ?_ <;> trivial)
  | (refine ev_I0 ?_ ?_ <;> trivial) | (refine ev_I ?_ ?_ ?_ <;> try trivial) | (refine ev_cmp ?_ ?_ <;> trivial) | (refine ev_neg ?_ <;> trivial) | (refine ev_chain ?_ ?_ ?_ <;> trivial)
  | (refine ev_eqI ?_ ?_ <;> trivial) | (refine ev_neI ?_ ?_ <;> trivial) | (refine ev_eqS ?_ ?_ <;> trivial) | (refine ev_neS ?_ ?_ <;> trivial) | (refine ev_eqB ?_ ?_ <;> trivial) | (refine ev_neB ?_ ?_ <;> trivial)
  | (refine et_test ?_ <;> trivial) | (refine et_B ?_ <;> trivial) | (refine et_not ?_ <;> trivial)
  | (refine ev_lenL ?_ <;> trivial) | (refine ev_lenT ?_ <;> trivial)
  | (refine ev_ixL ?_ ?_ ?_ <;> try trivial) | (refine ev_ixT ?_ ?_ ?_ <;> try trivial)
  | (refine fld_count ?_ (by assumption) <;> trivial) | (refine fld_pairs ?_ (by assumption) <;> trivial) | (refine fld_mod ?_ (by assumption) <;> trivial) | (refine fld_nums ?_ (by assumption) <;> trivial) | (refine fld_firsts ?_ (by assumption) <;> trivial) | (refine fld_ties ?_ (by assumption) <;> trivial)
  | (refine ev_lenO ?_ <;> trivial) | (refine ev_isTup ?_ <;> trivial) | (refine ev_isLst ?_ <;> trivial)
  | (refine ev_isint ?_ <;> trivial) | (refine ev_between ?_ ?_ ?_ <;> trivial)
  | (refine (en_listL ?_).ev <;> trivial) | (refine (en_listT ?_).ev <;> trivial) | (refine (en_lst ?_ ?_).ev <;> try trivial) | (refine ev_tup ?_ ?_ <;> try trivial) | (refine (en_cat ?_ ?_ ?_).ev <;> try trivial))
def spLow : Sp := spF (α := Int × Int) (fun a => 0 ≤ a.2) (fun a => [vI a.1, vI a.2]) (fun a => vI (red a.2 a.1))
abbrev N_law_low : List Str := ["_law_number_here", "_law_dial"]
section
variable {P : Program} {w : World} {K : PySem.W.Frag} {mg : Str → Option Value} {base : Heap} {C : Addr} {fW_ CW_InvalidPotential CW_InvalidWeights : Addr}
theorem sc_law_low : FnScope N_law_low ["_law_number_here", "_law_dial"] (defScope s_law_low) := ⟨rfl, rfl, rfl, by decide +kernel, rfl, by decide +kernel, by decide +kernel⟩
theorem ok_law_low {f : Addr} {fd : FuncData} (F : Fun K "_law_low" "_law_low" s_law_low f fd) (B : Bn mg) (T : Txt K mg C) :
    FnOk P w K mg base CX0 1 f fd ["_law_number_here", "_law_dial"] spLow := by
  refine F.ok sc_law_low (fun vs H Q E h => ?_) (fun cdv A outer s H vs Q E hr h => ?_)
  · exact spF_len h fun _ => rfl
  · obtain ⟨⟨z, m⟩, S, hm, hS, hA, q⟩ := h
    rcases hA with _ | ⟨p1, _ | ⟨p2, _ | _⟩⟩
    cases p1; cases p2
    have iv := pure0.I hS
    dsimp only at hm q
    refine ⟨_, (pss_one (ps_ret (pe_ifExp (pt_cmpR op_gt (pv 1) pe_int (nomark _)) (pe_op op_mod (pv 0) (pv 1)) (pv 0)))), ?_⟩
    refine q_ret (P := vI (red m z)) (ev_if (et_test (ev_cmp (g := fun i j => decide (j < i)) (ev_varD rfl (.int m)) ev_int)) (fun hb => ?_) (fun hb => ?_)) iv fun v H1 e1 p => q v H1 (pure0.same e1) p
    · have h0 : 0 < m := of_decide_eq_true hb
      have e0 : red m z = z % m := if_neg (by omega)
      rw [e0]
      exact ev_I (g := fun i j => i % j) (ev_varD rfl (.int z)) (ev_varD rfl (.int m)) h0
    · have h0 : ¬ 0 < m := of_decide_eq_false hb
      have e0 : red m z = z := if_pos (by omega)
      rw [e0]
      exact ev_varD rfl (.int z)
end
def numR (m : Int) (d : PyData) : Prop := ∃ z, d = .int z ∧ red m z = z ∧ -(10 ^ 18) ≤ z ∧ z ≤ 10 ^ 18
def spNumber : Sp := spD (α := Int) (fun m => 0 ≤ m ∧ m ≤ 60) (fun m => [vI m]) (fun m => vX (numR m))
abbrev N_law_number : List Str := ["_law_pool_here", "_law_dial"]
section
variable {P : Program} {w : World} {K : PySem.W.Frag} {mg : Str → Option Value} {base : Heap} {C : Addr} {fW_ CW_InvalidPotential CW_InvalidWeights : Addr}
theorem sc_law_number : FnScope N_law_number ["_law_pool_here", "_law_dial"] (defScope s_law_number) := ⟨rfl, rfl, rfl, by decide +kernel, rfl, by decide +kernel, by decide +kernel⟩
theorem ok_law_number {f : Addr} {fd : FuncData} (F : Fun K "_law_number" "_law_number" s_law_number f fd) (B : Bn mg) (T : Txt K mg C)
    (D_law_take : Df P w K mg base 1 "_law_take" ["_law_pool_here", "_law_sides"] spTake) :
    FnOk P w K mg base CX0 2 f fd ["_law_pool_here", "_law_dial"] spNumber := by
  obtain ⟨g_law_take, gd_law_take, G_law_take, mg_law_take, kp_law_take, bb_law_take⟩ := D_law_take.ex
  refine F.ok sc_law_number (fun vs H Q E h => ?_) (fun cdv A outer s H vs Q E hr h => ?_)
  · exact spD_len h fun _ => rfl
  · obtain ⟨m, X, p, r, rfl, hp, iv, ⟨hm0, hm1⟩, hA, q⟩ := h
    rcases hA with _ | ⟨p1, _ | _⟩
    cases p1
    refine ⟨_, (pss_cons (ps_if (pt_cmpR op_gt (pv 1) pe_int (nomark _)) (pss_one (ps_ret (pe_call G_law_take (hr.mono (by decide)) rfl mg_law_take kp_law_take bb_law_take .nil pass0 (pa_cons (pv 0) (pa_cons (pv 1) pa_nil))))) pss_nil)
      (pss_one (ps_ret (pe_ix (r := rIxL K) ix_list (pe_lst (pa_cons (pe_op op_sub (pe_call G_law_take (hr.mono (by decide)) rfl mg_law_take kp_law_take bb_law_take .nil pass0 (pa_cons (pv 0) (pa_cons pe_int pa_nil))) pe_int) (pa_cons pe_int (pa_cons (pe_op op_sub (pe_call G_law_take (hr.mono (by decide)) rfl mg_law_take kp_law_take bb_law_take .nil pass0 (pa_cons (pv 0) (pa_cons (pe_op op_pow pe_int pe_int) pa_nil))) (pe_op op_mul pe_int (pe_op op_pow pe_int pe_int))) pa_nil)))) (pe_call G_law_take (hr.mono (by decide)) rfl mg_law_take kp_law_take bb_law_take .nil pass0 (pa_cons (pv 0) (pa_cons pe_int pa_nil))) (fun _ _ => rfl))))), ?_⟩
    refine q_if1 (et_test (ev_cmp (g := fun i j => decide (j < i)) (ev_varD rfl (.int m)) ev_int)) iv (fun hb H1 e1 => ?_) (fun hb H1 e1 => ?_)
    · have h0 : 0 < m := of_decide_eq_true hb
      refine q_ret (Ev.weakX (ev_take rfl hp (ev_varD rfl (.int m)) h0 (by omega)) fun d ⟨r, hd, r0, r1⟩ => ?_) e1.inv fun v H2 e2 pv => q v H2 (e1.trans e2) pv
      refine ⟨r, hd, ?_, by omega, by omega⟩
      unfold red
      rw [if_neg (by omega)]
      exact Int.emod_eq_of_lt r0 r1
    · have h0 : ¬ 0 < m := of_decide_eq_false hb
      have hm : m = 0 := by omega
      subst hm
      have t1 : ∀ {te : TE}, Ev X te [some (.ref p), some (.int 0)] H1 (vI 9) → Ev X (tCall spTake [] E0 (tCons (tVar 0) (tCons te tNil))) [some (.ref p), some (.int 0)] H1 (vX fun d => ∃ r : Int, d = .int r ∧ 0 ≤ r ∧ r < 9) := fun h => ev_take rfl hp h (by decide) (by decide)
      refine q_ret (P := vX (numR 0)) (ev_ixXX (ev_lstX (ex_cons (ev_I0y (g := fun i j => i - j) (ev_take rfl hp (k := 9) ev_int (by decide) (by decide)) ev_int) (ex_cons (Ev.toX ev_int (R := fun d => d = .int 0) rfl) (ex_cons (ev_I0y (g := fun i j => i - j) (ev_take rfl hp (ev_I (g := fun i j => i ^ j.toNat) ev_int ev_int ⟨by decide, by decide, by decide⟩) (by decide) (by decide)) (ev_I (g := fun i j => i * j) ev_int (ev_I (g := fun i j => i ^ j.toNat) ev_int ev_int ⟨by decide, by decide, by decide⟩) (.inl ⟨by decide, by decide⟩))) ex_nil))) (by show 3 ≤ 40000; decide)) (ev_take rfl hp (k := 3) ev_int (by decide) (by decide)) fun d r ⟨ds, hd, hR⟩ ⟨r0, r1⟩ => ?_) e1.inv fun v H2 e2 pv => q v H2 (e1.trans e2) pv
      match ds, hR with
      | [a, b, c], .cons ⟨ra, ha, ha0, ha1⟩ (.cons hb0 (.cons ⟨rc, hc, hc0, hc1⟩ .nil)) =>
        have rz : ∀ z : Int, red 0 z = z := fun z => if_pos rfl
        have e : r = 0 ∨ r = 1 ∨ r = 2 := by omega
        have hb0' : b = .int 0 := hb0
        have k18 : ((10 : Int) ^ (18 : Int).toNat) = 1000000000000000000 := by decide
        have k17 : ((5 : Int) * 10 ^ (17 : Int).toNat) = 500000000000000000 := by decide
        rw [k18] at hc1
        rcases e with rfl | rfl | rfl
        · exact ⟨_, a, hd, rfl, _, ha, rz _, by omega, by omega⟩
        · exact ⟨_, b, hd, rfl, _, hb0', rz _, by omega, by omega⟩
        · exact ⟨_, c, hd, rfl, _, hc, rz _, by rw [k17]; omega, by rw [k17]; omega⟩
end
end Wb

namespace Wb
open PySem L2 Ee Lm LamX
local macro_rules | `(tactic| get_elem_tactic_trivial) => `(tactic| first
  | assumption | (refine Sub.upD (by assumption) ?_; get_elem_tactic_trivial) | (refine Sub.upP (by assumption) ?_; get_elem_tactic_trivial))
local macro_rules | `(tactic| trivial) => `(tactic| first
  | exact ev_int | exact ev_bl | exact ev_non | exact ev_str | exact ed_nil | exact ea_nil | exact eo_none | exact et_yes
  | exact ev_var rfl (Dx.int _) | exact ev_var rfl (Dx.bl _) | exact ev_var rfl (Dx.str _) | exact ev_var rfl Dx.non
  | (refine ev_varD rfl ?_; get_elem_tactic_trivial) | (refine ev_varW rfl ?_; get_elem_tactic_trivial)
  | (refine ed_cons ?_ ?_ <;> trivial) | (refine ea_cons ?_ ?_ <;> trivial) | (refine eo_some ?_ <;> trivial)
  | (refine ev_I0 ?_ ?_ <;> trivial) | (refine ev_I ?_ ?_ ?_ <;> try trivial) | (refine ev_cmp ?_ ?_ <;> trivial) | (refine ev_neg ?_ <;> trivial) | (refine ev_chain ?_ ?_ ?_ <;> trivial)
  | (refine ev_eqI ?_ ?_ <;> trivial) | (refine ev_neI ?_ ?_ <;> trivial) | (refine ev_eqS ?_ ?_ <;> trivial) | (refine ev_neS ?_ ?_ <;> trivial) | (refine ev_eqB ?_ ?_ <;> trivial) | (refine ev_neB ?_ ?_ <;> trivial)
  | (refine et_test ?_ <;> trivial) | (refine et_B ?_ <;> trivial) | (refine et_not ?_ <;> trivial)
  | (refine ev_lenL ?_ <;> trivial) | (refine ev_lenT ?_ <;> trivial)
  | (refine ev_ixL ?_ ?_ ?_ <;> try trivial) | (refine ev_ixT ?_ ?_ ?_ <;> try trivial)
  | (refine fld_count ?_ (by assumption) <;> trivial) | (refine fld_pairs ?_ (by assumption) <;> trivial) | (refine fld_mod ?_ (by assumption) <;> trivial) | (refine fld_nums ?_ (by assumption) <;> trivial) | (refine fld_firsts ?_ (by assumption) <;> trivial) | (refine fld_ties ?_ (by assumption) <;> trivial)
  | (refine ev_lenO ?_ <;> trivial) | (refine ev_isTup ?_ <;> trivial) | (refine ev_isLst ?_ <;> trivial)
  | (refine ev_isint ?_ <;> trivial) | (refine ev_between ?_ ?_ ?_ <;> trivial)
  | (refine (en_listL ?_).ev <;> trivial) | (refine (en_listT ?_).ev <;> trivial) | (refine (en_lst ?_ ?_).ev <;> try trivial) | (refine ev_tup ?_ ?_ <;> try trivial) | (refine (en_cat ?_ ?_ ?_).ev <;> try trivial))
def numsR (m : Int) (n : Nat) (d : PyData) : Prop := ∃ g : List Int, d = dZs g ∧ g.length = n ∧ ∀ x ∈ g, red m x = x ∧ -(10 ^ 18) ≤ x ∧ x ≤ 10 ^ 18
def spNumbers : Sp := spDN (α := Int × Nat) (fun a => 0 ≤ a.1 ∧ a.1 ≤ 60 ∧ a.2 ≤ 1000) (fun a => [vI a.1, vI (a.2 : Int)]) (fun a => numsR a.1 a.2)
abbrev N_law_numbers : List Str := ["_law_pool_here", "_law_dial", "_law_count", "_law_turn"]
section
variable {P : Program} {w : World} {K : PySem.W.Frag} {mg : Str → Option Value} {base : Heap} {C : Addr} {fW_ CW_InvalidPotential CW_InvalidWeights : Addr}
theorem sc_law_numbers : FnScope N_law_numbers ["_law_pool_here", "_law_dial", "_law_count"] (defScope s_law_numbers) := ⟨rfl, rfl, rfl, by decide +kernel, rfl, by decide +kernel, by decide +kernel⟩
theorem ok_law_numbers {f : Addr} {fd : FuncData} (F : Fun K "_law_numbers" "_law_numbers" s_law_numbers f fd) (B : Bn mg) (T : Txt K mg C)
    (D_law_number : Df P w K mg base 2 "_law_number" ["_law_pool_here", "_law_dial"] spNumber) :
    FnOk P w K mg base CX0 3 f fd ["_law_pool_here", "_law_dial", "_law_count"] spNumbers := by
  obtain ⟨g_law_number, gd_law_number, G_law_number, mg_law_number, kp_law_number, bb_law_number⟩ := D_law_number.ex
  refine F.ok sc_law_numbers (fun vs H Q E h => ?_) (fun cdv A outer s H vs Q E hr h => ?_)
  · exact spDN_len h fun _ => rfl
  · obtain ⟨⟨m, n⟩, X, p, r, rfl, hp, iv, ⟨hm0, hm1, hn⟩, hA, q⟩ := h
    rcases hA with _ | ⟨p1, _ | ⟨p2, _ | _⟩⟩
    cases p1; cases p2
    dsimp only at hm0 hm1 hn q
    refine ⟨_, (pss_one (ps_ret (pe_lc (own := [("_law_turn", 3)]) (g := (gName 3)) rfl sc_law_numbers.nd (pi_range1 rfl B.range (pa_cons (pv 2) pa_nil)) (blkOk_by (N := N_law_numbers) (sc := (defScope s_law_numbers)) (by decide +kernel)) (fun _ _ _ _ _ => (pg_name (i := 3) sc_law_numbers.nd rfl (Or.inl rfl))) (fun _ _ _ _ _ => pts_nil) (fun _ _ _ _ _ => (pe_call G_law_number (hr.mono (by decide)) rfl mg_law_number kp_law_number bb_law_number .nil pass0 (pa_cons (pv 0) (pa_cons (pv 1) pa_nil))))))), ?_⟩
    refine ev_drawn (X := X) (fun _ => numR m) (es_rng1 (ev_varD rfl (.int (n : Int))) (by omega) (by omega)) (by rw [dRange_len]; omega) (fun Y i d v H1 hd s hv => tgt_name ⟨rfl, rfl, ev_draw m rfl (s.pool.trans hp) (ea_cons (ev_varD rfl (.int m)) ea_nil) ⟨hm0, hm1⟩⟩) X H (.refl iv) _ fun l H2 es nl e2 hl hR hd => ?_
    rw [dRange_len, Int.toNat_natCast] at hl
    have hes : ∀ e ∈ es, numR m e := fun e he => by
      obtain ⟨i, hi, rfl⟩ := List.getElem_of_mem he
      exact hR i _ (List.getElem?_eq_getElem hi)
    have hz := ints_of (es := es) fun e he => let ⟨z, hz, _⟩ := hes e he; ⟨z, hz⟩
    refine q l H2 _ e2 nl ⟨es.map toI, rfl, by rw [List.length_map]; exact hl, fun x hx => ?_⟩ ?_
    · obtain ⟨e, he, rfl⟩ := List.mem_map.mp hx
      obtain ⟨z, rfl, h⟩ := hes e he
      exact h
    · unfold dZs
      rw [hz]
      exact hd
end
end Wb

namespace Wb
open PySem L2 Ee Lm LamX
local macro_rules | `(tactic| get_elem_tactic_trivial) => `(tactic| first
  | assumption | (refine Sub.upD (by assumption) ?_; get_elem_tactic_trivial) | (refine Sub.upP (by assumption) ?_; get_elem_tactic_trivial))
local macro_rules | `(tactic| trivial) => `(tactic| first
  | exact ev_int | exact ev_bl | exact ev_non | exact ev_str | exact ed_nil | exact ea_nil | exact eo_none | exact et_yes
  | exact ev_var rfl (Dx.int _) | exact ev_var rfl (Dx.bl _) | exact ev_var rfl (Dx.str _) | exact ev_var rfl Dx.non
  | (refine ev_varD rfl ?_; get_elem_tactic_trivial) | (refine ev_varW rfl ?_; get_elem_tactic_trivial)
  | (refine ed_cons ?_ ?_ <;> trivial) | (refine ea_cons ?_ ?_ <;> trivial) | (refine eo_some ?_ <;> trivial)
  | (refine ev_I0 ?_ ?_ <;> trivial) | (refine ev_I ?_ ?_ ?_ <;> try trivial) | (refine ev_cmp ?_ ?_ <;> trivial) | (refine ev_neg ?_ <;> trivial) | (refine ev_chain ?_ ?_ ?_ <;> trivial)
  | (refine ev_eqI ?_ ?_ <;> trivial) | (refine ev_neI ?_ ?_ <;> trivial) | (refine ev_eqS ?_ ?_ <;> trivial) | (refine ev_neS ?_ ?_ <;> trivial) | (refine ev_eqB ?_ ?_ <;> trivial) | (refine ev_neB ?_ ?_ <;> trivial)
  | (refine et_test ?_ <;> trivial) | (refine et_B ?_ <;> trivial) | (refine et_not ?_ <;> trivial)
  | (refine ev_lenL ?_ <;> trivial) | (refine ev_lenT ?_ <;> trivial)
  | (refine ev_ixL ?_ ?_ ?_ <;> try trivial) | (refine ev_ixT ?_ ?_ ?_ <;> try trivial)
  | (refine fld_count ?_ (by assumption) <;> trivial) | (refine fld_pairs ?_ (by assumption) <;> trivial) | (refine fld_mod ?_ (by assumption) <;> trivial) | (refine fld_nums ?_ (by assumption) <;> trivial) | (refine fld_firsts ?_ (by assumption) <;> trivial) | (refine fld_ties ?_ (by assumption) <;> trivial)
  | (refine ev_lenO ?_ <;> trivial) | (refine ev_isTup ?_ <;> trivial) | (refine ev_isLst ?_ <;> trivial)
  | (refine ev_isint ?_ <;> trivial) | (refine ev_between ?_ ?_ ?_ <;> trivial)
  | (refine (en_listL ?_).ev <;> trivial) | (refine (en_listT ?_).ev <;> trivial) | (refine (en_lst ?_ ?_).ev <;> try trivial) | (refine ev_tup ?_ ?_ <;> try trivial) | (refine (en_cat ?_ ?_ ?_).ev <;> try trivial))
def _root_.Ee.WD.negP (w : WD) (p : List Int) : List Int := p.map fun x => red w.m (-x)
def spNegated (C : Addr) : Sp := spN (α := WD × List Int) (fun a => potB a.1 (dZs a.2) = true) (fun a => [vW C a.1, vD (dZs a.2)]) (fun a => dZs (WD.negP a.1 a.2))
abbrev N_negated : List Str := ["web", "potential", "value"]
section
variable {P : Program} {w : World} {K : PySem.W.Frag} {mg : Str → Option Value} {base : Heap} {C : Addr} {fW_ CW_InvalidPotential CW_InvalidWeights : Addr}
theorem sc_negated : FnScope N_negated ["web", "potential"] (defScope s_negated) := ⟨rfl, rfl, rfl, by decide +kernel, rfl, by decide +kernel, by decide +kernel⟩
theorem ok_negated {f : Addr} {fd : FuncData} (F : Fun K "negated" "negated" s_negated f fd) (B : Bn mg) (T : Txt K mg C)
    (D_check_potential : Df P w K mg base 6 "check_potential" ["web", "potential"] (spCheckPot C))
    (D_residue : Df P w K mg base 2 "residue" ["web", "number"] (spResidue C)) :
    FnOk P w K mg base CX0 7 f fd ["web", "potential"] (spNegated C) := by
  obtain ⟨g_check_potential, gd_check_potential, G_check_potential, mg_check_potential, kp_check_potential, bb_check_potential⟩ := D_check_potential.ex
  obtain ⟨g_residue, gd_residue, G_residue, mg_residue, kp_residue, bb_residue⟩ := D_residue.ex
  refine F.ok sc_negated (fun vs H Q E h => ?_) (fun cdv A outer s H vs Q E hr h => ?_)
  · exact spN_len h fun _ => rfl
  · obtain ⟨⟨w, p⟩, S, hp, hS, hA, q⟩ := h
    rcases hA with _ | ⟨p1, _ | ⟨p2, _ | _⟩⟩
    rename_i v1 v2
    have iv := pure0.I hS
    dsimp only at hp p1 p2 q
    have n30 := (ok_of p1).n30
    have hpl := (potB_iff.mp hp).1
    refine ⟨_, (pss_cons (ps_expr (pe_call G_check_potential (hr.mono (by decide)) rfl mg_check_potential kp_check_potential bb_check_potential .nil pass0 (pa_cons (pv 0) (pa_cons (pv 1) pa_nil))))
      (pss_one (ps_ret (pe_lc (own := [("value", 2)]) (g := (gName 2)) rfl sc_negated.nd (pi_list (pv 1)) (blkOk_by (N := N_negated) (sc := (defScope s_negated)) (by decide +kernel)) (fun _ _ _ _ _ => (pg_name (i := 2) sc_negated.nd rfl (Or.inl rfl))) (fun _ _ _ _ _ => pts_nil) (fun _ _ _ _ _ => (pe_call G_residue (hr.mono (by decide)) rfl mg_residue kp_residue bb_residue .nil pass0 (pa_cons (pv 0) (pa_cons (pe_un un_neg (pv 2)) pa_nil)))))))), ?_⟩
    refine q_drop (ev_call (w, p) (ea_cons (ev_varW rfl p1) (ea_cons (ev_varD rfl p2) ea_nil)) hp) iv fun H1 e1 => ?_
    refine q_retN ((en_map (fun d => match d with | .int x => .int (red w.m (-x)) | _ => .none) (es_list (ev_varD rfl (e1.upD p2))) (by rw [List.length_map]; omega) fun Y i d v H3 hd s hv => ?_).cast ?_) e1.inv fun l H3 n e3 pl => q l H3 (pure0.same (e1.trans e3)) (free_of e1 n) pl
    · rw [List.getElem?_map] at hd
      obtain ⟨x, hx, rfl⟩ := Option.map_eq_some_iff.mp hd
      cases hv
      exact tgt_name ⟨rfl, rfl, ev_call (w, -x) (ea_cons (ev_varW rfl ((e1.trans s).upP p1)) (ea_cons (ev_neg (g := fun i => -i) (ev_varD rfl (.int x))) ea_nil)) True.intro⟩
    · unfold WD.negP dZs
      rw [List.map_map, List.map_map]
      rfl
end
end Wb

namespace Wb
open PySem L2 Ee Lm LamX
local macro_rules | `(tactic| get_elem_tactic_trivial) => `(tactic| first
  | assumption | (refine Sub.upD (by assumption) ?_; get_elem_tactic_trivial) | (refine Sub.upP (by assumption) ?_; get_elem_tactic_trivial))
local macro_rules | `(tactic| trivial) => `(tactic| first
  | exact ev_int | exact ev_bl | exact ev_non | exact ev_str | exact ed_nil | exact ea_nil | exact eo_none | exact et_yes
  | exact ev_var rfl (Dx.int _) | exact ev_var rfl (Dx.bl _) | exact ev_var rfl (Dx.str _) | exact ev_var rfl Dx.non
  | (refine ev_varD rfl ?_; get_elem_tactic_trivial) | (refine ev_varW rfl ?_; get_elem_tactic_trivial)
  | (refine ed_cons ?_ ?_ <;> trivial) | (refine ea_cons ?_ ?_ <;> trivial) | (refine eo_some ?_ <;> trivial)
  | (refine ev_I0 ?_ ?_ <;> trivial) | (refine ev_I ?_ ?_ ?_ <;> try trivial) | (refine ev_cmp ?_ ?_ <;> trivial) | (refine ev_neg ?_ <;> trivial) | (refine ev_chain ?_ ?_ ?_ <;> trivial)
  | (refine ev_eqI ?_ ?_ <;> trivial) | (refine ev_neI ?_ ?_ <;> trivial) | (refine ev_eqS ?_ ?_ <;> trivial) | (refine ev_neS ?_ ?_ <;> trivial) | (refine ev_eqB ?_ ?_ <;> trivial) | (refine ev_neB ?_ ?_ <;> trivial)
  | (refine et_test ?_ <;> trivial) | (refine et_B ?_ <;> trivial) | (refine et_not ?_ <;> trivial)
  | (refine ev_lenL ?_ <;> trivial) | (refine ev_lenT ?_ <;> trivial)
  | (refine ev_ixL ?_ ?_ ?_ <;> try trivial) | (refine ev_ixT ?_ ?_ ?_ <;> try trivial)
  | (refine fld_count ?_ (by assumption) <;> trivial) | (refine fld_pairs ?_ (by assumption) <;> trivial) | (refine fld_mod ?_ (by assumption) <;> trivial) | (refine fld_nums ?_ (by assumption) <;> trivial) | (refine fld_firsts ?_ (by assumption) <;> trivial) | (refine fld_ties ?_ (by assumption) <;> trivial)
  | (refine ev_lenO ?_ <;> trivial) | (refine ev_isTup ?_ <;> trivial) | (refine ev_isLst ?_ <;> trivial)
  | (refine ev_isint ?_ <;> trivial) | (refine ev_between ?_ ?_ ?_ <;> trivial)
  | (refine (en_listL ?_).ev <;> trivial) | (refine (en_listT ?_).ev <;> trivial) | (refine (en_lst ?_ ?_).ev <;> try trivial) | (refine ev_tup ?_ ?_ <;> try trivial) | (refine (en_cat ?_ ?_ ?_).ev <;> try trivial))
def itsD : PyData → List PyData
  | .list ds => ds
  | .tuple ds => ds
  | _ => []
def oneB : PyData → Bool
  | .int i => decide (1 ≤ i)
  | _ => false
def wtB (n : Nat) (d : PyData) : Bool := isNon d || (isSeq d && (decide ((itsD d).length = n) && (itsD d).all oneB))
abbrev fewQ (d : PyData) : Prop := (itsD d).length ≤ 5000
def spIsWeights (C : Addr) : Sp := spF (α := WD × PyData) (fun a => fewQ a.2) (fun a => [vW C a.1, vD a.2]) (fun a => vB (wtB a.1.n a.2))
abbrev N_is_weights : List Str := ["web", "thing", "entry"]
section
variable {P : Program} {w : World} {K : PySem.W.Frag} {mg : Str → Option Value} {base : Heap} {C : Addr} {fW_ CW_InvalidPotential CW_InvalidWeights : Addr}
theorem sc_is_weights : FnScope N_is_weights ["web", "thing"] (defScope s_is_weights) := ⟨rfl, rfl, rfl, by decide +kernel, rfl, by decide +kernel, by decide +kernel⟩
theorem ok_is_weights {f : Addr} {fd : FuncData} (F : Fun K "is_weights" "is_weights" s_is_weights f fd) (B : Bn mg) (T : Txt K mg C)
    (D_m_size : Md P w K mg base C 1 "size" ["self"] (spSize C))
    (D_is_integer : Df P w K mg base 1 "is_integer" ["thing"] (spInt K)) :
    FnOk P w K mg base CX0 2 f fd ["web", "thing"] (spIsWeights C) := by
  obtain ⟨g_m_size, gd_m_size, G_m_size, ml_m_size, bb_m_size⟩ := D_m_size.ex
  obtain ⟨g_is_integer, gd_is_integer, G_is_integer, mg_is_integer, kp_is_integer, bb_is_integer⟩ := D_is_integer.ex
  refine F.ok sc_is_weights (fun vs H Q E h => ?_) (fun cdv A outer s H vs Q E hr h => ?_)
  · exact spF_len h fun _ => rfl
  · obtain ⟨⟨w, d⟩, S, hfew, hS, hA, q⟩ := h
    rcases hA with _ | ⟨p1, _ | ⟨p2, _ | _⟩⟩
    rename_i v1 v2
    have iv := pure0.I hS
    replace hfew : (itsD d).length ≤ 5000 := hfew
    refine ⟨_, (pss_cons (ps_if (pt_cmpR op_isN (pv 1) pe_non (by rfl)) (pss_one (ps_ret pe_bl)) pss_nil)
      (pss_cons (ps_if (PW.pt (pw_or (pt_not (pt_val (pe_callB call_isiT (by rfl) B.isinstance (by decide +kernel) (pa_cons (pv 1) (pa_cons (pe_tup (pa_cons (pe_bltn (v := .ty "list") (by rfl) B.list (by decide +kernel) rfl) (pa_cons (pe_bltn (v := .ty "tuple") (by rfl) B.tuple (by decide +kernel) rfl) pa_nil))) pa_nil))))) (pw_or1 (pt_cmpR op_ne (pe_callB call_len_seq (by rfl) B.len PySem.boot_len (pa_cons (pv 1) pa_nil)) (pe_meth0 (pv 0) T.cl ml_m_size G_m_size (hr.mono (by decide)) bb_m_size .nil pass0) (nomark _))))) (pss_one (ps_ret pe_bl)) pss_nil)
      (pss_one (ps_ret (pe_callB (cr_all rfl) (by rfl) B.all (by decide +kernel) (pa_cons (pe_lc (own := [("entry", 2)]) (g := (gName 2)) rfl sc_is_weights.nd (pi_sq (pv 1)) (blkOk_by (N := N_is_weights) (sc := (defScope s_is_weights)) (by decide +kernel)) (fun _ _ _ _ _ => (pg_name (i := 2) sc_is_weights.nd rfl (Or.inl rfl))) (fun _ _ _ _ _ => pts_nil) (fun _ _ _ _ _ => (pe_and (pe_call G_is_integer (hr.mono (by decide)) rfl mg_is_integer kp_is_integer bb_is_integer .nil pass0 (pa_cons (pv 2) pa_nil)) (pe_one (pe_cmpR op_ge (pv 2) pe_int (nomark _)))))) pa_nil)))))), ?_⟩
    refine q_if1 (b := isNon d) (et_test (ev_isND (ev_varD rfl p2) ev_non)) iv (fun hb H1 e1 => ?_) (fun hb H1 e1 => ?_)
    · refine q_ret ev_bl e1.inv fun v H2 e2 p => q v H2 (pure0.same (e1.trans e2)) ?_
      show Dx _ v (.bool (wtB w.n d))
      unfold wtB
      rw [hb]
      exact p
    have p1' := e1.upP p1
    have p2' := e1.upD p2
    have eN : wtB w.n d = (isSeq d && (decide ((itsD d).length = w.n) && (itsD d).all oneB)) := by unfold wtB; rw [hb, Bool.false_or]
    cases hd : isSeq d with
    | false =>
      refine q_if1 (b := true) (et_or (a := true) (b := false) (EvT.cast (et_not (et_B (ev_isLTD (ev_varD rfl p2')))) (by rw [hd]; rfl)) (fun z => nomatch z)) e1.inv (fun _ H2 e2 => ?_) (fun z => nomatch z)
      refine q_ret ev_bl e2.inv fun v H3 e3 p => q v H3 (pure0.same (e1.trans (e2.trans e3))) ?_
      show Dx _ v (.bool (wtB w.n d))
      rw [eN, hd]
      exact p
    | true =>
      have sq : ∀ {G : Hp}, Dx G v2 d → (vSq K (itsD d)).at_ G v2 := fun h => by
        cases d with
        | list ds => exact sqL_of h
        | tuple ds => exact sqT_of h
        | _ => cases hd
      have ex : ∀ {H2}, Ext (pure0 S) H1 H2 → Ev (pure0 S) (tVar 1) [some v1, some v2, none] H2 (vSq K (itsD d)) := fun e => ev_varS rfl (sq (e.upD p2'))
      by_cases hl : (itsD d).length = w.n
      · refine q_guard (EvT.cast (et_or (et_not (et_B (ev_isLTD (ev_varD rfl p2')))) fun _ => et_test (ev_neI (ev_lenS (ex (.refl e1.inv))) (ev_meth w (ev_varW rfl p1') (ins_web (by decide +kernel)) ea_nil rfl True.intro))) (by rw [hd, decide_eq_true (by omega)]; rfl)) e1.inv fun H2 e2 => ?_
        refine q_ret (P := vB ((itsD d).all oneB)) ((ev_all (bs := (itsD d).map oneB) ((en_map (fun e => .bool (oneB e)) (es_sq (ex e2)) (by show (itsD d).length ≤ 40000; omega) fun Y i e v H3 he s hv => ?_).ev.cast (by rw [List.map_map]; rfl))).cast (by rw [List.all_map]; rfl)) e2.inv fun v H3 e3 p => q v H3 (pure0.same (e1.trans (e2.trans e3))) ?_
        · refine tgt_name ⟨rfl, rfl, ?_⟩
          cases hi : isInt e with
          | false =>
            have e0 : oneB e = false := by cases e <;> first | rfl | cases hi
            exact Ev.cast (d := .bool (isInt e && false)) (ev_andV (ev_isint (ev_varD rfl hv)) fun z => by rw [hi] at z; cases z) (by rw [Bool.and_false, e0])
          | true =>
            cases e with
            | int z =>
              cases hv
              exact ev_andV (ev_isint (ev_varD rfl (.int z))) fun _ => ev_cmp (g := fun i j => decide (j ≤ i)) (ev_varD rfl (.int z)) ev_int
            | _ => cases hi
        · show Dx _ v (.bool (wtB w.n d))
          rw [eN, hd, decide_eq_true hl, Bool.true_and, Bool.true_and]
          exact p
      · refine q_if1 (b := true) (EvT.cast (et_or (et_not (et_B (ev_isLTD (ev_varD rfl p2')))) fun _ => et_test (ev_neI (ev_lenS (ex (.refl e1.inv))) (ev_meth w (ev_varW rfl p1') (ins_web (by decide +kernel)) ea_nil rfl True.intro))) (by rw [hd, decide_eq_false (by omega)]; rfl)) e1.inv (fun _ H2 e2 => ?_) (fun z => nomatch z)
        refine q_ret ev_bl e2.inv fun v H3 e3 p => q v H3 (pure0.same (e1.trans (e2.trans e3))) ?_
        show Dx _ v (.bool (wtB w.n d))
        rw [eN, hd, decide_eq_false hl, Bool.false_and, Bool.and_false]
        exact p
end
end Wb

namespace Wb
open PySem L2 Ee Lm LamX
local macro_rules | `(tactic| get_elem_tactic_trivial) => `(tactic| first
  | assumption | (refine Sub.upD (by assumption) ?_; get_elem_tactic_trivial) | (refine Sub.upP (by assumption) ?_; get_elem_tactic_trivial))
local macro_rules | `(tactic| trivial) => `(tactic| first
  | exact ev_int | exact ev_bl | exact ev_non | exact ev_str | exact ed_nil | exact ea_nil | exact eo_none | exact et_yes
  | exact ev_var rfl (Dx.int _) | exact ev_var rfl (Dx.bl _) | exact ev_var rfl (Dx.str _) | exact ev_var rfl Dx.non
  | (refine ev_varD rfl ?_; get_elem_tactic_trivial) | (refine ev_varW rfl ?_; get_elem_tactic_trivial)
  | (refine ed_cons ?_ ?_ <;> trivial) | (refine ea_cons ?_ ?_ <;> trivial) | (refine eo_some ?_ <;> trivial)
  | (refine ev_I0 ?_ ?_ <;> trivial) | (refine ev_I ?_ ?_ ?_ <;> try trivial) | (refine ev_cmp ?_ ?_ <;> trivial) | (refine ev_neg ?_ <;> trivial) | (refine ev_chain ?_ ?_ ?_ <;> trivial)
  | (refine ev_eqI ?_ ?_ <;> trivial) | (refine ev_neI ?_ ?_ <;> trivial) | (refine ev_eqS ?_ ?_ <;> trivial) | (refine ev_neS ?_ ?_ <;> trivial) | (refine ev_eqB ?_ ?_ <;> trivial) | (refine ev_neB ?_ ?_ <;> trivial)
  | (refine et_test ?_ <;> trivial) | (refine et_B ?_ <;> trivial) | (refine et_not ?_ <;> trivial)
  | (refine ev_lenL ?_ <;> trivial) | (refine ev_lenT ?_ <;> trivial)
  | (refine ev_ixL ?_ ?_ ?_ <;> try trivial) | (refine ev_ixT ?_ ?_ ?_ <;> try trivial)
  | (refine fld_count ?_ (by assumption) <;> trivial) | (refine fld_pairs ?_ (by assumption) <;> trivial) | (refine fld_mod ?_ (by assumption) <;> trivial) | (refine fld_nums ?_ (by assumption) <;> trivial) | (refine fld_firsts ?_ (by assumption) <;> trivial) | (refine fld_ties ?_ (by assumption) <;> trivial)
  | (refine ev_lenO ?_ <;> trivial) | (refine ev_isTup ?_ <;> trivial) | (refine ev_isLst ?_ <;> trivial)
  | (refine ev_isint ?_ <;> trivial) | (refine ev_between ?_ ?_ ?_ <;> trivial)
  | (refine (en_listL ?_).ev <;> trivial) | (refine (en_listT ?_).ev <;> trivial) | (refine (en_lst ?_ ?_).ev <;> try trivial) | (refine ev_tup ?_ ?_ <;> try trivial) | (refine (en_cat ?_ ?_ ?_).ev <;> try trivial))
abbrev spWtOk (C : Addr) : Sp := spF (α := WD × PyData) (fun a => fewQ a.2 ∧ wtB a.1.n a.2 = true) (fun a => [vW C a.1, vD a.2]) (fun _ => vD .none)
abbrev N_check_weights : List Str := ["web", "weights"]
section
variable {P : Program} {w : World} {K : PySem.W.Frag} {mg : Str → Option Value} {base : Heap} {C : Addr} {fW_ CW_InvalidPotential CW_InvalidWeights : Addr}
theorem sc_check_weights : FnScope N_check_weights ["web", "weights"] (defScope s_check_weights) := ⟨rfl, rfl, rfl, by decide +kernel, rfl, by decide +kernel, by decide +kernel⟩
theorem ok_check_weights {f : Addr} {fd : FuncData} (F : Fun K "check_weights" "check_weights" s_check_weights f fd) (B : Bn mg) (T : Txt K mg C)
    (D_is_weights : Df P w K mg base 2 "is_weights" ["web", "thing"] (spIsWeights C)) :
    FnOk P w K mg base CX0 3 f fd ["web", "weights"] (spWtOk C) := by
  obtain ⟨g_is_weights, gd_is_weights, G_is_weights, mg_is_weights, kp_is_weights, bb_is_weights⟩ := D_is_weights.ex
  refine F.ok sc_check_weights (fun vs H Q E h => ?_) (fun cdv A outer s H vs Q E hr h => ?_)
  · exact spF_len h fun _ => rfl
  · obtain ⟨⟨w, d⟩, S, ⟨hf, hg⟩, hS, hA, q⟩ := h
    rcases hA with _ | ⟨p1, _ | ⟨p2, _ | _⟩⟩
    have iv := pure0.I hS
    refine ⟨_, (pss_one (ps_if (pt_not (pt_val (pe_call G_is_weights (hr.mono (by decide)) rfl mg_is_weights kp_is_weights bb_is_weights .nil pass0 (pa_cons (pv 0) (pa_cons (pv 1) pa_nil))))) (pss_one ps_never) pss_nil)), ?_⟩
    exact s_guard (EvT.cast (et_not (et_B (ev_call (w, d) (ea_cons (ev_varW rfl p1) (ea_cons (ev_varD rfl p2) ea_nil)) hf))) (by show (!wtB w.n d) = false; rw [show wtB w.n d = true from hg]; rfl)) iv fun H1 e1 => q _ H1 (pure0.same e1) .non
end
abbrev spWtBad (C CW : Addr) : Sp := spX (α := WD × PyData) (fun a => fewQ a.2 ∧ wtB a.1.n a.2 = false) (fun a => [vW C a.1, vD a.2]) (fun _ => CW) (fun a => a.2)
def spCheckWt (C CW : Addr) : Sp := spR (spWtOk C) (spWtBad C CW)
theorem up_wtBad {C CW : Addr} : ∀ vs H Q E, spWtBad C CW vs H Q E → spCheckWt C CW vs H Q E := fun _ _ _ _ h => Or.inr h
theorem up_wtOk {C CW : Addr} : ∀ vs H Q E, spWtOk C vs H Q E → spCheckWt C CW vs H Q E := fun _ _ _ _ h => Or.inl h
abbrev N_check_weightsX : List Str := ["web", "weights"]
section
variable {P : Program} {w : World} {K : PySem.W.Frag} {mg : Str → Option Value} {base : Heap} {C : Addr} {fW_ CW_InvalidPotential CW_InvalidWeights : Addr}
theorem sc_check_weightsX : FnScope N_check_weightsX ["web", "weights"] (defScope s_check_weights) := ⟨rfl, rfl, rfl, by decide +kernel, rfl, by decide +kernel, by decide +kernel⟩
theorem ok_check_weightsX {f : Addr} {fd : FuncData} (F : Fun K "check_weights" "check_weights" s_check_weights f fd) (B : Bn mg) (T : Txt K mg C)
    (D_is_weights : Df P w K mg base 2 "is_weights" ["web", "thing"] (spIsWeights C))
    (XE_InvalidWeights : ExW K mg "InvalidWeights" CW_InvalidWeights fW_)
    (WE_ : WeD P w K mg base fW_) :
    FnOk P w K mg base (L2.CX P w) 3 f fd ["web", "weights"] (spCheckWt C CW_InvalidWeights) := by
  obtain ⟨g_is_weights, gd_is_weights, G_is_weights, mg_is_weights, kp_is_weights, bb_is_weights⟩ := D_is_weights.ex
  obtain ⟨fdW_, GW_, bW_⟩ := WE_.ex
  refine F.okX sc_check_weightsX (fun vs H Q E h => ?_) (fun cdv A outer s H vs Q E hr h => ?_)
  · rcases h with h | h
    · exact spF_len h fun _ => rfl
    · exact spX_len h fun _ => rfl
  · have h0 := h
    refine ⟨_, (pss_one (ps_if (pt_not (pt_val (pe_call G_is_weights (hr.mono (by decide)) rfl mg_is_weights kp_is_weights bb_is_weights .nil pass0 (pa_cons (pv 0) (pa_cons (pv 1) pa_nil))))) (pss_one (ps_raise rfl (takes_of rfl rfl rfl rfl) (pmk_oex XE_InvalidWeights.o XE_InvalidWeights.init XE_InvalidWeights.ty GW_ (hr.mono (by decide)) bW_ .nil pass0 rfl XE_InvalidWeights.mg (pa_cons (pv 1) pa_nil)))) pss_nil)), ?_⟩
    rcases h0 with ⟨⟨w, d⟩, S, ⟨hf, hg⟩, hS, hA, q⟩ | ⟨⟨w, d⟩, S, ⟨hf, hg⟩, hS, hA, q⟩
    · rcases hA with _ | ⟨p1, _ | ⟨p2, _ | _⟩⟩
      have iv := pure0.I hS
      exact s_guard (EvT.cast (et_not (et_B (ev_call (w, d) (ea_cons (ev_varW rfl p1) (ea_cons (ev_varD rfl p2) ea_nil)) hf))) (by show (!wtB w.n d) = false; rw [show wtB w.n d = true from hg]; rfl)) iv fun H1 e1 => q _ H1 (pure0.same e1) .non
    · rcases hA with _ | ⟨p1, _ | ⟨p2, _ | _⟩⟩
      have iv := pure0.I hS
      exact s_if1 (b := true) (EvT.cast (et_not (et_B (ev_call (w, d) (ea_cons (ev_varW rfl p1) (ea_cons (ev_varD rfl p2) ea_nil)) hf))) (by show (!wtB w.n d) = true; rw [show wtB w.n d = false from hg]; rfl)) iv (fun _ H1 e1 => s_raise XE_InvalidWeights.o XE_InvalidWeights.no (ev_varD rfl (e1.upD p2)) e1.inv fun dd v H2 e2 hd r => q dd v H2 (pure0.same (e1.trans e2)) hd r) (fun z => nomatch z)
end
end Wb

namespace Wb
open PySem L2 Ee Lm LamX
local macro_rules | `(tactic| get_elem_tactic_trivial) => `(tactic| first
  | assumption | (refine Sub.upD (by assumption) ?_; get_elem_tactic_trivial) | (refine Sub.upP (by assumption) ?_; get_elem_tactic_trivial))
local macro_rules | `(tactic| trivial) => `(tactic| first
  | exact ev_int | exact ev_bl | exact ev_non | exact ev_str | exact ed_nil | exact ea_nil | exact eo_none | exact et_yes
  | exact ev_var rfl (Dx.int _) | exact ev_var rfl (Dx.bl _) | exact ev_var rfl (Dx.str _) | exact ev_var rfl Dx.non
  | (refine ev_varD rfl ?_; get_elem_tactic_trivial) | (refine ev_varW rfl ?_; get_elem_tactic_trivial)
  | (refine ed_cons ?_ ?_ <;> trivial) | (refine ea_cons ?_ ?_ <;> trivial) | (refine eo_some ?_ <;> trivial)
  | (refine ev_I0 ?_ ?_ <;> trivial) | (refine ev_I ?_ ?_ ?_ <;> try trivial) | (refine ev_cmp ?_ ?_ <;> trivial) | (refine ev_neg ?_ <;> trivial) | (refine ev_chain ?_ ?_ ?_ <;> trivial)
  | (refine ev_eqI ?_ ?_ <;> trivial) | (refine ev_neI ?_ ?_ <;> trivial) | (refine ev_eqS ?_ ?_ <;> trivial) | (refine ev_neS ?_ ?_ <;> trivial) | (refine ev_eqB ?_ ?_ <;> trivial) | (refine ev_neB ?_ ?_ <;> trivial)
  | (refine et_test ?_ <;> trivial) | (refine et_B ?_ <;> trivial) | (refine et_not ?_ <;> trivial)
  | (refine ev_lenL ?_ <;> trivial) | (refine ev_lenT ?_ <;> trivial)
  | (refine ev_ixL ?_ ?_ ?_ <;> try trivial) | (refine ev_ixT ?_ ?_ ?_ <;> try trivial)
  | (refine fld_count ?_ (by assumption) <;> trivial) | (refine fld_pairs ?_ (by assumption) <;> trivial) | (refine fld_mod ?_ (by assumption) <;> trivial) | (refine fld_nums ?_ (by assumption) <;> trivial) | (refine fld_firsts ?_ (by assumption) <;> trivial) | (refine fld_ties ?_ (by assumption) <;> trivial)
  | (refine ev_lenO ?_ <;> trivial) | (refine ev_isTup ?_ <;> trivial) | (refine ev_isLst ?_ <;> trivial)
  | (refine ev_isint ?_ <;> trivial) | (refine ev_between ?_ ?_ ?_ <;> trivial)
  | (refine (en_listL ?_).ev <;> trivial) | (refine (en_listT ?_).ev <;> trivial) | (refine (en_lst ?_ ?_).ev <;> try trivial) | (refine ev_tup ?_ ?_ <;> try trivial) | (refine (en_cat ?_ ?_ ?_).ev <;> try trivial))
def ratesD (n : Nat) (d : PyData) : List PyData := if isNon d = true then List.replicate n (.int 1) else itsD d
def spRates (C : Addr) : Sp := spF (α := WD × PyData) (fun a => fewQ a.2 ∧ wtB a.1.n a.2 = true) (fun a => [vW C a.1, vD a.2]) (fun a => vD (.list (ratesD a.1.n a.2)))
abbrev N_rates_of : List Str := ["web", "weights"]
section
variable {P : Program} {w : World} {K : PySem.W.Frag} {mg : Str → Option Value} {base : Heap} {C : Addr} {fW_ CW_InvalidPotential CW_InvalidWeights : Addr}
theorem sc_rates_of : FnScope N_rates_of ["web", "weights"] (defScope s_rates_of) := ⟨rfl, rfl, rfl, by decide +kernel, rfl, by decide +kernel, by decide +kernel⟩
theorem ok_rates_of {f : Addr} {fd : FuncData} (F : Fun K "rates_of" "rates_of" s_rates_of f fd) (B : Bn mg) (T : Txt K mg C)
    (D_m_size : Md P w K mg base C 1 "size" ["self"] (spSize C)) :
    FnOk P w K mg base CX0 2 f fd ["web", "weights"] (spRates C) := by
  obtain ⟨g_m_size, gd_m_size, G_m_size, ml_m_size, bb_m_size⟩ := D_m_size.ex
  refine F.ok sc_rates_of (fun vs H Q E h => ?_) (fun cdv A outer s H vs Q E hr h => ?_)
  · exact spF_len h fun _ => rfl
  · obtain ⟨⟨w, d⟩, S, ⟨hfew, hg⟩, hS, hA, q⟩ := h
    rcases hA with _ | ⟨p1, _ | ⟨p2, _ | _⟩⟩
    rename_i v1 v2
    have iv := pure0.I hS
    replace hfew : (itsD d).length ≤ 5000 := hfew
    replace hg : wtB w.n d = true := hg
    have n30 : w.n ≤ 30 := (ok_of p1).n30
    refine ⟨_, (pss_cons (ps_if (pt_cmpR op_isN (pv 1) pe_non (by rfl)) (pss_one (ps_ret (pe_op op_rep (pe_lst (pa_cons pe_int pa_nil)) (pe_meth0 (pv 0) T.cl ml_m_size G_m_size (hr.mono (by decide)) bb_m_size .nil pass0)))) pss_nil)
      (pss_one (ps_ret (pe_callTy call_list_of (by rfl) B.list (by decide +kernel) (pa_cons (pv 1) pa_nil))))), ?_⟩
    refine q_if1 (b := isNon d) (et_test (ev_isND (ev_varD rfl p2) ev_non)) iv (fun hb H1 e1 => ?_) (fun hb H1 e1 => ?_)
    · refine q_ret (EvN.ev (en_repL (ds := [.int 1]) (k := w.n) (EvN.ev (en_lst (ed_cons ev_int ed_nil) (by show 1 ≤ 40000; decide))) (ev_meth w (ev_varW rfl (e1.upP p1)) (ins_web (by decide +kernel)) ea_nil rfl True.intro) (by show 1 * w.n ≤ 40000; omega) (by omega))) e1.inv fun v H2 e2 p => q v H2 (pure0.same (e1.trans e2)) ?_
      show Dx _ v (.list (ratesD w.n d))
      have e : ratesD w.n d = (List.replicate w.n [PyData.int 1]).flatten := by
        unfold ratesD
        rw [if_pos hb]
        simp
      rw [e]
      exact p
    · have hd : isSeq d = true := by
        unfold wtB at hg
        rw [hb, Bool.false_or] at hg
        exact (Bool.and_eq_true_iff.mp hg).1
      have e : ratesD w.n d = itsD d := by
        unfold ratesD
        rw [if_neg (by rw [hb]; exact Bool.false_ne_true)]
      have p2' := e1.upD p2
      refine q_ret (P := vD (.list (itsD d))) (EvN.ev ?_) e1.inv fun v H2 e2 p => q v H2 (pure0.same (e1.trans e2)) ?_
      · cases d with
        | list ds => exact en_listL (ev_varD rfl p2')
        | tuple ds => exact en_listT (ev_varD rfl p2')
        | _ => cases hd
      · show Dx _ v (.list (ratesD w.n d))
        rw [e]
        exact p
end
end Wb

namespace Wb
open PySem L2 Ee Lm LamX
local macro_rules | `(tactic| get_elem_tactic_trivial) => `(tactic| first
  | assumption | (refine Sub.upD (by assumption) ?_; get_elem_tactic_trivial) | (refine Sub.upP (by assumption) ?_; get_elem_tactic_trivial))
local macro_rules | `(tactic| trivial) => `(tactic| first
  | exact ev_int | exact ev_bl | exact ev_non | exact ev_str | exact ed_nil | exact ea_nil | exact eo_none | exact et_yes
  | exact ev_var rfl (Dx.int _) | exact ev_var rfl (Dx.bl _) | exact ev_var rfl (Dx.str _) | exact ev_var rfl Dx.non
  | (refine ev_varD rfl ?_; get_elem_tactic_trivial) | (refine ev_varW rfl ?_; get_elem_tactic_trivial)
  | (refine ed_cons ?_ ?_ <;> trivial) | (refine ea_cons ?_ ?_ <;> trivial) | (refine eo_some ?_ <;> trivial)
  | (refine ev_I0 ?_ ?_ <;> trivial) | (refine ev_I ?_ ?_ ?_ <;> try trivial) | (refine ev_cmp ?_ ?_ <;> trivial) | (refine ev_neg ?_ <;> trivial) | (refine ev_chain ?_ ?_ ?_ <;> trivial)
  | (refine ev_eqI ?_ ?_ <;> trivial) | (refine ev_neI ?_ ?_ <;> trivial) | (refine ev_eqS ?_ ?_ <;> trivial) | (refine ev_neS ?_ ?_ <;> trivial) | (refine ev_eqB ?_ ?_ <;> trivial) | (refine ev_neB ?_ ?_ <;> trivial)
  | (refine et_test ?_ <;> trivial) | (refine et_B ?_ <;> trivial) | (refine et_not ?_ <;> trivial)
  | (refine ev_lenL ?_ <;> trivial) | (refine ev_lenT ?_ <;> trivial)
  | (refine ev_ixL ?_ ?_ ?_ <;> try trivial) | (refine ev_ixT ?_ ?_ ?_ <;> try trivial)
  | (refine fld_count ?_ (by assumption) <;> trivial) | (refine fld_pairs ?_ (by assumption) <;> trivial) | (refine fld_mod ?_ (by assumption) <;> trivial) | (refine fld_nums ?_ (by assumption) <;> trivial) | (refine fld_firsts ?_ (by assumption) <;> trivial) | (refine fld_ties ?_ (by assumption) <;> trivial)
  | (refine ev_lenO ?_ <;> trivial) | (refine ev_isTup ?_ <;> trivial) | (refine ev_isLst ?_ <;> trivial)
  | (refine ev_isint ?_ <;> trivial) | (refine ev_between ?_ ?_ ?_ <;> trivial)
  | (refine (en_listL ?_).ev <;> trivial) | (refine (en_listT ?_).ev <;> trivial) | (refine (en_lst ?_ ?_).ev <;> try trivial) | (refine ev_tup ?_ ?_ <;> try trivial) | (refine (en_cat ?_ ?_ ?_).ev <;> try trivial))
def priceW (m : Int) (rs p : List Int) : Int := ((rs.zip p).map fun q => q.1 * szW m q.2).sum
structure CostOk (a : WD × List Int × PyData × List Int) : Prop where
  pb : potB a.1 (dZs a.2.1) = true
  fw : fewQ a.2.2.1
  wt : wtB a.1.n a.2.2.1 = true
  rt : ratesD a.1.n a.2.2.1 = a.2.2.2.map PyData.int
  bd : ∀ r ∈ a.2.2.2, 1 ≤ r ∧ r ≤ 10 ^ 10
abbrev spCostF (C : Addr) : Sp := spF (α := WD × List Int × PyData × List Int) CostOk (fun a => [vW C a.1, vD (dZs a.2.1), vD a.2.2.1]) (fun a => vI (priceW a.1.m a.2.2.2 a.2.1))
abbrev spCost1 (C CW : Addr) : Sp := spX (α := WD × PyData × PyData) (fun a => fewL a.2.1 ∧ potB a.1 a.2.1 = false) (fun a => [vW C a.1, vD a.2.1, vD a.2.2]) (fun _ => CW) (fun a => a.2.1)
abbrev spCost2 (C CW : Addr) : Sp := spX (α := WD × PyData × PyData) (fun a => fewL a.2.1 ∧ potB a.1 a.2.1 = true ∧ fewQ a.2.2 ∧ wtB a.1.n a.2.2 = false) (fun a => [vW C a.1, vD a.2.1, vD a.2.2]) (fun _ => CW) (fun a => a.2.2)
def spCostX (C CP CW : Addr) : Sp := spR (spCost1 C CP) (spCost2 C CW)
theorem up_Co1 {C CP CW : Addr} : ∀ vs H Q E, spCost1 C CP vs H Q E → spCostX C CP CW vs H Q E := fun _ _ _ _ h => Or.inl h
theorem up_Co2 {C CP CW : Addr} : ∀ vs H Q E, spCost2 C CW vs H Q E → spCostX C CP CW vs H Q E := fun _ _ _ _ h => Or.inr h
theorem cmul_r {r z : Int} (h1 : 1 ≤ r) (h2 : r ≤ 10 ^ 10) : L2.CMul r z := .inl ⟨by omega, by omega⟩
abbrev N_cost : List Str := ["web", "potential", "weights", "rates", "rate", "value"]
section
variable {P : Program} {w : World} {K : PySem.W.Frag} {mg : Str → Option Value} {base : Heap} {C : Addr} {fW_ CW_InvalidPotential CW_InvalidWeights : Addr}
theorem sc_cost : FnScope N_cost ["web", "potential", "weights"] (defScope s_cost) := ⟨rfl, rfl, rfl, by decide +kernel, rfl, by decide +kernel, by decide +kernel⟩
theorem ok_cost {f : Addr} {fd : FuncData} {kws : List (Str × V)} {dvs : List V} (F : FunD K "cost" "cost" (defArgs s_cost) (defBody s_cost) (defScope s_cost) dvs kws f fd) (B : Bn mg) (T : Txt K mg C)
    (D_check_potential : Df P w K mg base 6 "check_potential" ["web", "potential"] (spCheckPot C))
    (D_check_weights : Df P w K mg base 3 "check_weights" ["web", "weights"] (spWtOk C))
    (D_rates_of : Df P w K mg base 2 "rates_of" ["web", "weights"] (spRates C))
    (D_size_of : Df P w K mg base 3 "size_of" ["web", "number"] (spSizeOf C)) :
    FnOk P w K mg base CX0 7 f fd ["web", "potential", "weights"] (spCostF C) := by
  obtain ⟨g_check_potential, gd_check_potential, G_check_potential, mg_check_potential, kp_check_potential, bb_check_potential⟩ := D_check_potential.ex
  obtain ⟨g_check_weights, gd_check_weights, G_check_weights, mg_check_weights, kp_check_weights, bb_check_weights⟩ := D_check_weights.ex
  obtain ⟨g_rates_of, gd_rates_of, G_rates_of, mg_rates_of, kp_rates_of, bb_rates_of⟩ := D_rates_of.ex
  obtain ⟨g_size_of, gd_size_of, G_size_of, mg_size_of, kp_size_of, bb_size_of⟩ := D_size_of.ex
  refine F.ok sc_cost (fun vs H Q E h => ?_) (fun cdv A outer s H vs Q E hr h => ?_)
  · exact spF_len h fun _ => rfl
  · obtain ⟨⟨w, p, d, rs⟩, S, hco, hS, hA, q⟩ := h
    rcases hA with _ | ⟨p1, _ | ⟨p2, _ | ⟨p3, _ | _⟩⟩⟩
    rename_i v1 v2 v3
    have iv := pure0.I hS
    obtain ⟨hpb, hfw, hwt, hrt, hbd⟩ := hco
    dsimp only at hpb hfw hwt hrt hbd p1 p2 p3 q
    have n30 : w.n ≤ 30 := (ok_of p1).n30
    have hpl := (potB_iff.mp hpb).1
    refine ⟨_, (PSs.nox (pss_cons (ps_expr (pe_call G_check_potential (hr.mono (by decide)) rfl mg_check_potential kp_check_potential bb_check_potential .nil pass0 (pa_cons (pv 0) (pa_cons (pv 1) pa_nil))))
      (pss_cons (ps_expr (pe_call G_check_weights (hr.mono (by decide)) rfl mg_check_weights kp_check_weights bb_check_weights .nil pass0 (pa_cons (pv 0) (pa_cons (pv 2) pa_nil))))
      (pss_cons (ps_set (i := 3) sc_cost.nd rfl (Or.inl rfl) (pe_call G_rates_of (hr.mono (by decide)) rfl mg_rates_of kp_rates_of bb_rates_of .nil pass0 (pa_cons (pv 0) (pa_cons (pv 2) pa_nil))))
      (pss_one (ps_ret (pe_callB (cr_sum rfl) (by rfl) B.sum (by decide +kernel) (pa_cons (pe_lc (own := [("rate", 4), ("value", 5)]) (g := (gTup K 2 (gCons (gName 4) (gCons (gName 5) gNil)))) rfl sc_cost.nd (pi_zip (by rfl) B.zip (pa_cons (pv 3) (pa_cons (pv 1) pa_nil))) (blkOk_by (N := N_cost) (sc := (defScope s_cost)) (by decide +kernel)) (fun _ _ _ _ _ => (pg_tup rfl (pgs_cons (pg_name (i := 4) sc_cost.nd rfl (Or.inl rfl)) (pgs_cons (pg_name (i := 5) sc_cost.nd rfl (Or.inl rfl)) pgs_nil)))) (fun _ _ _ _ _ => pts_nil) (fun _ _ _ _ _ => (pe_op op_mul (pv 4) (pe_call G_size_of (hr.mono (by decide)) rfl mg_size_of kp_size_of bb_size_of .nil pass0 (pa_cons (pv 0) (pa_cons (pv 5) pa_nil)))))) pa_nil)))))))), ?_⟩
    refine q_drop (ev_call (w, p) (ea_cons (ev_varW rfl p1) (ea_cons (ev_varD rfl p2) ea_nil)) hpb) iv fun H1 e1 => ?_
    refine q_drop (ev_call (w, d) (ea_cons (ev_varW rfl (e1.upP p1)) (ea_cons (ev_varD rfl (e1.upD p3)) ea_nil)) ⟨hfw, hwt⟩) e1.inv fun H2 e2 => ?_
    have e12 := e1.trans e2
    refine q_asg (P := vD (dZs rs)) ((ev_call (w, d) (ea_cons (ev_varW rfl (e12.upP p1)) (ea_cons (ev_varD rfl (e12.upD p3)) ea_nil)) ⟨hfw, hwt⟩).cast (congrArg PyData.list hrt)) e2.inv fun vr H3 e3 gr => ?_
    have e13 := e12.trans e3
    refine q_ret (P := vI (priceW w.m rs p)) (ev_sum (ns := (rs.zip p).map fun q => q.1 * szW w.m q.2) ((en_map (fun d => match d with | .tuple [.int x, .int y] => .int (x * szW w.m y) | _ => .none) (es_zipT (l := rs) (m := p) (dd := PyData.int) (ee := PyData.int) (ev_varD rfl gr) (ev_varD rfl (e13.upD p2))) (by rw [List.length_map, List.length_zip]; omega) fun Y i d v H4 hd s hv => ?_).ev.cast (by rw [List.map_map, List.map_map]; rfl))) e3.inv fun v H4 e4 pv => q v H4 (pure0.same (e13.trans e4)) pv
    rw [List.getElem?_map] at hd
    obtain ⟨⟨x, y⟩, hxy, rfl⟩ := Option.map_eq_some_iff.mp hd
    have hx := hbd x (List.of_mem_zip (List.mem_of_getElem? hxy)).1
    refine tgt_tup2 hv wo_le fun w1 w2 g1 g2 => ?_
    cases g1; cases g2
    exact tgt_name (tgt_name ⟨rfl, rfl, ev_I (g := fun i j => i * j) (ev_varD rfl (.int _)) (ev_call (w, y) (ea_cons (ev_varW rfl ((e13.trans s).upP p1)) (ea_cons (ev_varD rfl (.int _)) ea_nil)) True.intro) (cmul_r hx.1 hx.2)⟩)
end
end Wb

namespace Wb
open PySem L2 Ee Lm LamX
local macro_rules | `(tactic| get_elem_tactic_trivial) => `(tactic| first
  | assumption | (refine Sub.upD (by assumption) ?_; get_elem_tactic_trivial) | (refine Sub.upP (by assumption) ?_; get_elem_tactic_trivial))
local macro_rules | `(tactic| trivial) => `(tactic| first
  | exact ev_int | exact ev_bl | exact ev_non | exact ev_str | exact ed_nil | exact ea_nil | exact eo_none | exact et_yes
  | exact ev_var rfl (Dx.int _) | exact ev_var rfl (Dx.bl _) | exact ev_var rfl (Dx.str _) | exact ev_var rfl Dx.non
  | (refine ev_varD rfl ?_; get_elem_tactic_trivial) | (refine ev_varW rfl ?_; get_elem_tactic_trivial)
  | (refine ed_cons ?_ ?_ <;> trivial) | (refine ea_cons ?_ ?_ <;> trivial) | (refine eo_some ?_ <;> trivial)
  | (refine ev_I0 ?_ ?_ <;> trivial) | (refine ev_I ?_ ?_ ?_ <;> try trivial) | (refine ev_cmp ?_ ?_ <;> trivial) | (refine ev_neg ?_ <;> trivial) | (refine ev_chain ?_ ?_ ?_ <;> trivial)
  | (refine ev_eqI ?_ ?_ <;> trivial) | (refine ev_neI ?_ ?_ <;> trivial) | (refine ev_eqS ?_ ?_ <;> trivial) | (refine ev_neS ?_ ?_ <;> trivial) | (refine ev_eqB ?_ ?_ <;> trivial) | (refine ev_neB ?_ ?_ <;> trivial)
  | (refine et_test ?_ <;> trivial) | (refine et_B ?_ <;> trivial) | (refine et_not ?_ <;> trivial)
  | (refine ev_lenL ?_ <;> trivial) | (refine ev_lenT ?_ <;> trivial)
  | (refine ev_ixL ?_ ?_ ?_ <;> try trivial) | (refine ev_ixT ?_ ?_ ?_ <;> try trivial)
  | (refine fld_count ?_ (by assumption) <;> trivial) | (refine fld_pairs ?_ (by assumption) <;> trivial) | (refine fld_mod ?_ (by assumption) <;> trivial) | (refine fld_nums ?_ (by assumption) <;> trivial) | (refine fld_firsts ?_ (by assumption) <;> trivial) | (refine fld_ties ?_ (by assumption) <;> trivial)
  | (refine ev_lenO ?_ <;> trivial) | (refine ev_isTup ?_ <;> trivial) | (refine ev_isLst ?_ <;> trivial)
  | (refine ev_isint ?_ <;> trivial) | (refine ev_between ?_ ?_ ?_ <;> trivial)
  | (refine (en_listL ?_).ev <;> trivial) | (refine (en_listT ?_).ev <;> trivial) | (refine (en_lst ?_ ?_).ev <;> try trivial) | (refine ev_tup ?_ ?_ <;> try trivial) | (refine (en_cat ?_ ?_ ?_).ev <;> try trivial))
abbrev N_costX : List Str := ["web", "potential", "weights", "rates", "rate", "value"]
section
variable {P : Program} {w : World} {K : PySem.W.Frag} {mg : Str → Option Value} {base : Heap} {C : Addr} {fW_ CW_InvalidPotential CW_InvalidWeights : Addr}
theorem sc_costX : FnScope N_costX ["web", "potential", "weights"] (defScope s_cost) := ⟨rfl, rfl, rfl, by decide +kernel, rfl, by decide +kernel, by decide +kernel⟩
theorem ok_costX {f : Addr} {fd : FuncData} {kws : List (Str × V)} {dvs : List V} (F : FunD K "cost" "cost" (defArgs s_cost) (defBody s_cost) (defScope s_cost) dvs kws f fd) (B : Bn mg) (T : Txt K mg C)
    (D_check_potentialX : DfX P w K mg base 6 "check_potential" ["web", "potential"] (spCheckPotX C CW_InvalidPotential))
    (D_check_weightsX : DfX P w K mg base 3 "check_weights" ["web", "weights"] (spCheckWt C CW_InvalidWeights)) :
    FnOk P w K mg base (L2.CX P w) 7 f fd ["web", "potential", "weights"] (spCostX C CW_InvalidPotential CW_InvalidWeights) := by
  obtain ⟨g_check_potentialX, gd_check_potentialX, G_check_potentialX, mg_check_potentialX, kp_check_potentialX, bb_check_potentialX⟩ := D_check_potentialX.ex
  obtain ⟨g_check_weightsX, gd_check_weightsX, G_check_weightsX, mg_check_weightsX, kp_check_weightsX, bb_check_weightsX⟩ := D_check_weightsX.ex
  refine F.ok sc_costX (fun vs H Q E h => ?_) (fun cdv A outer s H vs Q E hr h => ?_)
  · rcases h with h | h
    · exact spX_len h fun _ => rfl
    · exact spX_len h fun _ => rfl
  · have h0 := h
    refine ⟨_, (pss_cons (ps_expr (pe_call G_check_potentialX (hr.mono (by decide)) rfl mg_check_potentialX kp_check_potentialX bb_check_potentialX .nil (passes_call (E := E) (takes_of rfl rfl rfl rfl) (fun _ _ _ _ h => h)) (pa_cons (pv 0) (pa_cons (pv 1) pa_nil))))
      (pss_cons (ps_expr (pe_call G_check_weightsX (hr.mono (by decide)) rfl mg_check_weightsX kp_check_weightsX bb_check_weightsX .nil (passes_call (E := E) (takes_of rfl rfl rfl rfl) (fun _ _ _ _ h => h)) (pa_cons (pv 0) (pa_cons (pv 2) pa_nil))))
      (pss_cons ps_never
      (pss_one ps_never)))), ?_⟩
    rcases h0 with ⟨⟨w, b, a⟩, S, ⟨hf, hg⟩, hS, hA, q⟩ | ⟨⟨w, b, a⟩, S, ⟨hf, hg, hf2, hg2⟩, hS, hA, q⟩
    · rcases hA with _ | ⟨p1, _ | ⟨p2, _ | ⟨p3, _ | _⟩⟩⟩
      have iv := pure0.I hS
      exact q_dropX (ex_callG up_potBad (w, b) (ea_cons (ev_varW rfl p1) (ea_cons (ev_varD rfl p2) ea_nil)) ⟨hf, hg⟩) iv fun dd v H1 e1 hd r => q dd v H1 (pure0.same e1) hd r
    · rcases hA with _ | ⟨p1, _ | ⟨p2, _ | ⟨p3, _ | _⟩⟩⟩
      have iv := pure0.I hS
      refine q_drop (ev_callG up_potOk (w, b) (ea_cons (ev_varW rfl p1) (ea_cons (ev_varD rfl p2) ea_nil)) ⟨hf, hg⟩) iv fun H1 e1 => ?_
      exact q_dropX (ex_callG up_wtBad (w, a) (ea_cons (ev_varW rfl (e1.upP p1)) (ea_cons (ev_varD rfl (e1.upD p3)) ea_nil)) ⟨hf2, hg2⟩) e1.inv fun dd v H2 e2 hd r => q dd v H2 (pure0.same (e1.trans e2)) hd r
end
end Wb

namespace Wb
open PySem L2 Ee Lm LamX
local macro_rules | `(tactic| get_elem_tactic_trivial) => `(tactic| first
  | assumption | (refine Sub.upD (by assumption) ?_; get_elem_tactic_trivial) | (refine Sub.upP (by assumption) ?_; get_elem_tactic_trivial))
local macro_rules | `(tactic| trivial) => `(tactic| first
  | exact ev_int | exact ev_bl | exact ev_non | exact ev_str | exact ed_nil | exact ea_nil | exact eo_none | exact et_yes
  | exact ev_var rfl (Dx.int _) | exact ev_var rfl (Dx.bl _) | exact ev_var rfl (Dx.str _) | exact ev_var rfl Dx.non
  | (refine ev_varD rfl ?_; get_elem_tactic_trivial) | (refine ev_varW rfl ?_; get_elem_tactic_trivial)
  | (refine ed_cons ?_ ?_ <;> trivial) | (refine ea_cons ?_ ?_ <;> trivial) | (refine eo_some ?_ <;> trivial)
  | (refine ev_I0 ?_ ?_ <;> trivial) | (refine ev_I ?_ ?_ ?_ <;> try trivial) | (refine ev_cmp ?_ ?_ <;> trivial) | (refine ev_neg ?_ <;> trivial) | (refine ev_chain ?_ ?_ ?_ <;> trivial)
  | (refine ev_eqI ?_ ?_ <;> trivial) | (refine ev_neI ?_ ?_ <;> trivial) | (refine ev_eqS ?_ ?_ <;> trivial) | (refine ev_neS ?_ ?_ <;> trivial) | (refine ev_eqB ?_ ?_ <;> trivial) | (refine ev_neB ?_ ?_ <;> trivial)
  | (refine et_test ?_ <;> trivial) | (refine et_B ?_ <;> trivial) | (refine et_not ?_ <;> trivial)
  | (refine ev_lenL ?_ <;> trivial) | (refine ev_lenT ?_ <;> trivial)
  | (refine ev_ixL ?_ ?_ ?_ <;> try trivial) | (refine ev_ixT ?_ ?_ ?_ <;> try trivial)
  | (refine fld_count ?_ (by assumption) <;> trivial) | (refine fld_pairs ?_ (by assumption) <;> trivial) | (refine fld_mod ?_ (by assumption) <;> trivial) | (refine fld_nums ?_ (by assumption) <;> trivial) | (refine fld_firsts ?_ (by assumption) <;> trivial) | (refine fld_ties ?_ (by assumption) <;> trivial)
  | (refine ev_lenO ?_ <;> trivial) | (refine ev_isTup ?_ <;> trivial) | (refine ev_isLst ?_ <;> trivial)
  | (refine ev_isint ?_ <;> trivial) | (refine ev_between ?_ ?_ ?_ <;> trivial)
  | (refine (en_listL ?_).ev <;> trivial) | (refine (en_listT ?_).ev <;> trivial) | (refine (en_lst ?_ ?_).ev <;> try trivial) | (refine ev_tup ?_ ?_ <;> try trivial) | (refine (en_cat ?_ ?_ ?_).ev <;> try trivial))
def spWidth : Sp := spF (α := Int × Int) (fun a => 0 ≤ a.2) (fun a => [vI a.1, vI a.2]) (fun a => vI (szW a.2 a.1))
abbrev N_law_width : List Str := ["_law_number_here", "_law_dial", "_law_low_here"]
section
variable {P : Program} {w : World} {K : PySem.W.Frag} {mg : Str → Option Value} {base : Heap} {C : Addr} {fW_ CW_InvalidPotential CW_InvalidWeights : Addr}
theorem sc_law_width : FnScope N_law_width ["_law_number_here", "_law_dial"] (defScope s_law_width) := ⟨rfl, rfl, rfl, by decide +kernel, rfl, by decide +kernel, by decide +kernel⟩
theorem ok_law_width {f : Addr} {fd : FuncData} (F : Fun K "_law_width" "_law_width" s_law_width f fd) (B : Bn mg) (T : Txt K mg C)
    (D_law_low : Df P w K mg base 1 "_law_low" ["_law_number_here", "_law_dial"] spLow) :
    FnOk P w K mg base CX0 2 f fd ["_law_number_here", "_law_dial"] spWidth := by
  obtain ⟨g_law_low, gd_law_low, G_law_low, mg_law_low, kp_law_low, bb_law_low⟩ := D_law_low.ex
  refine F.ok sc_law_width (fun vs H Q E h => ?_) (fun cdv A outer s H vs Q E hr h => ?_)
  · exact spF_len h fun _ => rfl
  · obtain ⟨⟨z, m⟩, S, hm, hS, hA, q⟩ := h
    rcases hA with _ | ⟨p1, _ | ⟨p2, _ | _⟩⟩
    cases p1; cases p2
    have iv := pure0.I hS
    dsimp only at hm q
    refine ⟨_, (pss_cons (ps_set (i := 2) sc_law_width.nd rfl (Or.inl rfl) (pe_call G_law_low (hr.mono (by decide)) rfl mg_law_low kp_law_low bb_law_low .nil pass0 (pa_cons (pv 0) (pa_cons (pv 1) pa_nil))))
      (pss_one (ps_ret (pe_ifExp (pt_cmpR op_eq (pv 1) pe_int (nomark _)) (pe_callB call_abs (by rfl) B.abs (by decide +kernel) (pa_cons (pv 2) pa_nil)) (pe_callB (call_min2 rfl) (by rfl) B.min (by decide +kernel) (pa_cons (pv 2) (pa_cons (pe_op op_sub (pv 1) (pv 2)) pa_nil))))))), ?_⟩
    refine q_asg (P := vI (red m z)) (ev_call (z, m) (ea_cons (ev_varD rfl (.int z)) (ea_cons (ev_varD rfl (.int m)) ea_nil)) hm) iv fun vl H1 e1 g1 => ?_
    cases g1
    refine q_ret (P := vI (szW m z)) (ev_if (et_test (ev_eqI (ev_varD rfl (.int m)) ev_int)) (fun hb => ?_) (fun hb => ?_)) e1.inv fun v H2 e2 p => q v H2 (pure0.same (e1.trans e2)) p
    · exact (ev_abs (ev_varD rfl (.int _))).cast (congrArg PyData.int (by unfold szW; rw [if_pos (of_decide_eq_true hb)]))
    · exact (ev_min2 (ev_varD rfl (.int _)) (ev_I0 (g := fun i j => i - j) (ev_varD rfl (.int m)) (ev_varD rfl (.int _)))).cast (congrArg PyData.int (by unfold szW; rw [if_neg (of_decide_eq_false hb)]))
end
def spPrice : Sp := spF (α := List Int × Int × List Int) (fun a => 0 ≤ a.2.1 ∧ a.1.length ≤ 30 ∧ ∀ r ∈ a.2.2, 1 ≤ r ∧ r ≤ 10 ^ 10) (fun a => [vD (dZs a.1), vI a.2.1, vD (dZs a.2.2)]) (fun a => vI (priceW a.2.1 a.2.2 a.1))
abbrev N_law_price : List Str := ["_law_levels", "_law_dial", "_law_heavy_here", "_law_weight", "_law_level"]
section
variable {P : Program} {w : World} {K : PySem.W.Frag} {mg : Str → Option Value} {base : Heap} {C : Addr} {fW_ CW_InvalidPotential CW_InvalidWeights : Addr}
theorem sc_law_price : FnScope N_law_price ["_law_levels", "_law_dial", "_law_heavy_here"] (defScope s_law_price) := ⟨rfl, rfl, rfl, by decide +kernel, rfl, by decide +kernel, by decide +kernel⟩
theorem ok_law_price {f : Addr} {fd : FuncData} (F : Fun K "_law_price" "_law_price" s_law_price f fd) (B : Bn mg) (T : Txt K mg C)
    (D_law_width : Df P w K mg base 2 "_law_width" ["_law_number_here", "_law_dial"] spWidth) :
    FnOk P w K mg base CX0 3 f fd ["_law_levels", "_law_dial", "_law_heavy_here"] spPrice := by
  obtain ⟨g_law_width, gd_law_width, G_law_width, mg_law_width, kp_law_width, bb_law_width⟩ := D_law_width.ex
  refine F.ok sc_law_price (fun vs H Q E h => ?_) (fun cdv A outer s H vs Q E hr h => ?_)
  · exact spF_len h fun _ => rfl
  · obtain ⟨⟨p, m, rs⟩, S, ⟨hm, hpl, hbd⟩, hS, hA, q⟩ := h
    rcases hA with _ | ⟨p1, _ | ⟨p2, _ | ⟨p3, _ | _⟩⟩⟩
    cases p2
    rename_i v1 v3
    have iv := pure0.I hS
    dsimp only at hm hpl hbd p1 p3 q
    refine ⟨_, (pss_one (ps_ret (pe_callB (cr_sum rfl) (by rfl) B.sum (by decide +kernel) (pa_cons (pe_lc (own := [("_law_weight", 3), ("_law_level", 4)]) (g := (gTup K 2 (gCons (gName 3) (gCons (gName 4) gNil)))) rfl sc_law_price.nd (pi_zip (by rfl) B.zip (pa_cons (pv 2) (pa_cons (pv 0) pa_nil))) (blkOk_by (N := N_law_price) (sc := (defScope s_law_price)) (by decide +kernel)) (fun _ _ _ _ _ => (pg_tup rfl (pgs_cons (pg_name (i := 3) sc_law_price.nd rfl (Or.inl rfl)) (pgs_cons (pg_name (i := 4) sc_law_price.nd rfl (Or.inl rfl)) pgs_nil)))) (fun _ _ _ _ _ => pts_nil) (fun _ _ _ _ _ => (pe_op op_mul (pv 3) (pe_call G_law_width (hr.mono (by decide)) rfl mg_law_width kp_law_width bb_law_width .nil pass0 (pa_cons (pv 4) (pa_cons (pv 1) pa_nil)))))) pa_nil)))), ?_⟩
    refine q_ret (P := vI (priceW m rs p)) (ev_sum (ns := (rs.zip p).map fun q => q.1 * szW m q.2) ((en_map (fun d => match d with | .tuple [.int x, .int y] => .int (x * szW m y) | _ => .none) (es_zipT (l := rs) (m := p) (dd := PyData.int) (ee := PyData.int) (ev_varD rfl p3) (ev_varD rfl p1)) (by rw [List.length_map, List.length_zip]; omega) fun Y i d v H4 hd s hv => ?_).ev.cast (by rw [List.map_map, List.map_map]; rfl))) iv fun v H4 e4 pv => q v H4 (pure0.same e4) pv
    rw [List.getElem?_map] at hd
    obtain ⟨⟨x, y⟩, hxy, rfl⟩ := Option.map_eq_some_iff.mp hd
    have hx := hbd x (List.of_mem_zip (List.mem_of_getElem? hxy)).1
    refine tgt_tup2 hv wo_le fun w1 w2 g1 g2 => ?_
    cases g1; cases g2
    exact tgt_name (tgt_name ⟨rfl, rfl, ev_I (g := fun i j => i * j) (ev_varD rfl (.int _)) (ev_call (y, m) (ea_cons (ev_varD rfl (.int _)) (ea_cons (ev_varD rfl (.int m)) ea_nil)) hm) (cmul_r hx.1 hx.2)⟩)
end
end Wb

namespace Wb
open PySem L2 Ee Lm LamX
local macro_rules | `(tactic| get_elem_tactic_trivial) => `(tactic| first
  | assumption | (refine Sub.upD (by assumption) ?_; get_elem_tactic_trivial) | (refine Sub.upP (by assumption) ?_; get_elem_tactic_trivial))
local macro_rules | `(tactic| trivial) => `(tactic| first
  | exact ev_int | exact ev_bl | exact ev_non | exact ev_str | exact ed_nil | exact ea_nil | exact eo_none | exact et_yes
  | exact ev_var rfl (Dx.int _) | exact ev_var rfl (Dx.bl _) | exact ev_var rfl (Dx.str _) | exact ev_var rfl Dx.non
  | (refine ev_varD rfl ?_; get_elem_tactic_trivial) | (refine ev_varW rfl ?_; get_elem_tactic_trivial)
  | (refine ed_cons ?_ ?_ <;> trivial) | (refine ea_cons ?_ ?_ <;> trivial) | (refine eo_some ?_ <;> trivial)
  | (refine ev_I0 ?_ ?_ <;> trivial) | (refine ev_I ?_ ?_ ?_ <;> try trivial) | (refine ev_cmp ?_ ?_ <;> trivial) | (refine ev_neg ?_ <;> trivial) | (refine ev_chain ?_ ?_ ?_ <;> trivial)
  | (refine ev_eqI ?_ ?_ <;> trivial) | (refine ev_neI ?_ ?_ <;> trivial) | (refine ev_eqS ?_ ?_ <;> trivial) | (refine ev_neS ?_ ?_ <;> trivial) | (refine ev_eqB ?_ ?_ <;> trivial) | (refine ev_neB ?_ ?_ <;> trivial)
  | (refine et_test ?_ <;> trivial) | (refine et_B ?_ <;> trivial) | (refine et_not ?_ <;> trivial)
  | (refine ev_lenL ?_ <;> trivial) | (refine ev_lenT ?_ <;> trivial)
  | (refine ev_ixL ?_ ?_ ?_ <;> try trivial) | (refine ev_ixT ?_ ?_ ?_ <;> try trivial)
  | (refine fld_count ?_ (by assumption) <;> trivial) | (refine fld_pairs ?_ (by assumption) <;> trivial) | (refine fld_mod ?_ (by assumption) <;> trivial) | (refine fld_nums ?_ (by assumption) <;> trivial) | (refine fld_firsts ?_ (by assumption) <;> trivial) | (refine fld_ties ?_ (by assumption) <;> trivial)
  | (refine ev_lenO ?_ <;> trivial) | (refine ev_isTup ?_ <;> trivial) | (refine ev_isLst ?_ <;> trivial)
  | (refine ev_isint ?_ <;> trivial) | (refine ev_between ?_ ?_ ?_ <;> trivial)
  | (refine (en_listL ?_).ev <;> trivial) | (refine (en_listT ?_).ev <;> trivial) | (refine (en_lst ?_ ?_).ev <;> try trivial) | (refine ev_tup ?_ ?_ <;> try trivial) | (refine (en_cat ?_ ?_ ?_).ev <;> try trivial))
def heavyR (n : Nat) (d : PyData) : Prop := ∃ g : List Int, d = dZs g ∧ g.length = n ∧ ∀ x ∈ g, 1 ≤ x ∧ x ≤ 10 ^ 9
def spHeavy : Sp := spDN (α := Nat) (fun a => a ≤ 1000) (fun a => [vI (a : Int)]) heavyR
abbrev N_law_heavy : List Str := ["_law_pool_here", "_law_nodes", "_law_node"]
section
variable {P : Program} {w : World} {K : PySem.W.Frag} {mg : Str → Option Value} {base : Heap} {C : Addr} {fW_ CW_InvalidPotential CW_InvalidWeights : Addr}
theorem sc_law_heavy : FnScope N_law_heavy ["_law_pool_here", "_law_nodes"] (defScope s_law_heavy) := ⟨rfl, rfl, rfl, by decide +kernel, rfl, by decide +kernel, by decide +kernel⟩
theorem ok_law_heavy {f : Addr} {fd : FuncData} (F : Fun K "_law_heavy" "_law_heavy" s_law_heavy f fd) (B : Bn mg) (T : Txt K mg C)
    (D_law_take : Df P w K mg base 1 "_law_take" ["_law_pool_here", "_law_sides"] spTake) :
    FnOk P w K mg base CX0 2 f fd ["_law_pool_here", "_law_nodes"] spHeavy := by
  obtain ⟨g_law_take, gd_law_take, G_law_take, mg_law_take, kp_law_take, bb_law_take⟩ := D_law_take.ex
  refine F.ok sc_law_heavy (fun vs H Q E h => ?_) (fun cdv A outer s H vs Q E hr h => ?_)
  · exact spDN_len h fun _ => rfl
  · obtain ⟨n, X, p, r, rfl, hp, iv, hn, hA, q⟩ := h
    rcases hA with _ | ⟨p1, _ | _⟩
    cases p1
    replace hn : n ≤ 1000 := hn
    refine ⟨_, (pss_one (ps_ret (pe_lc (own := [("_law_node", 2)]) (g := (gName 2)) rfl sc_law_heavy.nd (pi_range1 rfl B.range (pa_cons (pv 1) pa_nil)) (blkOk_by (N := N_law_heavy) (sc := (defScope s_law_heavy)) (by decide +kernel)) (fun _ _ _ _ _ => (pg_name (i := 2) sc_law_heavy.nd rfl (Or.inl rfl))) (fun _ _ _ _ _ => pts_nil) (fun _ _ _ _ _ => (pe_op op_add pe_int (pe_call G_law_take (hr.mono (by decide)) rfl mg_law_take kp_law_take bb_law_take .nil pass0 (pa_cons (pv 0) (pa_cons (pe_ix (r := rIxL K) ix_list (pe_lst (pa_cons pe_int (pa_cons pe_int (pa_cons (pe_op op_pow pe_int pe_int) pa_nil)))) (pe_call G_law_take (hr.mono (by decide)) rfl mg_law_take kp_law_take bb_law_take .nil pass0 (pa_cons (pv 0) (pa_cons pe_int pa_nil))) (fun _ _ => rfl)) pa_nil)))))))), ?_⟩
    refine ev_drawn (X := X) (fun _ d => ∃ z : Int, d = .int z ∧ 1 ≤ z ∧ z ≤ 10 ^ 9) (es_rng1 (ev_varD rfl (.int (n : Int))) (by omega) (by omega)) (by rw [dRange_len]; omega) (fun Y i d v H1 hd s hv => tgt_name ⟨rfl, rfl, Ev.weakX (ev_I0x (R := fun _ => True) (g := fun i j => i + j) ev_int (ev_takeX (N := 10 ^ 9) (pr := fun k => k = 1 ∨ k = 5 ∨ k = 10 ^ 9) rfl (s.pool.trans hp) (ev_ixLx (p := fun r => 0 ≤ r ∧ r < 3) (ds := [.int 1, .int 5, .int (10 ^ (9 : Int).toNat)]) (EvN.ev (en_lst (ed_cons ev_int (ed_cons ev_int (ed_cons (ev_I (g := fun i j => i ^ j.toNat) ev_int ev_int ⟨by decide, by decide, by decide⟩) ed_nil))) (by show 3 ≤ 40000; decide))) (ev_take rfl (s.pool.trans hp) (k := 3) ev_int (by decide) (by decide)) fun r h => ?_) (fun k h => by rcases h with rfl | rfl | rfl <;> exact ⟨by decide, by decide, by decide⟩))) fun d ⟨r, hr, h1, h2⟩ => ⟨1 + r, hr, by omega, by omega⟩⟩) X H (.refl iv) _ fun l H2 es nl e2 hl hR hd => ?_
    · obtain ⟨h0, h3⟩ := h
      have e : r = 0 ∨ r = 1 ∨ r = 2 := by omega
      rcases e with rfl | rfl | rfl
      · exact ⟨_, rfl, 1, rfl, .inl rfl⟩
      · exact ⟨_, rfl, 5, rfl, .inr (.inl rfl)⟩
      · exact ⟨_, rfl, _, rfl, .inr (.inr (by decide))⟩
    rw [dRange_len, Int.toNat_natCast] at hl
    have hes : ∀ e ∈ es, ∃ z : Int, e = .int z ∧ 1 ≤ z ∧ z ≤ 10 ^ 9 := fun e he => by
      obtain ⟨i, hi, rfl⟩ := List.getElem_of_mem he
      exact hR i _ (List.getElem?_eq_getElem hi)
    have hz := ints_of (es := es) fun e he => let ⟨z, hz, _⟩ := hes e he; ⟨z, hz⟩
    refine q l H2 _ e2 nl ⟨es.map toI, rfl, by rw [List.length_map]; exact hl, fun x hx => ?_⟩ ?_
    · obtain ⟨e, he, rfl⟩ := List.mem_map.mp hx
      obtain ⟨z, rfl, h⟩ := hes e he
      exact h
    · unfold dZs
      rw [hz]
      exact hd
end
end Wb

namespace Wb
open PySem L2 Ee Lm LamX
local macro_rules | `(tactic| get_elem_tactic_trivial) => `(tactic| first
  | assumption | (refine Sub.upD (by assumption) ?_; get_elem_tactic_trivial) | (refine Sub.upP (by assumption) ?_; get_elem_tactic_trivial))
local macro_rules | `(tactic| trivial) => `(tactic| first
  | exact ev_int | exact ev_bl | exact ev_non | exact ev_str | exact ed_nil | exact ea_nil | exact eo_none | exact et_yes
  | exact ev_var rfl (Dx.int _) | exact ev_var rfl (Dx.bl _) | exact ev_var rfl (Dx.str _) | exact ev_var rfl Dx.non
  | (refine ev_varD rfl ?_; get_elem_tactic_trivial) | (refine ev_varW rfl ?_; get_elem_tactic_trivial)
  | (refine ed_cons ?_ ?_ <;> trivial) | (refine ea_cons ?_ ?_ <;> trivial) | (refine eo_some ?_ <;> trivial)
  | (refine ev_I0 ?_ ?_ <;> trivial) | (refine ev_I ?_ ?_ ?_ <;> try trivial) | (refine ev_cmp ?_ ?_ <;> trivial) | (refine ev_neg ?_ <;> trivial) | (refine ev_chain ?_ ?_ ?_ <;> trivial)
  | (refine ev_eqI ?_ ?_ <;> trivial) | (refine ev_neI ?_ ?_ <;> trivial) | (refine ev_eqS ?_ ?_ <;> trivial) | (refine ev_neS ?_ ?_ <;> trivial) | (refine ev_eqB ?_ ?_ <;> trivial) | (refine ev_neB ?_ ?_ <;> trivial)
  | (refine et_test ?_ <;> trivial) | (refine et_B ?_ <;> trivial) | (refine et_not ?_ <;> trivial)
  | (refine ev_lenL ?_ <;> trivial) | (refine ev_lenT ?_ <;> trivial)
  | (refine ev_ixL ?_ ?_ ?_ <;> try trivial) | (refine ev_ixT ?_ ?_ ?_ <;> try trivial)
  | (refine fld_count ?_ (by assumption) <;> trivial) | (refine fld_pairs ?_ (by assumption) <;> trivial) | (refine fld_mod ?_ (by assumption) <;> trivial) | (refine fld_nums ?_ (by assumption) <;> trivial) | (refine fld_firsts ?_ (by assumption) <;> trivial) | (refine fld_ties ?_ (by assumption) <;> trivial)
  | (refine ev_lenO ?_ <;> trivial) | (refine ev_isTup ?_ <;> trivial) | (refine ev_isLst ?_ <;> trivial)
  | (refine ev_isint ?_ <;> trivial) | (refine ev_between ?_ ?_ ?_ <;> trivial)
  | (refine (en_listL ?_).ev <;> trivial) | (refine (en_listT ?_).ev <;> trivial) | (refine (en_lst ?_ ?_).ev <;> try trivial) | (refine ev_tup ?_ ?_ <;> try trivial) | (refine (en_cat ?_ ?_ ?_).ev <;> try trivial))
abbrev N_law_error : List Str := ["_law_door", "_law_kept", "e"]
abbrev words_ (CW_InvalidPotential : Addr) (CW_InvalidWeights : Addr) : List (Str × Addr) := [("potential", CW_InvalidPotential), ("weights", CW_InvalidWeights)]
theorem sc_law_error : FnScope N_law_error ["_law_door"] (defScope s_law_error) := ⟨rfl, rfl, rfl, by decide +kernel, rfl, by decide +kernel, by decide +kernel⟩
section
open PySem.Spec PyProof.Rows LamX Lm
theorem gives_law_error {X : Cx} {K : PySem.W.Frag} {g fW_ CW_InvalidPotential CW_InvalidWeights : Addr} {cdg : Value} {q : Str} (quiet : Gd.Quiet X.A) (hu : ∀ env : Env, (X.A.deeper env).units + 70 < cLine) (B : Bn X.mg) (XE_InvalidPotential : ExW K X.mg "InvalidPotential" CW_InvalidPotential fW_) (XE_InvalidWeights : ExW K X.mg "InvalidWeights" CW_InvalidWeights fW_) (EM_ : ExmOk K [CW_InvalidPotential, CW_InvalidWeights]) (e : X.K = K := by rfl) :
    GivesTo X N_law_error "_law_error" (defScope s_law_error) g cdg (defBody s_law_error) "_law_door" q (TTerr K (words_ CW_InvalidPotential CW_InvalidWeights) true false) := by
  subst e
  intro f c' s H Q tl act hc h
  have qs : ∀ a : Addr, Gd.Quiet ((X.A.deeper (envOfC "_law_error" (defScope s_law_error) s.heap.objs.size g cdg)).mark (some (.ref a))) := fun a => quiet
  have us : ∀ a : Addr, ((X.A.deeper (envOfC "_law_error" (defScope s_law_error) s.heap.objs.size g cdg)).mark (some (.ref a))).units + 70 < cLine := fun a => hu (envOfC "_law_error" (defScope s_law_error) s.heap.objs.size g cdg)
  refine ⟨_, pss_cons (ps_set (i := 1) sc_law_error.nd rfl (Or.inl rfl) pe_non)
    (pss_cons (ps_try_all (X := (cxOf C8.CX0 X.prog X.w X.K X.mg X.base N_law_error "_law_error" (defScope s_law_error) g cdg X.A X.stack s H C8.E0).nox) (i := 2) (n := "e") (l := (words_ CW_InvalidPotential CW_InvalidWeights).map (hndL X.K))
      (tb := errTb f c' q false tl) rfl rfl sc_law_error.nd rfl rfl Lm.takes00 (fun W pn xe tk _ => ?_)
      (HdsAs.cons ⟨by rfl, by decide, .inl XE_InvalidPotential.mg⟩ (fun a oe cls d pn hz hf => pss_one (ps_set (i := 1) sc_law_error.nd rfl (Or.inl rfl) (pe_lst (pa_cons pe_str (pa_cons (pe_callB (id := "repr") (call_reprA (K := X.K) (qs a) (us a)) (by rfl) B.repr (by decide +kernel) (pa_cons (pe_xf XE_InvalidPotential.xf XE_InvalidPotential.no hz hf (pe_held (n := 3) (pv 2) rfl)) pa_nil)) pa_nil))))) (HdsAs.cons ⟨by rfl, by decide, .inl XE_InvalidWeights.mg⟩ (fun a oe cls d pn hz hf => pss_one (ps_set (i := 1) sc_law_error.nd rfl (Or.inl rfl) (pe_lst (pa_cons pe_str (pa_cons (pe_callB (id := "repr") (call_reprA (K := X.K) (qs a) (us a)) (by rfl) B.repr (by decide +kernel) (pa_cons (pe_xf XE_InvalidWeights.xf XE_InvalidWeights.no hz hf (pe_held (n := 3) (pv 2) rfl)) pa_nil)) pa_nil))))) HdsAs.nil)))
    (pss_one (ps_ret (pe_kept (n := 3) (pv 1) rfl)))), err_read (two := true) (fm := false) (ws := words_ CW_InvalidPotential CW_InvalidWeights) EM_ hc h⟩
  refine ⟨fun pins s' σ H' D I h' => ?_⟩
  obtain ⟨Ech, hW, h1, h2, Qn, up, h3⟩ := h'
  exact (pss_one (ps_expr (pe_weak (act W pn xe Ech _ _ tk hW)))).run pins s' σ H' D I ⟨Qn, up, h1, h2, h3⟩
end
end Wb

namespace Wb
open PySem L2 Ee Lm LamX
local macro_rules | `(tactic| get_elem_tactic_trivial) => `(tactic| first
  | assumption | (refine Sub.upD (by assumption) ?_; get_elem_tactic_trivial) | (refine Sub.upP (by assumption) ?_; get_elem_tactic_trivial))
local macro_rules | `(tactic| trivial) => `(tactic| first
  | exact ev_int | exact ev_bl | exact ev_non | exact ev_str | exact ed_nil | exact ea_nil | exact eo_none | exact et_yes
  | exact ev_var rfl (Dx.int _) | exact ev_var rfl (Dx.bl _) | exact ev_var rfl (Dx.str _) | exact ev_var rfl Dx.non
  | (refine ev_varD rfl ?_; get_elem_tactic_trivial) | (refine ev_varW rfl ?_; get_elem_tactic_trivial)
  | (refine ed_cons ?_ ?_ <;> trivial) | (refine ea_cons ?_ ?_ <;> trivial) | (refine eo_some ?_ <;> trivial)
  | (refine ev_I0 ?_ ?_ <;> trivial) | (refine ev_I ?_ ?_ ?_ <;> try trivial) | (refine ev_cmp ?_ ?_ <;> trivial) | (refine ev_neg ?_ <;> trivial) | (refine ev_chain ?_ ?_ ?_ <;> trivial)
  | (refine ev_eqI ?_ ?_ <;> trivial) | (refine ev_neI ?_ ?_ <;> trivial) | (refine ev_eqS ?_ ?_ <;> trivial) | (refine ev_neS ?_ ?_ <;> trivial) | (refine ev_eqB ?_ ?_ <;> trivial) | (refine ev_neB ?_ ?_ <;> trivial)
  | (refine et_test ?_ <;> trivial) | (refine et_B ?_ <;> trivial) | (refine et_not ?_ <;> trivial)
  | (refine ev_lenL ?_ <;> trivial) | (refine ev_lenT ?_ <;> trivial)
  | (refine ev_ixL ?_ ?_ ?_ <;> try trivial) | (refine ev_ixT ?_ ?_ ?_ <;> try trivial)
  | (refine fld_count ?_ (by assumption) <;> trivial) | (refine fld_pairs ?_ (by assumption) <;> trivial) | (refine fld_mod ?_ (by assumption) <;> trivial) | (refine fld_nums ?_ (by assumption) <;> trivial) | (refine fld_firsts ?_ (by assumption) <;> trivial) | (refine fld_ties ?_ (by assumption) <;> trivial)
  | (refine ev_lenO ?_ <;> trivial) | (refine ev_isTup ?_ <;> trivial) | (refine ev_isLst ?_ <;> trivial)
  | (refine ev_isint ?_ <;> trivial) | (refine ev_between ?_ ?_ ?_ <;> trivial)
  | (refine (en_listL ?_).ev <;> trivial) | (refine (en_listT ?_).ev <;> trivial) | (refine (en_lst ?_ ?_).ev <;> try trivial) | (refine ev_tup ?_ ?_ <;> try trivial) | (refine (en_cat ?_ ?_ ?_).ev <;> try trivial))
section
variable {X Y : Vol} {σ : L2.St} {H H' : Hp} {ta tb tc te tl ti tel : TE} {tr : TA} {E : XK} {K : Fr} {C : Addr} {w : WD} {g pt : List Int} {sw p : List Stp} {s : Stp} {D : Ends} {tz : TS} {R : PyData → Prop}
theorem sqL_same {a : Addr} {xs : List V} (s : Same H H') (h : SqL K H a xs) : SqL K H' a xs :=
  h.elim (fun h => .inl (h.elim (fun h => .inl (s _ _ h)) fun ⟨o, h⟩ => .inr ⟨o, s _ _ h⟩)) fun h => .inr h
theorem ev_lenSq {S : Addr → Prop} {a : Addr} {xs : List V} {n : Nat} (hs : σ[n]? = some (some (.ref a))) (h : SqL K H a xs) : Ev (pure0 S) (tCB (fun xs H Q => ∃ p ys, xs = [V.ref p] ∧ (SqL K H p ys ∨ SqT K H p ys) ∧ Q (.int ys.length) H) (tCons (tVar n) tNil)) σ H (vI xs.length) := fun Y H1 e Q q =>
  ⟨_, hs, a, xs, rfl, .inl (sqL_same (pure0.same e) h), q _ H1 (.refl e.inv) (.int _)⟩
theorem ev_web (h1 : Ev X ta σ H (vI (w.n : Int))) (h2 : Ev X tb σ H (vD (dEdges w.ps))) (h3 : Ev X tc σ H (vI w.m)) (ok : w.Ok) : Ev X (tMakeK C 2 1 (spInit C) (fun vs zs => vs ++ zs) E (tCons ta (tCons tb tNil)) (tCons tc tNil)) σ H (vW C w) := fun Y H1 e Q q =>
  h1 Y H1 e _ fun x1 H2 e2 p1 => h2 Y H2 (e.trans e2) _ fun x2 H3 e3 p2 => h3 Y H3 (e.trans (e2.trans e3)) _ fun x3 H4 e4 p3 => by
    cases p1; cases p3
    have e5 := (e2.trans e3).trans e4
    exact ⟨rfl, rfl, fun x dx hx hdx hne => ⟨H4, x, dx, Y.S, w, x2, rfl, hx, hdx, hne, rfl, e4.inv.live, ok, e4.upD p2, fun H' sm pw => ⟨rfl, q _ H' (e5.trans (.same sm e4.inv)) pw⟩⟩⟩
theorem s_forLX {g : TG} {tb : TS} (h : Ev X tl σ H (vX R)) (hR : ∀ d, R d → ∃ ds, d = .list ds) (i : X.I H) (k : ∀ H1 ds, Ext X H H1 → R (.list ds) → ∃ (Inv : Nat → L2.St → Hp → Prop), Inv 0 σ H1 ∧ (∀ i σ' H', Inv i σ' H' → Wk X H1 X H') ∧
      (∀ i d x σ' H' H'', Inv i σ' H' → Wk X H1 X H' → Ext X H' H'' → ds[i]? = some d → Dx (X.wo H'') x d → g x σ' H'' fun σ2 H3 => tb { D with nx := Inv (i + 1), ct := Inv (i + 1), bk := D.nx } σ2 H3) ∧ ∀ σ' H', Inv ds.length σ' H' → Wk X H1 X H' → D.nx σ' H') : tFor (iList K tl) g tb D σ H := h.go i fun v H1 e hv => by
  obtain ⟨d, hd, p⟩ := hv
  obtain ⟨ds, rfl⟩ := hR d hd
  cases p with
  | lst ea al =>
    rename_i a xs
    refine ⟨a, rfl, ⟨xs, SqL.of (wo_le _ _ ea)⟩, ?_⟩
    exact s_for (X := X) (D := D) (wi := fun _ H R => R (Itl K a) H) (ds := ds) (es_at (.lst ea al)) e.inv fun H2 e2 => k H2 ds (e.trans e2) hd
end
/-! ### what potentials cost -/
theorem few21 {l : List PyData} (h : l.length ≤ 5000) : fewL (.list l) := fun ds e => by
  cases e
  exact h
theorem red_rng {m z : Int} (h0 : 0 ≤ m) (h : m ≠ 0) : 0 ≤ red m z ∧ red m z < m := by
  unfold red
  rw [if_neg h]
  exact ⟨Int.emod_nonneg _ h, Int.emod_lt_of_pos _ (by omega)⟩
theorem szW_nn {m z : Int} (h0 : 0 ≤ m) : 0 ≤ szW m z := by
  unfold szW
  by_cases h : m = 0
  · rw [if_pos h]; omega
  · rw [if_neg h]
    have := red_rng (z := z) h0 h
    omega
theorem szW_le {m z : Int} (h0 : 0 ≤ m) (h1 : m ≤ 60) (a : -(10 ^ 18) ≤ z) (b : z ≤ 10 ^ 18) : szW m z ≤ 10 ^ 18 := by
  unfold szW
  by_cases h : m = 0
  · rw [if_pos h]
    have e : red m z = z := if_pos h
    rw [e]
    omega
  · rw [if_neg h]
    have := red_rng (z := z) h0 h
    omega
theorem szW_zero {m z : Int} (h0 : 0 ≤ m) (hz : red m z = z) : szW m z = 0 ↔ z = 0 := by
  unfold szW
  by_cases h : m = 0
  · rw [if_pos h, hz]; omega
  · rw [if_neg h, hz]
    have := red_rng (z := z) h0 h
    rw [hz] at this
    omega
theorem szW_neg {m z : Int} (h0 : 0 ≤ m) (hz : red m z = z) : szW m (red m (-z)) = szW m z := by
  by_cases h : m = 0
  · have e : ∀ x, red m x = x := fun x => if_pos h
    unfold szW
    rw [if_pos h, if_pos h, e, e, e]
    omega
  · have hr := red_rng (z := z) h0 h
    rw [hz] at hr
    have e : ∀ x, red m x = x % m := fun x => if_neg h
    have e2 : red m (red m (-z)) = red m (-z) := by rw [e, e, Int.emod_emod_of_dvd _ (Int.dvd_refl m)]
    unfold szW
    rw [if_neg h, if_neg h, e2, hz]
    by_cases z0 : z = 0
    · subst z0
      rw [show red m (-0) = 0 by rw [e]; simp]
    · have : red m (-z) = m - z := by
        rw [e, ← Int.emod_eq_of_lt (a := m - z) (b := m) (by omega) (by omega)]
        exact Int.emod_eq_emod_iff_emod_sub_eq_zero.mpr (by rw [show -z - (m - z) = m * (-1) by omega]; exact Int.mul_emod_right ..)
      rw [this]
      omega
theorem price_cons {m r z : Int} {rs p : List Int} : priceW m (r :: rs) (z :: p) = r * szW m z + priceW m rs p := by
  unfold priceW
  rw [List.zip_cons_cons, List.map_cons, List.sum_cons]
theorem price_bd {m : Int} (h0 : 0 ≤ m) (h1 : m ≤ 60) : ∀ {rs p : List Int}, (∀ r ∈ rs, 1 ≤ r ∧ r ≤ 10 ^ 9) → (∀ z ∈ p, -(10 ^ 18) ≤ z ∧ z ≤ 10 ^ 18) → 0 ≤ priceW m rs p ∧ priceW m rs p ≤ (p.length : Int) * 10 ^ 27
  | [], p, _, _ => ⟨by simp [priceW], by simp [priceW]; omega⟩
  | r :: rs, [], _, _ => ⟨by simp [priceW], by simp [priceW]⟩
  | r :: rs, z :: p, hr, hp => by
    obtain ⟨a1, a2⟩ := price_bd (rs := rs) (p := p) h0 h1 (fun x hx => hr x (List.mem_cons_of_mem _ hx)) (fun x hx => hp x (List.mem_cons_of_mem _ hx))
    obtain ⟨r1, r2⟩ := hr r List.mem_cons_self
    obtain ⟨z1, z2⟩ := hp z List.mem_cons_self
    have s0 := szW_nn (z := z) h0
    have s1 := szW_le h0 h1 z1 z2
    have b0 : 0 ≤ r * szW m z := Int.mul_nonneg (by omega) s0
    have b1 : r * szW m z ≤ 10 ^ 9 * 10 ^ 18 := Int.mul_le_mul r2 s1 s0 (by decide)
    rw [price_cons, List.length_cons]
    have c : (10 : Int) ^ 9 * 10 ^ 18 = 10 ^ 27 := by decide
    rw [c] at b1
    omega
theorem price_zero {m : Int} (h0 : 0 ≤ m) : ∀ {rs p : List Int}, (∀ r ∈ rs, 1 ≤ r) → (∀ z ∈ p, red m z = z) → rs.length = p.length → 0 ≤ priceW m rs p ∧ (priceW m rs p = 0 ↔ p = List.replicate p.length 0)
  | [], [], _, _, _ => ⟨by simp [priceW], by simp [priceW]⟩
  | [], z :: p, _, _, h => by cases h
  | r :: rs, [], _, _, h => by cases h
  | r :: rs, z :: p, hr, hp, h => by
    obtain ⟨a1, a2⟩ := price_zero (rs := rs) (p := p) h0 (fun x hx => hr x (List.mem_cons_of_mem _ hx)) (fun x hx => hp x (List.mem_cons_of_mem _ hx)) (by simpa using h)
    have r1 := hr r List.mem_cons_self
    have hz := szW_zero h0 (hp z List.mem_cons_self)
    have s0 := szW_nn (z := z) h0
    have b0 : 1 * szW m z ≤ r * szW m z := Int.mul_le_mul_of_nonneg_right r1 s0
    rw [Int.one_mul] at b0
    rw [price_cons, List.length_cons, List.replicate_succ, List.cons.injEq]
    refine ⟨by omega, ?_⟩
    constructor
    · intro e
      exact ⟨hz.mp (by omega), a2.mp (by omega)⟩
    · rintro ⟨e1, e2⟩
      rw [hz.mpr e1, a2.mpr e2]
      simp
theorem price_neg {w : WD} (h0 : 0 ≤ w.m) : ∀ {rs p : List Int}, (∀ z ∈ p, red w.m z = z) → priceW w.m rs (w.negP p) = priceW w.m rs p
  | [], p, _ => by simp [priceW]
  | r :: rs, [], _ => rfl
  | r :: rs, z :: p, hp => by
    show priceW w.m (r :: rs) (red w.m (-z) :: w.negP p) = _
    rw [price_cons, price_cons, szW_neg h0 (hp z List.mem_cons_self), price_neg h0 fun x hx => hp x (List.mem_cons_of_mem _ hx)]
theorem neg_pot {w : WD} (h0 : 0 ≤ w.m) {p : List Int} (h : potB w (dZs p) = true) : potB w (dZs (w.negP p)) = true := by
  obtain ⟨a, b⟩ := potB_iff.mp h
  refine potB_iff.mpr ⟨by unfold WD.negP; rw [List.length_map]; exact a, fun x hx => ?_⟩
  obtain ⟨z, _, rfl⟩ := List.mem_map.mp hx
  by_cases h : w.m = 0
  · have e : ∀ x, red w.m x = x := fun x => if_pos h
    rw [e]
  · have e : ∀ x, red w.m x = x % w.m := fun x => if_neg h
    rw [e, e, Int.emod_emod_of_dvd _ (Int.dvd_refl w.m)]
theorem itsD_l (l : List PyData) : itsD (.list l) = l := rfl
theorem one_all {hv : List Int} (h : ∀ x ∈ hv, 1 ≤ x ∧ x ≤ 10 ^ 9) : (hv.map PyData.int).all oneB = true := by
  rw [List.all_map, List.all_eq_true]
  exact fun x hx => decide_eq_true (h x hx).1
theorem wt_list {n : Nat} {hv : List Int} (l : hv.length = n) (h : ∀ x ∈ hv, 1 ≤ x ∧ x ≤ 10 ^ 9) : wtB n (.list (hv.map PyData.int)) = true ∧ wtB n (.tuple (hv.map PyData.int)) = true := by
  have e : (decide ((hv.map PyData.int).length = n) && (hv.map PyData.int).all oneB) = true := by rw [one_all h, decide_eq_true (by rw [List.length_map]; exact l)]; rfl
  exact ⟨e, e⟩
theorem rates_list {n : Nat} {hv : List Int} : ratesD n (.list (hv.map PyData.int)) = hv.map PyData.int ∧ ratesD n (.tuple (hv.map PyData.int)) = hv.map PyData.int := ⟨rfl, rfl⟩
theorem rates_none {n : Nat} : ratesD n .none = (List.replicate n (1 : Int)).map PyData.int := by
  show List.replicate n (PyData.int 1) = _
  rw [List.map_replicate]
theorem rep_one {n : Nat} {z : Int} : PyData.list (List.replicate n [PyData.int z]).flatten = dZs (List.replicate n z) := by
  unfold dZs
  rw [List.map_replicate]
  simp
def badP21 (g : List Int) : List PyData := [.none, .list (g.map PyData.int ++ [.int 0]), .tuple (g.map PyData.int), .dict []]
theorem badP21_all {w : WD} {g : List Int} (n30 : w.n ≤ 30) (hg : potB w (dZs g) = true) (hb : ∀ z ∈ g, -(10 ^ 40) ≤ z ∧ z ≤ 10 ^ 40) : ∀ d ∈ badP21 g, fewL d ∧ potB w d = false ∧ TxS d := fun d hd => by
  have hl := (potB_iff.mp hg).1
  unfold badP21 at hd
  simp only [List.mem_cons, List.not_mem_nil, or_false] at hd
  rcases hd with rfl | rfl | rfl | rfl
  · exact ⟨fun _ e => (nomatch e), rfl, .non⟩
  · refine ⟨few21 (by rw [List.length_append, List.length_map]; show g.length + 1 ≤ 5000; omega), ?_, ?_⟩
    · show (decide ((g.map PyData.int ++ [PyData.int 0]).length = w.n) && _) = false
      rw [decide_eq_false (by rw [List.length_append, List.length_map]; show ¬ g.length + 1 = w.n; omega), Bool.false_and]
    · have e : g.map PyData.int ++ [PyData.int 0] = (g ++ [0]).map PyData.int := by rw [List.map_append]; rfl
      rw [e]
      exact .ints (fun z hz => by
        rcases List.mem_append.mp hz with h | h
        · exact hb z h
        · rw [List.mem_singleton.mp h]; exact ⟨by decide, by decide⟩) (by rw [List.length_append]; show g.length + 1 ≤ 100000; omega)
  · exact ⟨fun _ e => (nomatch e), rfl, .intsT hb (by omega)⟩
  · exact ⟨fun _ e => (nomatch e), rfl, .dic⟩
def badW21 (n : Nat) (hv : List Int) : List PyData := [.int 0, .list [], .list (hv.map PyData.int ++ [.int 1]), .list ([.int 0] ++ cutD (hv.map PyData.int) (some 1) none), .list ([.bool true] ++ cutD (hv.map PyData.int) (some 1) none), .list ([.none] ++ cutD (hv.map PyData.int) (some 1) none), .dict [], .str (Txt.mul "1" (n : Int))]
theorem mul21 : ∀ k : Fin 13, MulOk "1" ((k : Nat) : Int) := by
  intro k
  unfold MulOk
  revert k
  decide +kernel
theorem str21 : ∀ k : Fin 13, ((Txt.mul "1" ((k : Nat) : Int)).cps.toList.all fun c => decide (c < 16 ^ 8)) = true ∧ (Txt.mul "1" ((k : Nat) : Int)).cps.size ≤ 20 ∧ PyData.strOk (PyData.str (Txt.mul "1" ((k : Nat) : Int))).shown = true := by decide +kernel
theorem badW21_all {n : Nat} {hv : List Int} (n1 : 1 ≤ n) (n12 : n ≤ 12) (hl : hv.length = n) (hb : ∀ x ∈ hv, 1 ≤ x ∧ x ≤ 10 ^ 9) : ∀ d ∈ badW21 n hv, fewQ d ∧ wtB n d = false ∧ TxS d := fun d hd => by
  have hb2 : ∀ x ∈ hv, -(10 ^ 40) ≤ x ∧ x ≤ 10 ^ 40 := fun x hx => by have := hb x hx; omega
  have e : cutD (hv.map PyData.int) (some 1) none = (hv.drop 1).map PyData.int := by
    have e : cutD (hv.map PyData.int) (some 1) none = (hv.map PyData.int).drop 1 := cut_from (n := 1)
    rw [e, ← List.map_drop]
  have hd1 : ∀ x ∈ hv.drop 1, -(10 ^ 40) ≤ x ∧ x ≤ 10 ^ 40 := fun x hx => hb2 x (List.mem_of_mem_drop hx)
  have ld : (hv.drop 1).length ≤ 12 := by rw [List.length_drop]; omega
  have mix : ∀ x : PyData, oneB x = false → Tx 0 0 x → PyData.strOk x.shown = true → fewQ (.list ([x] ++ cutD (hv.map PyData.int) (some 1) none)) ∧ wtB n (.list ([x] ++ cutD (hv.map PyData.int) (some 1) none)) = false ∧ TxS (.list ([x] ++ cutD (hv.map PyData.int) (some 1) none)) := fun x ho tx sx => by
    rw [e]
    refine ⟨?_, ?_, ?_⟩
    · show ([x] ++ (hv.drop 1).map PyData.int).length ≤ 5000
      rw [List.length_append, List.length_map, List.length_singleton]
      omega
    · show (decide _ && (oneB x && _)) = false
      rw [ho, Bool.false_and, Bool.and_false]
    · refine TxS.list (B := 20) (k := 0) (TxL.mono (TxL.cons tx (txl_ints hd1)) (by omega) (by omega)) fun d hd => ?_
      rcases List.mem_cons.mp hd with rfl | hd
      · exact sx
      · exact sok_ints d hd
  unfold badW21 at hd
  simp only [List.mem_cons, List.not_mem_nil, or_false] at hd
  rcases hd with rfl | rfl | rfl | rfl | rfl | rfl | rfl | rfl
  · exact ⟨Nat.zero_le _, rfl, .int⟩
  · refine ⟨Nat.zero_le _, ?_, .ints (l := []) (fun _ h => nomatch h) (Nat.zero_le _)⟩
    show (decide (0 = n) && _) = false
    rw [decide_eq_false (by omega), Bool.false_and]
  · refine ⟨?_, ?_, ?_⟩
    · show (hv.map PyData.int ++ [PyData.int 1]).length ≤ 5000
      rw [List.length_append, List.length_map, List.length_singleton]
      omega
    · show (decide ((hv.map PyData.int ++ [PyData.int 1]).length = n) && _) = false
      rw [decide_eq_false (by rw [List.length_append, List.length_map, List.length_singleton]; omega), Bool.false_and]
    · have e : hv.map PyData.int ++ [PyData.int 1] = (hv ++ [1]).map PyData.int := by rw [List.map_append]; rfl
      rw [e]
      exact .ints (fun z hz => by
        rcases List.mem_append.mp hz with h | h
        · exact hb2 z h
        · rw [List.mem_singleton.mp h]; exact ⟨by decide, by decide⟩) (by rw [List.length_append, List.length_singleton]; omega)
  · exact mix _ rfl (.num (by omega) (by omega)) (sok_int _)
  · exact mix _ rfl (.bl _) (by decide +kernel)
  · exact mix _ rfl .non (by decide +kernel)
  · exact ⟨Nat.zero_le _, rfl, .dic⟩
  · obtain ⟨h1, h2, h3⟩ := str21 ⟨n, by omega⟩
    exact ⟨Nat.zero_le _, rfl, .of (.str (B := 20) h1 h2) h3⟩
section
variable {X : Vol} {σ : L2.St} {H : Hp} {ta tb tc : TE} {E : XK} {C : Addr} {R : PyData → Prop}
/-- Web(n, links drawn on the spot, modulus = m) -/
def vWX (C : Addr) (S : WD → Prop) : VP := ⟨fun H v => ∃ w, S w ∧ (vW C w).at_ H v, fun s ⟨w, h, p⟩ => ⟨w, h, (vW C w).mono s p⟩⟩
theorem ev_webX {n : Nat} {m : Int} (h1 : Ev X ta σ H (vI (n : Int))) (h2 : Ev X tb σ H (vX R)) (hR : ∀ d, R d → ∃ ps, d = dEdges ps ∧ WD.Ok ⟨n, ps, m⟩) (h3 : Ev X tc σ H (vI m)) : Ev X (tMakeK C 2 1 (spInit C) (fun vs zs => vs ++ zs) E (tCons ta (tCons tb tNil)) (tCons tc tNil)) σ H (vWX C fun w => R (dEdges w.ps) ∧ w.n = n ∧ w.m = m) := fun Y H1 e Q q =>
  h1 Y H1 e _ fun x1 H2 e2 p1 => h2 Y H2 (e.trans e2) _ fun x2 H3 e3 p2 => h3 Y H3 (e.trans (e2.trans e3)) _ fun x3 H4 e4 p3 => by
    cases p1; cases p3
    obtain ⟨d, hd, p2⟩ := p2
    obtain ⟨ps, rfl, ok⟩ := hR d hd
    have e5 := (e2.trans e3).trans e4
    exact ⟨rfl, rfl, fun x dx hx hdx hne => ⟨H4, x, dx, Y.S, ⟨n, ps, m⟩, x2, rfl, hx, hdx, hne, rfl, e4.inv.live, ok, e4.upD p2, fun H' sm pw => ⟨rfl, q _ H' (e5.trans (.same sm e4.inv)) ⟨_, ⟨hd, rfl, rfl⟩, pw⟩⟩⟩⟩
end
theorem cut_len21 (ds : List PyData) (lo hi : Option Int) : (cutD ds lo hi).length ≤ ds.length := by
  unfold cutD
  rw [List.length_take, List.length_drop]
  omega
end Wb

namespace Wb
open PySem L2 Ee Lm LamX
local macro_rules | `(tactic| get_elem_tactic_trivial) => `(tactic| first
  | assumption | (refine Sub.upD (by assumption) ?_; get_elem_tactic_trivial) | (refine Sub.upP (by assumption) ?_; get_elem_tactic_trivial))
local macro_rules | `(tactic| trivial) => `(tactic| first
  | exact ev_int | exact ev_bl | exact ev_non | exact ev_str | exact ed_nil | exact ea_nil | exact eo_none | exact et_yes
  | exact ev_var rfl (Dx.int _) | exact ev_var rfl (Dx.bl _) | exact ev_var rfl (Dx.str _) | exact ev_var rfl Dx.non
  | (refine ev_varD rfl ?_; get_elem_tactic_trivial) | (refine ev_varW rfl ?_; get_elem_tactic_trivial)
  | (refine ed_cons ?_ ?_ <;> trivial) | (refine ea_cons ?_ ?_ <;> trivial) | (refine eo_some ?_ <;> trivial)
  | (refine ev_I0 ?_ ?_ <;> trivial) | (refine ev_I ?_ ?_ ?_ <;> try trivial) | (refine ev_cmp ?_ ?_ <;> trivial) | (refine ev_neg ?_ <;> trivial) | (refine ev_chain ?_ ?_ ?_ <;> trivial)
  | (refine ev_eqI ?_ ?_ <;> trivial) | (refine ev_neI ?_ ?_ <;> trivial) | (refine ev_eqS ?_ ?_ <;> trivial) | (refine ev_neS ?_ ?_ <;> trivial) | (refine ev_eqB ?_ ?_ <;> trivial) | (refine ev_neB ?_ ?_ <;> trivial)
  | (refine et_test ?_ <;> trivial) | (refine et_B ?_ <;> trivial) | (refine et_not ?_ <;> trivial)
  | (refine ev_lenL ?_ <;> trivial) | (refine ev_lenT ?_ <;> trivial)
  | (refine ev_ixL ?_ ?_ ?_ <;> try trivial) | (refine ev_ixT ?_ ?_ ?_ <;> try trivial)
  | (refine fld_count ?_ (by assumption) <;> trivial) | (refine fld_pairs ?_ (by assumption) <;> trivial) | (refine fld_mod ?_ (by assumption) <;> trivial) | (refine fld_nums ?_ (by assumption) <;> trivial) | (refine fld_firsts ?_ (by assumption) <;> trivial) | (refine fld_ties ?_ (by assumption) <;> trivial)
  | (refine ev_lenO ?_ <;> trivial) | (refine ev_isTup ?_ <;> trivial) | (refine ev_isLst ?_ <;> trivial)
  | (refine ev_isint ?_ <;> trivial) | (refine ev_between ?_ ?_ ?_ <;> trivial)
  | (refine (en_listL ?_).ev <;> trivial) | (refine (en_listT ?_).ev <;> trivial) | (refine (en_lst ?_ ?_).ev <;> try trivial) | (refine ev_tup ?_ ?_ <;> try trivial) | (refine (en_cat ?_ ?_ ?_).ev <;> try trivial))
abbrev N_law : List Str := ["_law_script", "_law_k", "_law_pool_here", "_law_nodes", "_law_dial", "_law_web", "_law_heavy_here", "_law_turn", "_law_levels", "_law_due", "_law_plain", "_law_bad"]
section
variable {P : Program} {w : World} {K : PySem.W.Frag} {mg : Str → Option Value} {base : Heap} {C : Addr} {fW_ CW_InvalidPotential CW_InvalidWeights : Addr}
theorem sc_law : FnScope N_law ["_law_script"] (defScope s_law) := ⟨rfl, rfl, rfl, by decide +kernel, rfl, by decide +kernel, by decide +kernel⟩
theorem ok_law {f : Addr} {fd : FuncData} {c_ : Addr} (F : FunC K "law" "law" s_law f fd c_) (B : Bn mg) (T : Txt K mg C)
    (D_law_pool : Df P w K mg base 1 "_law_pool" ["_law_script", "_law_k"] (spPool K))
    (D_law_take : Df P w K mg base 1 "_law_take" ["_law_pool_here", "_law_sides"] spTake)
    (D_law_modulus : Df P w K mg base 2 "_law_modulus" ["_law_pool_here"] spModulus)
    (D_law_links : Df P w K mg base 2 "_law_links" ["_law_pool_here", "_law_nodes", "_law_most"] spLinks)
    (D_law_heavy : Df P w K mg base 2 "_law_heavy" ["_law_pool_here", "_law_nodes"] spHeavy)
    (D_law_numbers : Df P w K mg base 3 "_law_numbers" ["_law_pool_here", "_law_dial", "_law_count"] spNumbers)
    (D_law_price : Df P w K mg base 3 "_law_price" ["_law_levels", "_law_dial", "_law_heavy_here"] spPrice)
    (D_cost : DfN CX0 P w K mg base 7 "cost" "weights" ["web", "potential", "weights"] (spCostF C))
    (D_negated : Df P w K mg base 7 "negated" ["web", "potential"] (spNegated C))
    (D_costX : DfN (L2.CX P w) P w K mg base 7 "cost" "weights" ["web", "potential", "weights"] (spCostX C CW_InvalidPotential CW_InvalidWeights))
    {fI_ : Addr} {fdI_ : FuncData} (Mk_ : Mk K C fI_) (GI_ : FnOk P w K mg base CX0 5 fI_ fdI_ ["self", "size", "edges", "modulus"] (spInit C)) (hb_ : KBn K fdI_ ["self", "size", "edges", "modulus"] 3 ["modulus"] (fun us ws => us ++ ws) (fun vs zs => vs ++ zs))
    (XE_InvalidPotential : ExW K mg "InvalidPotential" CW_InvalidPotential fW_)
    (XE_InvalidWeights : ExW K mg "InvalidWeights" CW_InvalidWeights fW_)
    (E_law_error : DfE K mg "_law_error" s_law_error "_law_door")
    (EM_ : ExmOk K [CW_InvalidPotential, CW_InvalidWeights]) {Pt_ : Addr} (TB_ : LamX.TabB base mg c_ Pt_) :
    Gd.GOk P w K mg base CX0 10 f fd ["_law_script"] (spLawT K [(Pt_, lamQ "law")]) := by
  obtain ⟨g_law_pool, gd_law_pool, G_law_pool, mg_law_pool, kp_law_pool, bb_law_pool⟩ := D_law_pool.ex
  obtain ⟨g_law_take, gd_law_take, G_law_take, mg_law_take, kp_law_take, bb_law_take⟩ := D_law_take.ex
  obtain ⟨g_law_modulus, gd_law_modulus, G_law_modulus, mg_law_modulus, kp_law_modulus, bb_law_modulus⟩ := D_law_modulus.ex
  obtain ⟨g_law_links, gd_law_links, G_law_links, mg_law_links, kp_law_links, bb_law_links⟩ := D_law_links.ex
  obtain ⟨g_law_heavy, gd_law_heavy, G_law_heavy, mg_law_heavy, kp_law_heavy, bb_law_heavy⟩ := D_law_heavy.ex
  obtain ⟨g_law_numbers, gd_law_numbers, G_law_numbers, mg_law_numbers, kp_law_numbers, bb_law_numbers⟩ := D_law_numbers.ex
  obtain ⟨g_law_price, gd_law_price, G_law_price, mg_law_price, kp_law_price, bb_law_price⟩ := D_law_price.ex
  obtain ⟨g_cost, gd_cost, ds_cost, G_cost, mg_cost, kp_cost, bb_cost, vv_cost, kn_cost⟩ := D_cost.ex
  obtain ⟨g_negated, gd_negated, G_negated, mg_negated, kp_negated, bb_negated⟩ := D_negated.ex
  obtain ⟨g_costX, gd_costX, ds_costX, G_costX, mg_costX, kp_costX, bb_costX, vv_costX, kn_costX⟩ := D_costX.ex
  obtain ⟨g_law_error, oc_law_error, od_law_error, kV_law_error, dc_law_error, pm_law_error, an_law_error, cdv_law_error, ct_law_error, osl_law_error, mg_law_error, kp_law_error, at_law_error, cd_law_error, bb_law_error⟩ := E_law_error.ex
  refine F.go sc_law (fun vs H Q E h => ?_) (fun A hq outer s H vs Q E hr h => ?_)
  · obtain ⟨a, ns, rfl, _⟩ := h
    rfl
  · obtain ⟨a, ns, rfl, ha, hl, hT0, q⟩ := h
    refine ⟨_, (PSs.nox (pss_cons (ps_for PassesOwn.never rfl (pi_range1 rfl B.range (pa_cons (pe_callB (call_max2 rfl) (by rfl) B.max (by decide +kernel) (pa_cons pe_int (pa_cons (pe_callB (call_min2 rfl) (by rfl) B.min (by decide +kernel) (pa_cons (pe_callB call_len_seq (by rfl) B.len PySem.boot_len (pa_cons (pv 0) pa_nil)) (pa_cons pe_int pa_nil))) pa_nil))) pa_nil)) (pg_name (i := 1) sc_law.nd rfl (Or.inl rfl))
      (pss_cons (ps_set (i := 2) sc_law.nd rfl (Or.inl rfl) (pe_call G_law_pool (hr.mono (by decide)) rfl mg_law_pool kp_law_pool bb_law_pool .nil pass0 (pa_cons (pv 0) (pa_cons (pv 1) pa_nil))))
      (pss_cons (ps_par (i := 3) (j := 4) (by rfl) sc_law.nd rfl rfl (by decide) rfl rfl (pa_cons (pe_op op_add pe_int (pe_call G_law_take (hr.mono (by decide)) rfl mg_law_take kp_law_take bb_law_take .nil pass0 (pa_cons (pv 2) (pa_cons pe_int pa_nil)))) (pa_cons (pe_call G_law_modulus (hr.mono (by decide)) rfl mg_law_modulus kp_law_modulus bb_law_modulus .nil pass0 (pa_cons (pv 2) pa_nil)) pa_nil)) (by rfl))
      (pss_cons (ps_set (i := 5) sc_law.nd rfl (Or.inr rfl) (pe_makeK (n := 2) Mk_ GI_ (hr.mono (by decide)) rfl T.mgC hb_ pass0 (pa_cons (pv 3) (pa_cons (pe_call G_law_links (hr.mono (by decide)) rfl mg_law_links kp_law_links bb_law_links .nil pass0 (pa_cons (pv 2) (pa_cons (pv 3) (pa_cons pe_int pa_nil)))) pa_nil)) (pk_cons (pv 4) pk_nil)))
      (pss_cons (ps_set (i := 6) sc_law.nd rfl (Or.inl rfl) (pe_call G_law_heavy (hr.mono (by decide)) rfl mg_law_heavy kp_law_heavy bb_law_heavy .nil pass0 (pa_cons (pv 2) (pa_cons (pv 3) pa_nil))))
      (pss_cons (ps_for PassesOwn.never rfl (pi_range1 rfl B.range (pa_cons pe_int pa_nil)) (pg_name (i := 7) sc_law.nd rfl (Or.inl rfl))
      (pss_cons (ps_set (i := 8) sc_law.nd rfl (Or.inr rfl) (pe_call G_law_numbers (hr.mono (by decide)) rfl mg_law_numbers kp_law_numbers bb_law_numbers .nil pass0 (pa_cons (pv 2) (pa_cons (pv 4) (pa_cons (pv 3) pa_nil)))))
      (pss_cons (ps_set (i := 9) sc_law.nd rfl (Or.inl rfl) (pe_call G_law_price (hr.mono (by decide)) rfl mg_law_price kp_law_price bb_law_price .nil pass0 (pa_cons (pv 8) (pa_cons (pv 4) (pa_cons (pv 6) pa_nil)))))
      (pss_cons (ps_if (pt_cmpR op_ne (pe_callB (call_reprR (K := K) hq (room_repr hr)) (by rfl) B.repr (by decide +kernel) (pa_cons (pe_lst (pa_cons (pe_callN G_cost (hr.mono (by decide)) rfl mg_cost kp_cost kn_cost pass0 (pa_cons (pv 5) (pa_cons (pv 8) pa_nil)) (pk_cons (pv 6) pk_nil)) (pa_cons (pe_callN G_cost (hr.mono (by decide)) rfl mg_cost kp_cost kn_cost pass0 (pa_cons (pv 5) (pa_cons (pv 8) pa_nil)) (pk_cons (pe_callTy call_tuple_of (by rfl) B.tuple (by decide +kernel) (pa_cons (pv 6) pa_nil)) pk_nil)) pa_nil))) pa_nil)) (pe_callB (call_reprR (K := K) hq (room_repr hr)) (by rfl) B.repr (by decide +kernel) (pa_cons (pe_lst (pa_cons (pv 9) (pa_cons (pv 9) pa_nil))) pa_nil)) (nomark _)) (pss_one (ps_ret pe_bl)) pss_nil)
      (pss_cons (ps_set (i := 10) sc_law.nd rfl (Or.inl rfl) (pe_call G_law_price (hr.mono (by decide)) rfl mg_law_price kp_law_price bb_law_price .nil pass0 (pa_cons (pv 8) (pa_cons (pv 4) (pa_cons (pe_op op_rep (pe_lst (pa_cons pe_int pa_nil)) (pv 3)) pa_nil)))))
      (pss_cons (ps_if (PW.pt (pw_or (pt_cmpR op_ne (pe_call G_cost (hr.mono (by decide)) rfl mg_cost kp_cost bb_cost vv_cost pass0 (pa_cons (pv 5) (pa_cons (pv 8) pa_nil))) (pv 10) (nomark _)) (pw_or1 (pt_cmpR op_ne (pe_callN G_cost (hr.mono (by decide)) rfl mg_cost kp_cost kn_cost pass0 (pa_cons (pv 5) (pa_cons (pv 8) pa_nil)) (pk_cons pe_non pk_nil)) (pv 10) (nomark _))))) (pss_one (ps_ret pe_bl)) pss_nil)
      (pss_one (ps_if (PW.pt (pw_or (pt_cmpR op_ne (pe_callN G_cost (hr.mono (by decide)) rfl mg_cost kp_cost kn_cost pass0 (pa_cons (pv 5) (pa_cons (pe_call G_negated (hr.mono (by decide)) rfl mg_negated kp_negated bb_negated .nil pass0 (pa_cons (pv 5) (pa_cons (pv 8) pa_nil))) pa_nil)) (pk_cons (pv 6) pk_nil)) (pv 9) (nomark _)) (pw_or1 (pt_cmpR op_ne (pe_cmpR op_eq (pv 9) pe_int (nomark _)) (pe_cmpR (op_eqD (by exact hr.units)) (pv 8) (pe_op op_rep (pe_lst (pa_cons pe_int pa_nil)) (pv 3)) (nomark _)) (nomark _))))) (pss_one (ps_ret pe_bl)) pss_nil))))))))
      (pss_cons (ps_for PassesOwn.never rfl (pi_list (pe_lst (pa_cons pe_non (pa_cons (pe_op op_cat (pv 8) (pe_lst (pa_cons pe_int pa_nil))) (pa_cons (pe_callTy call_tuple_of (by rfl) B.tuple (by decide +kernel) (pa_cons (pv 8) pa_nil)) (pa_cons pe_dnewK pa_nil)))))) (pg_name (i := 11) sc_law.nd rfl (Or.inr rfl))
      (pss_one (ps_if (pt_cmpR (op_neD (by exact hr.units)) (pe_lamQ (x0 := "law") rfl rfl mg_law_error kp_law_error at_law_error cd_law_error bb_law_error sc_law_error rfl (Or.inl rfl) (gives_law_error hq (fun env => room_repr (k := 0) ((hr.mono (by decide)).deeper env)) B XE_InvalidPotential XE_InvalidWeights EM_) TB_ rfl hr (lamS_by (sc := defScope s_law) (by decide +kernel)) rfl (fun _ _ _ _ _ => rfl) (fun A outer r G E f c1 hr => (pe_callN G_costX (hr.mono (by decide)) rfl mg_costX kp_costX kn_costX (passes_call (E := E) (takes_of rfl rfl rfl rfl) (fun _ _ _ _ h => h)) (pa_cons (pv 5) (pa_cons (pv 11) pa_nil)) (pk_cons pe_int pk_nil)))) (pe_lst (pa_cons pe_str (pa_cons (pe_callB (call_reprA (K := K) hq (room_repr hr)) (by rfl) B.repr (by decide +kernel) (pa_cons (pv 11) pa_nil)) pa_nil))) (nomark _)) (pss_one (ps_ret pe_bl)) pss_nil)))
      (pss_one (ps_for PassesOwn.never rfl (pi_list (pe_lst (pa_cons pe_int (pa_cons (pe_lst pa_nil) (pa_cons (pe_op op_cat (pv 6) (pe_lst (pa_cons pe_int pa_nil))) (pa_cons (pe_op op_cat (pe_lst (pa_cons pe_int pa_nil)) (pe_slice sl_list (pv 6) (po_some pe_int) po_none)) (pa_cons (pe_op op_cat (pe_lst (pa_cons pe_bl pa_nil)) (pe_slice sl_list (pv 6) (po_some pe_int) po_none)) (pa_cons (pe_op op_cat (pe_lst (pa_cons pe_non pa_nil)) (pe_slice sl_list (pv 6) (po_some pe_int) po_none)) (pa_cons pe_dnewK (pa_cons (pe_op op_mulS pe_str (pv 3)) pa_nil)))))))))) (pg_name (i := 11) sc_law.nd rfl (Or.inr rfl))
      (pss_one (ps_if (pt_cmpR (op_neD (by exact hr.units)) (pe_lamQ (x0 := "law") rfl rfl mg_law_error kp_law_error at_law_error cd_law_error bb_law_error sc_law_error rfl (Or.inl rfl) (gives_law_error hq (fun env => room_repr (k := 0) ((hr.mono (by decide)).deeper env)) B XE_InvalidPotential XE_InvalidWeights EM_) TB_ rfl hr (lamS_by (sc := defScope s_law) (by decide +kernel)) rfl (fun _ _ _ _ _ => rfl) (fun A outer r G E f c1 hr => (pe_callN G_costX (hr.mono (by decide)) rfl mg_costX kp_costX kn_costX (passes_call (E := E) (takes_of rfl rfl rfl rfl) (fun _ _ _ _ h => h)) (pa_cons (pv 5) (pa_cons (pv 8) pa_nil)) (pk_cons (pv 11) pk_nil)))) (pe_lst (pa_cons pe_str (pa_cons (pe_callB (call_reprA (K := K) hq (room_repr hr)) (by rfl) B.repr (by decide +kernel) (pa_cons (pv 11) pa_nil)) pa_nil))) (nomark _)) (pss_one (ps_ret pe_bl)) pss_nil)))))))))))
      (pss_one (ps_ret pe_bl)))), ?_⟩
    have iv0 : (volT ([(Pt_, lamQ "law")])).I H := volT_I hT0
    have eT : Ext (volT ([(Pt_, lamQ "law")])) H H := .refl iv0
    have ha1 := sqL_ext eT hT0 ha
    refine q_for (X := volT ([(Pt_, lamQ "law")])) (es_rng1 (ev_max2 ev_int (ev_min2 (ev_lenSqT rfl ha1 iv0.ti.1) ev_int)) (by rw [List.length_map]; omega) (by rw [List.length_map]; omega)) iv0 fun H1 e1 => ⟨fun i σ' H' => (∃ u1 u2 u3 u4 u5 u6 u7 u8 u9 u10 u11, σ' = [some (.ref a), u1, u2, u3, u4, u5, u6, u7, u8, u9, u10, u11]) ∧ Ext (volT ([(Pt_, lamQ "law")])) H1 H', ⟨⟨_, _, _, _, _, _, _, _, _, _, _, rfl⟩, .refl e1.inv⟩, fun i σ' H' h => h.2.wk, ?_, ?_⟩
    · rintro i d x σ' H2 H3 ⟨⟨u1, u2, u3, u4, u5, u6, u7, u8, u9, u10, u11, rfl⟩, s2⟩ _ e3 hd hx
      have hi : i < (max 1 (min ((ns.map V.int).length : Int) 6)).toNat := by
        have := (List.getElem?_eq_some_iff.mp hd).1
        rw [dRange_len] at this
        exact this
      rw [dRange_get hi] at hd
      cases hd
      cases hx
      have s3 : Ext (volT ([(Pt_, lamQ "law")])) H H3 := eT.trans (e1.trans (s2.trans e3))
      refine ⟨_, rfl, _, rfl, a, ns, 0 + (i : Int), rfl, sqL_ext s3 hT0 ha, hl, by omega, by omega, fun H4 p s4 hp4 hP => ?_⟩
      have iv4 : (volPT p ([(Pt_, lamQ "law")])).I H4 := volPT_I hP (s3.inv.ti.1.ext s4)
      have back : ∀ {H'}, Wk (volPT p ([(Pt_, lamQ "law")])) H4 (volPT p ([(Pt_, lamQ "law")])) H' → Ext (volT ([(Pt_, lamQ "law")])) H1 H' := fun w => backT (s2.trans e3) hp4 s4 w
      clear eT
      have eT : Ext (volPT p ([(Pt_, lamQ "law")])) H4 H4 := .refl iv4
      refine q_par2X (X := volPT p ([(Pt_, lamQ "law")])) (R1 := fun d => ∃ n : Nat, d = dN n ∧ 1 ≤ n ∧ n ≤ 12) (ex_cons (Ev.weakX (ev_I0x (R := fun _ => True) (g := fun i j => i + j) ev_int (ev_take rfl rfl ev_int (by decide) (by decide))) (fun d ⟨r, hr, r0, r1⟩ => ⟨(1 + r).toNat, hr.trans (congrArg PyData.int (Int.toNat_of_nonneg (by omega)).symm), by omega, by omega⟩)) (ex_cons (ev_modulus rfl rfl) ex_nil)) iv4 fun vn vm dn dm H1 e2 hdn hdm gn gm => ?_
      obtain ⟨n, rfl, n1, nN⟩ := hdn
      obtain ⟨m, rfl, hmm⟩ := hdm
      cases gn
      cases gm
      have hm2 : m = 0 ∨ 2 ≤ m ∧ m ≤ 60 := by
        simp at hmm
        omega
      replace eT := eT.trans e2
      refine q_asg (X := volPT p ([(Pt_, lamQ "law")])) (P := vWX C fun w => ((∃ ps : List (Nat × Nat), dEdges w.ps = dEdges ps ∧ Ee.Within n ps ∧ ps.length ≤ 6)) ∧ w.n = n ∧ w.m = m) (ev_webX (n := n) (m := m) (ev_varD rfl (.int _)) (ev_links rfl rfl (ev_varD rfl (.int _)) (ev_int (i := ((6 : Nat) : Int))) (by omega) (by omega) (by decide)) (fun d ⟨ps, hd, wi, lps⟩ => ⟨ps, hd, n1, by show n ≤ 30; omega, wi, by show ps.length ≤ 60; omega, hm2⟩) (ev_varD rfl (.int _))) e2.inv fun vw Hw ew gw => ?_
      obtain ⟨w, ⟨_, rfl, rfl⟩, gw⟩ := gw
      replace eT := eT.trans ew
      have ok : w.Ok := ok_of gw
      have n30 : w.n ≤ 30 := ok.n30
      have hm0 : 0 ≤ w.m := by omega
      have hm60 : w.m ≤ 60 := by omega
      refine q_asgR (X := volPT p ([(Pt_, lamQ "law")])) (er_draw w.n rfl rfl (ea_cons (ev_varD rfl (.int _)) ea_nil) (by show w.n ≤ 1000; omega)) ew.inv fun l5 H3 d7 n6 e4 hd8 g9 => ?_
      replace gw := e4.upP gw
      replace eT := eT.trans e4
      obtain ⟨hv, rfl, hv1, hv2⟩ := hd8
      have hv10 : ∀ x ∈ hv, 1 ≤ x ∧ x ≤ 10 ^ 10 := fun x hx => by have := hv2 x hx; omega
      have hw1 := wt_list hv1 hv2
      have hr1 := rates_list (n := w.n) (hv := hv)
      have fq1 : fewQ (.list (hv.map PyData.int)) := by show (hv.map PyData.int).length ≤ 5000; rw [List.length_map]; omega
      have fq2 : fewQ (.tuple (hv.map PyData.int)) := by show (hv.map PyData.int).length ≤ 5000; rw [List.length_map]; omega
      have on1 : ∀ x ∈ List.replicate w.n (1 : Int), 1 ≤ x ∧ x ≤ 10 ^ 10 := fun x hx => by rw [(List.mem_replicate.mp hx).2]; exact ⟨by decide, by decide⟩
      refine q_forE (X := volPT p ([(Pt_, lamQ "law")])) (es_rngN (n := 4) (ev_int (i := ((4 : Nat) : Int))) (by decide)) e4.inv fun Ha14 e15 => ⟨fun j σ' H' => (∃ (uz10 : Option V) (uz11 : Option V) (uz12 : Option V) (uz13 : Option V), σ' = [some (.ref a), some (.int (0 + (i : Int))), some (.ref p), some (.int (w.n : Int)), some (.int w.m), some vw, some (.ref l5), uz10, uz11, uz12, uz13, u11] ∧ (0 < j → ∃ (v : V) (lv : List Int), uz11 = some v ∧ Dx ((volPT p ([(Pt_, lamQ "law")])).wo H') v (dZs lv) ∧ potB w (dZs lv) = true ∧ ∀ x ∈ lv, -(10 ^ 18) ≤ x ∧ x ≤ 10 ^ 18)) ∧ True, ⟨⟨_, _, _, _, rfl, (fun z => absurd z (by decide))⟩, True.intro⟩, ?_, ?_⟩
      · rintro j tn x σ' H16 H17 ha ⟨⟨uz10, uz11, uz12, uz13, rfl, hE⟩, hJ⟩ eb19 e18 hx
        replace eb19 := eb19.trans e18
        have e20 := e15.trans eb19
        replace gw := e20.upP gw
        replace g9 := e20.upD g9
        replace eT := eT.trans e20
        refine tgt_int hx ?_
        show _
        refine q_asgR (X := volPT p ([(Pt_, lamQ "law")])) (er_draw (w.m, w.n) rfl rfl (ea_cons (ev_varD rfl (.int _)) (ea_cons (ev_varD rfl (.int _)) ea_nil)) ⟨hm0, hm60, by show w.n ≤ 1000; omega⟩) e18.inv fun l23 H21 d25 n24 e22 hd26 g27 => ?_
        replace gw := e22.upP gw
        replace g9 := e22.upD g9
        replace eT := eT.trans e22
        replace eb19 := eb19.trans e22
        obtain ⟨lv, rfl, lv1, lv2⟩ := hd26
        replace lv1 : lv.length = w.n := lv1
        have pB : potB w (dZs lv) = true := potB_iff.mpr ⟨lv1, fun x hx => (lv2 x hx).1⟩
        have nB := neg_pot hm0 pB
        have lvz : ∀ z ∈ lv, red w.m z = z := fun x hx => (lv2 x hx).1
        have l30 : lv.length ≤ 30 := by omega
        obtain ⟨pz0, pz⟩ := price_zero (rs := hv) hm0 (fun x hx => (hv2 x hx).1) lvz (by omega)
        obtain ⟨pb0, pb1⟩ := price_bd hm0 hm60 hv2 (fun x hx => (lv2 x hx).2)
        have pn := price_neg (rs := hv) hm0 lvz
        have T2 : Tx 2 1 (.list [.int (priceW w.m hv lv), .int (priceW w.m hv lv)]) := Tx.mono (.lst (TxL.cons (Tx.num (by omega) (by omega)) (TxL.cons (Tx.num (by omega) (by omega)) TxL.nil))) (by omega) (by omega)
        refine q_asgI (X := volPT p ([(Pt_, lamQ "law")])) (i := (priceW w.m hv lv)) (ev_call (lv, w.m, hv) (ea_cons (ev_varD rfl g27) (ea_cons (ev_varD rfl (.int _)) (ea_cons (ev_varD rfl g9) ea_nil))) ⟨hm0, l30, hv10⟩) e22.inv fun H28 e29 => ?_
        replace gw := e29.upP gw
        replace g9 := e29.upD g9
        replace g27 := e29.upD g27
        replace eT := eT.trans e29
        replace eb19 := eb19.trans e29
        refine q_guard (X := volPT p ([(Pt_, lamQ "law")])) (EvT.cast (et_test (ev_neS (ev_repr (EvN.ev (en_lst (ed_cons (ev_callN (w, lv, .list (hv.map PyData.int), hv) (ea_cons (ev_varW rfl gw) (ea_cons (ev_varD rfl g27) ea_nil)) (ea_cons (ev_varD rfl g9) ea_nil) rfl ⟨pB, fq1, hw1.1, hr1.1, hv10⟩) (ed_cons (ev_callN (w, lv, .tuple (hv.map PyData.int), hv) (ea_cons (ev_varW rfl gw) (ea_cons (ev_varD rfl g27) ea_nil)) (ea_cons (ev_tupleOf (ev_varD rfl g9)) ea_nil) rfl ⟨pB, fq2, hw1.2, hr1.2, hv10⟩) ed_nil)) (by show 2 ≤ 40000; decide))) T2 (by omega) (by omega)) (ev_repr (EvN.ev (en_lst (ed_cons (ev_varD rfl (.int _)) (ed_cons (ev_varD rfl (.int _)) ed_nil)) (by show 2 ≤ 40000; decide))) T2 (by omega) (by omega)))) (by simp)) e29.inv fun H30 e31 => ?_
        replace gw := e31.upP gw
        replace g9 := e31.upD g9
        replace g27 := e31.upD g27
        replace eT := eT.trans e31
        replace eb19 := eb19.trans e31
        refine q_asgI (X := volPT p ([(Pt_, lamQ "law")])) (i := (priceW w.m (List.replicate w.n 1) lv)) (ev_call (lv, w.m, List.replicate w.n 1) (ea_cons (ev_varD rfl g27) (ea_cons (ev_varD rfl (.int _)) (ea_cons (Ev.cast (EvN.ev (en_repL (ds := [.int 1]) (k := w.n) (EvN.ev (en_lst (ed_cons ev_int ed_nil) (by show 1 ≤ 40000; decide))) (ev_varD rfl (.int _)) (by show 1 * w.n ≤ 40000; omega) (by omega))) rep_one) ea_nil))) ⟨hm0, l30, on1⟩) e31.inv fun H32 e33 => ?_
        replace gw := e33.upP gw
        replace g9 := e33.upD g9
        replace g27 := e33.upD g27
        replace eT := eT.trans e33
        replace eb19 := eb19.trans e33
        refine q_guard (X := volPT p ([(Pt_, lamQ "law")])) (EvT.cast (et_or (et_test (ev_neI (ev_callD (P0 := vD .none) (w, lv, PyData.none, List.replicate w.n 1) (ea_cons (ev_varW rfl gw) (ea_cons (ev_varD rfl g27) ea_nil)) ⟨pB, Nat.zero_le _, rfl, rates_none, on1⟩ rfl fun G => .non) (ev_varD rfl (.int _)))) fun _ => (et_test (ev_neI (ev_callN (w, lv, PyData.none, List.replicate w.n 1) (ea_cons (ev_varW rfl gw) (ea_cons (ev_varD rfl g27) ea_nil)) (ea_cons ev_non ea_nil) rfl ⟨pB, Nat.zero_le _, rfl, rates_none, on1⟩) (ev_varD rfl (.int _))))) (by simp)) e33.inv fun H34 e35 => ?_
        replace gw := e35.upP gw
        replace g9 := e35.upD g9
        replace g27 := e35.upD g27
        replace eT := eT.trans e35
        replace eb19 := eb19.trans e35
        refine s_guard (X := volPT p ([(Pt_, lamQ "law")])) (EvT.cast (et_or (et_test (ev_neI (ev_callN (w, w.negP lv, PyData.list (hv.map PyData.int), hv) (ea_cons (ev_varW rfl gw) (ea_cons (EvN.ev (en_call (w, lv) (ea_cons (ev_varW rfl gw) (ea_cons (ev_varD rfl g27) ea_nil)) pB)) ea_nil)) (ea_cons (ev_varD rfl g9) ea_nil) rfl ⟨nB, fq1, hw1.1, hr1.1, hv10⟩) (ev_varD rfl (.int _)))) fun _ => et_test (ev_neB (ev_eqI (ev_varD rfl (.int _)) ev_int) (ev_eqD (ev_varD rfl g27) (Ev.cast (EvN.ev (en_repL (ds := [.int 0]) (k := w.n) (EvN.ev (en_lst (ed_cons ev_int ed_nil) (by show 1 ≤ 40000; decide))) (ev_varD rfl (.int _)) (by show 1 * w.n ≤ 40000; omega) (by omega))) rep_one) (shaped_ints _) (shaped_ints _)))) (by rw [pn, eqv_intsD, show decide (lv = List.replicate w.n (0 : Int)) = decide (priceW w.m hv lv = 0) from decide_eq_decide.mpr (by rw [← lv1]; exact pz.symm)]; simp)) e35.inv fun H36 e37 => ?_
        replace gw := e37.upP gw
        replace g9 := e37.upD g9
        replace g27 := e37.upD g27
        replace eT := eT.trans e37
        replace eb19 := eb19.trans e37
        exact ⟨⟨⟨_, _, _, _, rfl, (fun _ => ⟨_, lv, rfl, g27, pB, fun x hx => (lv2 x hx).2⟩)⟩, True.intro⟩, eb19⟩
      rintro σ' H16 ⟨⟨uz10, uz11, uz12, uz13, rfl, hE⟩, hJ⟩ eb19
      have e38 := e15.trans eb19
      replace gw := e38.upP gw
      replace g9 := e38.upD g9
      replace eT := eT.trans e38
      obtain ⟨vl, lv, hvl, dxl, pB, lvb⟩ := hE (by rw [List.length_range]; decide)
      subst hvl
      have lv1 : lv.length = w.n := (potB_iff.mp pB).1
      have lv40 : ∀ z ∈ lv, -(10 ^ 40) ≤ z ∧ z ≤ 10 ^ 40 := fun x hx => by have := lvb x hx; omega
      have fl : fewL (dZs lv) := few21 (by rw [List.length_map]; omega)
      have hTm : (Pt_, lamQ "law") ∈ (volPT p ([(Pt_, lamQ "law")])).T := by simp [volPT, volT]
      have hTu : ∀ t ∈ (volPT p ([(Pt_, lamQ "law")])).T, t.1 = Pt_ → t.2 = lamQ "law" := by simp [volPT, volT]
      refine q_forE (X := volPT p ([(Pt_, lamQ "law")])) (es_list (ds := (badP21 lv).map fun d => d) (Ev.cast (EvN.ev (en_lst (ed_cons ev_non (ed_cons (EvN.ev (en_cat (ev_varD rfl dxl) (EvN.ev (en_lst (ed_cons ev_int ed_nil) (by show 1 ≤ 40000; decide))) (by rw [List.length_map]; show lv.length + 1 ≤ 40000; omega))) (ed_cons (ev_tupleOf (ev_varD rfl dxl)) (ed_cons ev_dict0 ed_nil)))) (by show 4 ≤ 40000; decide))) (show _ = PyData.list ((badP21 lv).map fun d => d) from rfl))) e38.inv fun Ha40 e41 => ⟨fun j σ' H' => (∃ uz39, σ' = [some (.ref a), some (.int (0 + (i : Int))), some (.ref p), some (.int (w.n : Int)), some (.int w.m), some vw, some (.ref l5), uz10, some vl, uz12, uz13, uz39]) ∧ True, ⟨⟨_, rfl⟩, True.intro⟩, ?_, ?_⟩
      · rintro j d x σ' H42 H43 ha ⟨⟨uz39, rfl⟩, hJ⟩ eb45 e44 hx
        replace eb45 := eb45.trans e44
        have e46 := e41.trans eb45
        replace gw := e46.upP gw
        replace g9 := e46.upD g9
        replace dxl := e46.upD dxl
        replace eT := eT.trans e46
        refine tgt_name ?_
        show _
        have hbd := badP21_all n30 pB lv40 d (List.mem_of_getElem? ha)
        refine s_guard (X := volPT p ([(Pt_, lamQ "law")])) (et_two (en_lamX hTm hTu (fun E => (ex_callNG up_Co1 (w, d, .int 0) (ea_cons (ev_varW rfl gw) (ea_cons (ev_varD rfl hx) ea_nil)) (ea_cons ev_int ea_nil) rfl ⟨hbd.1, hbd.2.1⟩)) (j := 0) rfl hbd.2.2.t) (EvN.ev (en_lst (ed_cons ev_str (ed_cons (ev_reprA (ev_varD rfl hx) hbd.2.2.t) ed_nil)) (by show 2 ≤ 40000; decide))) hbd.2.2.s) e44.inv fun H49 e50 => ?_
        replace gw := e50.upP gw
        replace g9 := e50.upD g9
        replace dxl := e50.upD dxl
        replace hx := e50.upD hx
        replace eT := eT.trans e50
        replace eb45 := eb45.trans e50
        exact ⟨⟨⟨_, rfl⟩, True.intro⟩, eb45⟩
      rintro σ' H42 ⟨⟨uz39, rfl⟩, hJ⟩ eb45
      have e51 := e41.trans eb45
      replace gw := e51.upP gw
      replace g9 := e51.upD g9
      replace dxl := e51.upD dxl
      replace eT := eT.trans e51
      refine s_forE (X := volPT p ([(Pt_, lamQ "law")])) (es_list (ds := (badW21 w.n hv).map fun d => d) (Ev.cast (EvN.ev (en_lst (ed_cons ev_int (ed_cons (EvN.ev (en_lst ed_nil (by show 0 ≤ 40000; decide))) (ed_cons (EvN.ev (en_cat (ev_varD rfl g9) (EvN.ev (en_lst (ed_cons ev_int ed_nil) (by show 1 ≤ 40000; decide))) (by simp only [List.length_append, List.length_map, List.length_cons, List.length_nil]; have := cut_len21 (hv.map PyData.int) (some 1) none; rw [List.length_map] at this; omega))) (ed_cons (EvN.ev (en_cat (EvN.ev (en_lst (ed_cons ev_int ed_nil) (by show 1 ≤ 40000; decide))) (EvN.ev (en_sl (ev_varD rfl g9) (eo_some ev_int) eo_none)) (by simp only [List.length_append, List.length_map, List.length_cons, List.length_nil]; have := cut_len21 (hv.map PyData.int) (some 1) none; rw [List.length_map] at this; omega))) (ed_cons (EvN.ev (en_cat (EvN.ev (en_lst (ed_cons ev_bl ed_nil) (by show 1 ≤ 40000; decide))) (EvN.ev (en_sl (ev_varD rfl g9) (eo_some ev_int) eo_none)) (by simp only [List.length_append, List.length_map, List.length_cons, List.length_nil]; have := cut_len21 (hv.map PyData.int) (some 1) none; rw [List.length_map] at this; omega))) (ed_cons (EvN.ev (en_cat (EvN.ev (en_lst (ed_cons ev_non ed_nil) (by show 1 ≤ 40000; decide))) (EvN.ev (en_sl (ev_varD rfl g9) (eo_some ev_int) eo_none)) (by simp only [List.length_append, List.length_map, List.length_cons, List.length_nil]; have := cut_len21 (hv.map PyData.int) (some 1) none; rw [List.length_map] at this; omega))) (ed_cons ev_dict0 (ed_cons (ev_mulS ev_str (ev_varD rfl (.int _)) (mul21 ⟨w.n, by omega⟩)) ed_nil)))))))) (by show 8 ≤ 40000; decide))) (show _ = PyData.list ((badW21 w.n hv).map fun d => d) from rfl))) e51.inv fun Ha53 e54 => ⟨fun j σ' H' => (∃ uz52, σ' = [some (.ref a), some (.int (0 + (i : Int))), some (.ref p), some (.int (w.n : Int)), some (.int w.m), some vw, some (.ref l5), uz10, some vl, uz12, uz13, uz52]) ∧ True, ⟨⟨_, rfl⟩, True.intro⟩, ?_, ?_⟩
      · rintro j d x σ' H55 H56 ha ⟨⟨uz52, rfl⟩, hJ⟩ eb58 e57 hx
        replace eb58 := eb58.trans e57
        have e59 := e54.trans eb58
        replace gw := e59.upP gw
        replace g9 := e59.upD g9
        replace dxl := e59.upD dxl
        replace eT := eT.trans e59
        refine tgt_name ?_
        show _
        have hbd := badW21_all n1 (by omega) hv1 hv2 d (List.mem_of_getElem? ha)
        refine s_guard (X := volPT p ([(Pt_, lamQ "law")])) (et_two (en_lamX hTm hTu (fun E => (ex_callNG up_Co2 (w, dZs lv, d) (ea_cons (ev_varW rfl gw) (ea_cons (ev_varD rfl dxl) ea_nil)) (ea_cons (ev_varD rfl hx) ea_nil) rfl ⟨fl, pB, hbd.1, hbd.2.1⟩)) (j := 1) rfl hbd.2.2.t) (EvN.ev (en_lst (ed_cons ev_str (ed_cons (ev_reprA (ev_varD rfl hx) hbd.2.2.t) ed_nil)) (by show 2 ≤ 40000; decide))) hbd.2.2.s) e57.inv fun H62 e63 => ?_
        replace gw := e63.upP gw
        replace g9 := e63.upD g9
        replace dxl := e63.upD dxl
        replace hx := e63.upD hx
        replace eT := eT.trans e63
        replace eb58 := eb58.trans e63
        exact ⟨⟨⟨_, rfl⟩, True.intro⟩, eb58⟩
      rintro σ' H55 ⟨⟨uz52, rfl⟩, hJ⟩ eb58
      have e64 := e54.trans eb58
      replace gw := e64.upP gw
      replace g9 := e64.upD g9
      replace dxl := e64.upD dxl
      replace eT := eT.trans e64
      exact ⟨⟨_, _, _, _, _, _, _, _, _, _, _, rfl⟩, back eT.wk⟩
    rintro σ' H2 ⟨⟨u1, u2, u3, u4, u5, u6, u7, u8, u9, u10, u11, rfl⟩, s2⟩ _
    exact q H2
end
end Wb

namespace Wb
open PySem L2 Ee
theorem exm_two {K : PySem.W.Frag} {S R : Addr} {b : Bool} (above : PySem.W.subIn K (.ref S) (.type "BaseException") = some true) (isC : PySem.W.isClsIn K S = true) (kind : PySem.W.typeIn K (.ref S) = some (.type "type")) (self : PySem.W.subIn K (.ref R) (.ref S) = some b) :
    PySem.W.exmOne K (.ref R) (.ref S) = some b := by
  unfold PySem.W.isClsIn at isC
  simp [PySem.W.exmOne, PySem.W.kitCls, above, isC, kind, self]
theorem tab_mk {K : PySem.W.Frag} {x : Str} {f c P : Addr} {oc : Value} {od : Option Addr} {fd : FuncData} {sl : Array (Option Value)} {oc' : Value} {od' : Option Addr} {vs : Array Value} {sl' : Array (Option Value)} (a : PySem.W.nsIn K mainGlobals x = some (some (.ref f))) (l : K.lookup f = some ⟨oc, od, .func fd, sl⟩) (lc : K.lookup c = some ⟨oc', od', .fields vs, sl'⟩) (t : (vs[11]? : Option Value) = some (.ref P)) (e : fd.code = .ref c := by rfl) : PySem.W.tabIn K x = some (c, P) := by
  unfold PySem.W.tabIn
  rw [a]
  simp only [l]
  rw [e]
  simp only [lc, t]
theorem all_mk {l : PySem.W.OpenLaw} {w : World} {K : PySem.W.Frag} {h : Heap} {mg mb : Str → Option Value} {fa : Addr} {q : Program} {loose : List Str} {mean : ExcName → Option Value} (X : K.In h) (TP : PyProof.Rows.Top q loose mean mg mb h) (hfa : mg "law" = some (.ref fa))
    {C f1 f2 f3 f4 f5 f6 f7 f8 f9 f10 f11 f12 f13 f14 f15 f16 f17 f18 f19 f20 f21 f22 f23 f24 f25 KD25 f26 f27 f28 f29 f30 cc30 Pt30 f31 f32 f0 TD KD ET fW_ CE_ CW_InvalidPotential CW_InvalidWeights : Addr} {od1 an1 od2 an2 od3 an3 od4 an4 od5 an5 od6 an6 od7 an7 od8 an8 od9 an9 od10 an10 od11 an11 od12 an12 od13 an13 od14 an14 od15 an15 od16 an16 od17 an17 od18 an18 od19 an19 od20 an20 od21 an21 od22 an22 od23 an23 od24 an24 od25 an25 od26 an26 od27 an27 od28 an28 od29 an29 od30 an30 od_30 od31 an31 od32 an32 od0 an0 odT odW anW : Option Addr} {sl1 sl2 sl3 sl4 sl5 sl6 sl7 sl8 sl9 sl10 sl11 sl12 sl13 sl14 sl15 sl16 sl17 sl18 sl19 sl20 sl21 sl22 sl23 sl24 sl25 sl26 sl27 sl28 sl29 sl30 sl_30 sl31 sl32 sl0 slT slW : Array (Option Value)} {oc1 kV1 dc1 pm1 cd1 ct1 oc2 kV2 dc2 pm2 cd2 ct2 oc3 kV3 dc3 pm3 cd3 ct3 oc4 kV4 dc4 pm4 cd4 ct4 oc5 kV5 dc5 pm5 cd5 ct5 oc6 kV6 dc6 pm6 cd6 ct6 oc7 kV7 dc7 pm7 cd7 ct7 oc8 kV8 dc8 pm8 cd8 ct8 oc9 kV9 dc9 pm9 cd9 ct9 oc10 kV10 dc10 pm10 cd10 ct10 oc11 kV11 dc11 pm11 cd11 ct11 oc12 kV12 dc12 pm12 cd12 ct12 oc13 kV13 dc13 pm13 cd13 ct13 oc14 kV14 dc14 pm14 cd14 ct14 oc15 kV15 dc15 pm15 cd15 ct15 oc16 kV16 dc16 pm16 cd16 ct16 oc17 kV17 dc17 pm17 cd17 ct17 oc18 kV18 dc18 pm18 cd18 ct18 oc19 kV19 dc19 pm19 cd19 ct19 oc20 kV20 dc20 pm20 cd20 ct20 oc21 kV21 dc21 pm21 cd21 ct21 oc22 kV22 dc22 pm22 cd22 ct22 oc23 kV23 dc23 pm23 cd23 ct23 oc24 kV24 dc24 pm24 cd24 ct24 oc25 dc25 pm25 cd25 ct25 oc26 kV26 dc26 pm26 cd26 ct26 oc27 kV27 dc27 pm27 cd27 ct27 oc28 kV28 dc28 pm28 cd28 ct28 oc29 kV29 dc29 pm29 cd29 ct29 oc30 kV30 dc30 pm30 ct30 oc_30 oc31 kV31 dc31 pm31 cd31 ct31 oc32 kV32 dc32 pm32 cd32 ct32 oc0 dc0 pm0 cd0 ct0 ocT ocW kVW dcW pmW cdW ctW : Value} {tk0 t1 t2 t3 t4 : Tok} {vs_30 : Array Value} {nT : Nat} {xnm0 xq0 : Str} {xN0 : Addr} {xbs0 xsub0 : List Value} {xsn0 : List Str} {xab0 : Bool} {xcol0 : Option Bool} {xdd0 : Option Addr} {xma0 xmb0 xmc0 xmd0 xme0 : Option Value} {xnm1 xq1 : Str} {xN1 : Addr} {xbs1 xsub1 : List Value} {xsn1 : List Str} {xab1 : Bool} {xcol1 : Option Bool} {xdd1 : Option Addr} {xma1 xmb1 xmc1 xmd1 xme1 : Option Value}
    (aC : PySem.W.nsIn K mainGlobals "Web" = some (some (.ref C)))
    (a1 : PySem.W.nsIn K mainGlobals "is_integer" = some (some (.ref f1)))
    (l1 : K.lookup f1 = some ⟨oc1, od1, .func (PySem.W.fnOf "is_integer" "is_integer" (defArgs s_is_integer) (defBody s_is_integer) (defScope s_is_integer) .none kV1 dc1 pm1 an1 cd1 ct1), sl1⟩)
    (c1 : PySem.W.codeIn K cd1 "is_integer" = true)
    (k1 : PySem.W.keepIn K (.ref f1) = true)
    (a2 : PySem.W.nsIn K mainGlobals "is_between" = some (some (.ref f2)))
    (l2 : K.lookup f2 = some ⟨oc2, od2, .func (PySem.W.fnOf "is_between" "is_between" (defArgs s_is_between) (defBody s_is_between) (defScope s_is_between) .none kV2 dc2 pm2 an2 cd2 ct2), sl2⟩)
    (c2 : PySem.W.codeIn K cd2 "is_between" = true)
    (k2 : PySem.W.keepIn K (.ref f2) = true)
    (a3 : PySem.W.nsIn K mainGlobals "is_modulus" = some (some (.ref f3)))
    (l3 : K.lookup f3 = some ⟨oc3, od3, .func (PySem.W.fnOf "is_modulus" "is_modulus" (defArgs s_is_modulus) (defBody s_is_modulus) (defScope s_is_modulus) .none kV3 dc3 pm3 an3 cd3 ct3), sl3⟩)
    (c3 : PySem.W.codeIn K cd3 "is_modulus" = true)
    (k3 : PySem.W.keepIn K (.ref f3) = true)
    (a4 : PySem.W.nsIn K mainGlobals "is_edge" = some (some (.ref f4)))
    (l4 : K.lookup f4 = some ⟨oc4, od4, .func (PySem.W.fnOf "is_edge" "is_edge" (defArgs s_is_edge) (defBody s_is_edge) (defScope s_is_edge) .none kV4 dc4 pm4 an4 cd4 ct4), sl4⟩)
    (c4 : PySem.W.codeIn K cd4 "is_edge" = true)
    (k4 : PySem.W.keepIn K (.ref f4) = true)
    (a5 : PySem.W.nsIn K mainGlobals "check_edges" = some (some (.ref f5)))
    (l5 : K.lookup f5 = some ⟨oc5, od5, .func (PySem.W.fnOf "check_edges" "check_edges" (defArgs s_check_edges) (defBody s_check_edges) (defScope s_check_edges) .none kV5 dc5 pm5 an5 cd5 ct5), sl5⟩)
    (c5 : PySem.W.codeIn K cd5 "check_edges" = true)
    (k5 : PySem.W.keepIn K (.ref f5) = true)
    (a6 : PySem.W.nsIn K mainGlobals "grown_forest" = some (some (.ref f6)))
    (l6 : K.lookup f6 = some ⟨oc6, od6, .func (PySem.W.fnOf "grown_forest" "grown_forest" (defArgs s_grown_forest) (defBody s_grown_forest) (defScope s_grown_forest) .none kV6 dc6 pm6 an6 cd6 ct6), sl6⟩)
    (c6 : PySem.W.codeIn K cd6 "grown_forest" = true)
    (k6 : PySem.W.keepIn K (.ref f6) = true)
    (a7 : PySem.W.nsIn K mainGlobals "_law_pool" = some (some (.ref f7)))
    (l7 : K.lookup f7 = some ⟨oc7, od7, .func (PySem.W.fnOf "_law_pool" "_law_pool" (defArgs s_law_pool) (defBody s_law_pool) (defScope s_law_pool) .none kV7 dc7 pm7 an7 cd7 ct7), sl7⟩)
    (c7 : PySem.W.codeIn K cd7 "_law_pool" = true)
    (k7 : PySem.W.keepIn K (.ref f7) = true)
    (a8 : PySem.W.nsIn K mainGlobals "_law_take" = some (some (.ref f8)))
    (l8 : K.lookup f8 = some ⟨oc8, od8, .func (PySem.W.fnOf "_law_take" "_law_take" (defArgs s_law_take) (defBody s_law_take) (defScope s_law_take) .none kV8 dc8 pm8 an8 cd8 ct8), sl8⟩)
    (c8 : PySem.W.codeIn K cd8 "_law_take" = true)
    (k8 : PySem.W.keepIn K (.ref f8) = true)
    (a9 : PySem.W.nsIn K mainGlobals "_law_modulus" = some (some (.ref f9)))
    (l9 : K.lookup f9 = some ⟨oc9, od9, .func (PySem.W.fnOf "_law_modulus" "_law_modulus" (defArgs s_law_modulus) (defBody s_law_modulus) (defScope s_law_modulus) .none kV9 dc9 pm9 an9 cd9 ct9), sl9⟩)
    (c9 : PySem.W.codeIn K cd9 "_law_modulus" = true)
    (k9 : PySem.W.keepIn K (.ref f9) = true)
    (a10 : PySem.W.nsIn K mainGlobals "_law_links" = some (some (.ref f10)))
    (l10 : K.lookup f10 = some ⟨oc10, od10, .func (PySem.W.fnOf "_law_links" "_law_links" (defArgs s_law_links) (defBody s_law_links) (defScope s_law_links) .none kV10 dc10 pm10 an10 cd10 ct10), sl10⟩)
    (c10 : PySem.W.codeIn K cd10 "_law_links" = true)
    (k10 : PySem.W.keepIn K (.ref f10) = true)
    (a11 : PySem.W.nsIn K mainGlobals "residue" = some (some (.ref f11)))
    (l11 : K.lookup f11 = some ⟨oc11, od11, .func (PySem.W.fnOf "residue" "residue" (defArgs s_residue) (defBody s_residue) (defScope s_residue) .none kV11 dc11 pm11 an11 cd11 ct11), sl11⟩)
    (c11 : PySem.W.codeIn K cd11 "residue" = true)
    (k11 : PySem.W.keepIn K (.ref f11) = true)
    (a12 : PySem.W.nsIn K mainGlobals "is_residue" = some (some (.ref f12)))
    (l12 : K.lookup f12 = some ⟨oc12, od12, .func (PySem.W.fnOf "is_residue" "is_residue" (defArgs s_is_residue) (defBody s_is_residue) (defScope s_is_residue) .none kV12 dc12 pm12 an12 cd12 ct12), sl12⟩)
    (c12 : PySem.W.codeIn K cd12 "is_residue" = true)
    (k12 : PySem.W.keepIn K (.ref f12) = true)
    (a13 : PySem.W.nsIn K mainGlobals "are_residues" = some (some (.ref f13)))
    (l13 : K.lookup f13 = some ⟨oc13, od13, .func (PySem.W.fnOf "are_residues" "are_residues" (defArgs s_are_residues) (defBody s_are_residues) (defScope s_are_residues) .none kV13 dc13 pm13 an13 cd13 ct13), sl13⟩)
    (c13 : PySem.W.codeIn K cd13 "are_residues" = true)
    (k13 : PySem.W.keepIn K (.ref f13) = true)
    (a14 : PySem.W.nsIn K mainGlobals "is_potential" = some (some (.ref f14)))
    (l14 : K.lookup f14 = some ⟨oc14, od14, .func (PySem.W.fnOf "is_potential" "is_potential" (defArgs s_is_potential) (defBody s_is_potential) (defScope s_is_potential) .none kV14 dc14 pm14 an14 cd14 ct14), sl14⟩)
    (c14 : PySem.W.codeIn K cd14 "is_potential" = true)
    (k14 : PySem.W.keepIn K (.ref f14) = true)
    (a15 : PySem.W.nsIn K mainGlobals "size_of" = some (some (.ref f15)))
    (l15 : K.lookup f15 = some ⟨oc15, od15, .func (PySem.W.fnOf "size_of" "size_of" (defArgs s_size_of) (defBody s_size_of) (defScope s_size_of) .none kV15 dc15 pm15 an15 cd15 ct15), sl15⟩)
    (c15 : PySem.W.codeIn K cd15 "size_of" = true)
    (k15 : PySem.W.keepIn K (.ref f15) = true)
    (a16 : PySem.W.nsIn K mainGlobals "check_potential" = some (some (.ref f16)))
    (l16 : K.lookup f16 = some ⟨oc16, od16, .func (PySem.W.fnOf "check_potential" "check_potential" (defArgs s_check_potential) (defBody s_check_potential) (defScope s_check_potential) .none kV16 dc16 pm16 an16 cd16 ct16), sl16⟩)
    (c16 : PySem.W.codeIn K cd16 "check_potential" = true)
    (k16 : PySem.W.keepIn K (.ref f16) = true)
    (a17 : PySem.W.nsIn K mainGlobals "ties_of" = some (some (.ref f17)))
    (l17 : K.lookup f17 = some ⟨oc17, od17, .func (PySem.W.fnOf "ties_of" "ties_of" (defArgs s_ties_of) (defBody s_ties_of) (defScope s_ties_of) .none kV17 dc17 pm17 an17 cd17 ct17), sl17⟩)
    (c17 : PySem.W.codeIn K cd17 "ties_of" = true)
    (k17 : PySem.W.keepIn K (.ref f17) = true)
    (a18 : PySem.W.nsIn K mainGlobals "_law_low" = some (some (.ref f18)))
    (l18 : K.lookup f18 = some ⟨oc18, od18, .func (PySem.W.fnOf "_law_low" "_law_low" (defArgs s_law_low) (defBody s_law_low) (defScope s_law_low) .none kV18 dc18 pm18 an18 cd18 ct18), sl18⟩)
    (c18 : PySem.W.codeIn K cd18 "_law_low" = true)
    (k18 : PySem.W.keepIn K (.ref f18) = true)
    (a19 : PySem.W.nsIn K mainGlobals "_law_number" = some (some (.ref f19)))
    (l19 : K.lookup f19 = some ⟨oc19, od19, .func (PySem.W.fnOf "_law_number" "_law_number" (defArgs s_law_number) (defBody s_law_number) (defScope s_law_number) .none kV19 dc19 pm19 an19 cd19 ct19), sl19⟩)
    (c19 : PySem.W.codeIn K cd19 "_law_number" = true)
    (k19 : PySem.W.keepIn K (.ref f19) = true)
    (a20 : PySem.W.nsIn K mainGlobals "_law_numbers" = some (some (.ref f20)))
    (l20 : K.lookup f20 = some ⟨oc20, od20, .func (PySem.W.fnOf "_law_numbers" "_law_numbers" (defArgs s_law_numbers) (defBody s_law_numbers) (defScope s_law_numbers) .none kV20 dc20 pm20 an20 cd20 ct20), sl20⟩)
    (c20 : PySem.W.codeIn K cd20 "_law_numbers" = true)
    (k20 : PySem.W.keepIn K (.ref f20) = true)
    (a21 : PySem.W.nsIn K mainGlobals "negated" = some (some (.ref f21)))
    (l21 : K.lookup f21 = some ⟨oc21, od21, .func (PySem.W.fnOf "negated" "negated" (defArgs s_negated) (defBody s_negated) (defScope s_negated) .none kV21 dc21 pm21 an21 cd21 ct21), sl21⟩)
    (c21 : PySem.W.codeIn K cd21 "negated" = true)
    (k21 : PySem.W.keepIn K (.ref f21) = true)
    (a22 : PySem.W.nsIn K mainGlobals "is_weights" = some (some (.ref f22)))
    (l22 : K.lookup f22 = some ⟨oc22, od22, .func (PySem.W.fnOf "is_weights" "is_weights" (defArgs s_is_weights) (defBody s_is_weights) (defScope s_is_weights) .none kV22 dc22 pm22 an22 cd22 ct22), sl22⟩)
    (c22 : PySem.W.codeIn K cd22 "is_weights" = true)
    (k22 : PySem.W.keepIn K (.ref f22) = true)
    (a23 : PySem.W.nsIn K mainGlobals "check_weights" = some (some (.ref f23)))
    (l23 : K.lookup f23 = some ⟨oc23, od23, .func (PySem.W.fnOf "check_weights" "check_weights" (defArgs s_check_weights) (defBody s_check_weights) (defScope s_check_weights) .none kV23 dc23 pm23 an23 cd23 ct23), sl23⟩)
    (c23 : PySem.W.codeIn K cd23 "check_weights" = true)
    (k23 : PySem.W.keepIn K (.ref f23) = true)
    (a24 : PySem.W.nsIn K mainGlobals "rates_of" = some (some (.ref f24)))
    (l24 : K.lookup f24 = some ⟨oc24, od24, .func (PySem.W.fnOf "rates_of" "rates_of" (defArgs s_rates_of) (defBody s_rates_of) (defScope s_rates_of) .none kV24 dc24 pm24 an24 cd24 ct24), sl24⟩)
    (c24 : PySem.W.codeIn K cd24 "rates_of" = true)
    (k24 : PySem.W.keepIn K (.ref f24) = true)
    (a25 : PySem.W.nsIn K mainGlobals "cost" = some (some (.ref f25)))
    (l25 : K.lookup f25 = some ⟨oc25, od25, .func (PySem.W.fnOf "cost" "cost" (defArgs s_cost) (defBody s_cost) (defScope s_cost) .none (.ref KD25) dc25 pm25 an25 cd25 ct25), sl25⟩)
    (c25 : PySem.W.codeIn K cd25 "cost" = true)
    (k25 : PySem.W.keepIn K (.ref f25) = true)
    (lK25 : PySem.W.nsIn K KD25 "weights" = some (some .none))
    (a26 : PySem.W.nsIn K mainGlobals "_law_width" = some (some (.ref f26)))
    (l26 : K.lookup f26 = some ⟨oc26, od26, .func (PySem.W.fnOf "_law_width" "_law_width" (defArgs s_law_width) (defBody s_law_width) (defScope s_law_width) .none kV26 dc26 pm26 an26 cd26 ct26), sl26⟩)
    (c26 : PySem.W.codeIn K cd26 "_law_width" = true)
    (k26 : PySem.W.keepIn K (.ref f26) = true)
    (a27 : PySem.W.nsIn K mainGlobals "_law_price" = some (some (.ref f27)))
    (l27 : K.lookup f27 = some ⟨oc27, od27, .func (PySem.W.fnOf "_law_price" "_law_price" (defArgs s_law_price) (defBody s_law_price) (defScope s_law_price) .none kV27 dc27 pm27 an27 cd27 ct27), sl27⟩)
    (c27 : PySem.W.codeIn K cd27 "_law_price" = true)
    (k27 : PySem.W.keepIn K (.ref f27) = true)
    (a28 : PySem.W.nsIn K mainGlobals "_law_heavy" = some (some (.ref f28)))
    (l28 : K.lookup f28 = some ⟨oc28, od28, .func (PySem.W.fnOf "_law_heavy" "_law_heavy" (defArgs s_law_heavy) (defBody s_law_heavy) (defScope s_law_heavy) .none kV28 dc28 pm28 an28 cd28 ct28), sl28⟩)
    (c28 : PySem.W.codeIn K cd28 "_law_heavy" = true)
    (k28 : PySem.W.keepIn K (.ref f28) = true)
    (a29 : PySem.W.nsIn K mainGlobals "_law_error" = some (some (.ref f29)))
    (l29 : K.lookup f29 = some ⟨oc29, od29, .func (PySem.W.fnOf "_law_error" "_law_error" (defArgs s_law_error) (defBody s_law_error) (defScope s_law_error) .none kV29 dc29 pm29 an29 cd29 ct29), sl29⟩)
    (c29 : PySem.W.codeIn K cd29 "_law_error" = true)
    (k29 : PySem.W.keepIn K (.ref f29) = true)
    (a30 : PySem.W.nsIn K mainGlobals "law" = some (some (.ref f30)))
    (l30 : K.lookup f30 = some ⟨oc30, od30, .func (PySem.W.fnOf "law" "law" (defArgs s_law) (defBody s_law) (defScope s_law) .none kV30 dc30 pm30 an30 (.ref cc30) ct30), sl30⟩)
    (c30 : PySem.W.codeIn K (.ref cc30) "law" = true)
    (k30 : PySem.W.keepIn K (.ref f30) = true)
    (tl30 : K.lookup cc30 = some ⟨oc_30, od_30, .fields vs_30, sl_30⟩)
    (tb30 : (vs_30[11]? : Option Value) = some (.ref Pt30))
    (tn30 : K.lookup Pt30 = none)
    (td30 : ∃ d, (PyProof.Rows.recsOf q).find? (fun e => e.name == (PySem.Str.ofString "law")) = some d)
    (a31 : PySem.W.findIn K (.ref C) "size" = some (some (.ref f31)))
    (i31 : PySem.W.isFn K (.ref f31) = true)
    (l31 : K.lookup f31 = some ⟨oc31, od31, .func (PySem.W.fnOf "size" "Web.size" (defArgs s_m_size) (defBody s_m_size) (defScope s_m_size) .none kV31 dc31 pm31 an31 cd31 ct31), sl31⟩)
    (c31 : PySem.W.codeIn K cd31 "Web.size" = true)
    (k31 : PySem.W.keepIn K (.ref f31) = true)
    (a32 : PySem.W.findIn K (.ref C) "modulus" = some (some (.ref f32)))
    (i32 : PySem.W.isFn K (.ref f32) = true)
    (l32 : K.lookup f32 = some ⟨oc32, od32, .func (PySem.W.fnOf "modulus" "Web.modulus" (defArgs s_m_modulus) (defBody s_m_modulus) (defScope s_m_modulus) .none kV32 dc32 pm32 an32 cd32 ct32), sl32⟩)
    (c32 : PySem.W.codeIn K cd32 "Web.modulus" = true)
    (k32 : PySem.W.keepIn K (.ref f32) = true)
    (a0 : PySem.W.findIn K (.ref C) "__init__" = some (some (.ref f0)))
    (i0 : PySem.W.isFn K (.ref f0) = true)
    (l0 : K.lookup f0 = some ⟨oc0, od0, .func (PySem.W.fnOf "__init__" "Web.__init__" (defArgs s_m_init) (defBody s_m_init) (defScope s_m_init) (.ref TD) (.ref KD) dc0 pm0 an0 cd0 ct0), sl0⟩)
    (c0 : PySem.W.codeIn K cd0 "Web.__init__" = true)
    (k0 : PySem.W.keepIn K (.ref f0) = true)
    (lT : K.lookup TD = some ⟨ocT, odT, .seq #[.ref ET] nT, slT⟩)
    (lK : PySem.W.nsIn K KD "modulus" = some (some (.int 0 tk0)))
    (pg : PySem.W.plainGet K C Str.empty = true)
    (hd : PySem.W.hasDictIn K C = true)
    (po : PySem.W.plainOver K C = true)
    (sa : PySem.W.findIn K (.ref C) "__setattr__" = some (some (.builtin "object.__setattr__")))
    (mk : PySem.W.makesIn K C = true)
    (kc : PySem.W.keepIn K (.ref C) = true)
    (n1 : PySem.W.findIn K (.ref C) "node_count" = some none)
    (n2 : PySem.W.findIn K (.ref C) "edge_pairs" = some none)
    (n3 : PySem.W.findIn K (.ref C) "gain_modulus" = some none)
    (n4 : PySem.W.findIn K (.ref C) "forest_numbers" = some none)
    (n5 : PySem.W.findIn K (.ref C) "first_nodes" = some none)
    (n6 : PySem.W.findIn K (.ref C) "forest_ties" = some none)
    (xty : PySem.W.typeIn K (.ref fW_) = some (.type "function"))
    (xl : K.lookup fW_ = some ⟨ocW, odW, .func (PySem.W.fnOf "__init__" "WebError.__init__" (defArgs s_weberr) (defBody s_weberr) (defScope s_weberr) .none kVW dcW pmW anW cdW ctW), slW⟩)
    (xc : PySem.W.codeIn K cdW "WebError.__init__" = true)
    (xkf : PySem.W.keepIn K (.ref fW_) = true)
    (xaC0 : PySem.W.nsIn K mainGlobals "InvalidPotential" = some (some (.ref CW_InvalidPotential)))
    (xL0 : K.lookup CW_InvalidPotential = some (excClassObj xnm0 xq0 CW_InvalidPotential xN0 xbs0 [.ref CE_, .type "ValueError", .type "Exception", .type "BaseException", .type "object"] true xsn0 xsub0 xab0 xcol0 xdd0 xma0 xmb0 xmc0 xmd0 xme0 "ValueError.__new__"))
    (xsa0 : PySem.W.findIn K (.ref CW_InvalidPotential) "__setattr__" = some (some (.builtin "object.__setattr__")))
    (xga0 : PySem.W.findIn K (.ref CW_InvalidPotential) "__getattribute__" = some (some (.builtin "BaseException.__getattribute__")))
    (xgg0 : PySem.W.findIn K (.ref CW_InvalidPotential) "__getattr__" = some none)
    (xnf0 : PySem.W.findIn K (.ref CW_InvalidPotential) "value" = some none)
    (xin0 : PySem.W.findIn K (.ref CW_InvalidPotential) "__init__" = some (some (.ref fW_)))
    (xk0 : PySem.W.keepIn K (.ref CW_InvalidPotential) = true)
    (xe0 : PySem.W.subIn K (.ref CW_InvalidPotential) (.type "BaseException") = some true)
    (xt0 : PySem.W.typeIn K (.ref CW_InvalidPotential) = some (.type "type"))
    (xh0 : PySem.W.hasDictIn K CW_InvalidPotential = true)
    (xi0 : PySem.W.isClsIn K CW_InvalidPotential = true)
    (xaC1 : PySem.W.nsIn K mainGlobals "InvalidWeights" = some (some (.ref CW_InvalidWeights)))
    (xL1 : K.lookup CW_InvalidWeights = some (excClassObj xnm1 xq1 CW_InvalidWeights xN1 xbs1 [.ref CE_, .type "ValueError", .type "Exception", .type "BaseException", .type "object"] true xsn1 xsub1 xab1 xcol1 xdd1 xma1 xmb1 xmc1 xmd1 xme1 "ValueError.__new__"))
    (xsa1 : PySem.W.findIn K (.ref CW_InvalidWeights) "__setattr__" = some (some (.builtin "object.__setattr__")))
    (xga1 : PySem.W.findIn K (.ref CW_InvalidWeights) "__getattribute__" = some (some (.builtin "BaseException.__getattribute__")))
    (xgg1 : PySem.W.findIn K (.ref CW_InvalidWeights) "__getattr__" = some none)
    (xnf1 : PySem.W.findIn K (.ref CW_InvalidWeights) "value" = some none)
    (xin1 : PySem.W.findIn K (.ref CW_InvalidWeights) "__init__" = some (some (.ref fW_)))
    (xk1 : PySem.W.keepIn K (.ref CW_InvalidWeights) = true)
    (xe1 : PySem.W.subIn K (.ref CW_InvalidWeights) (.type "BaseException") = some true)
    (xt1 : PySem.W.typeIn K (.ref CW_InvalidWeights) = some (.type "type"))
    (xh1 : PySem.W.hasDictIn K CW_InvalidWeights = true)
    (xi1 : PySem.W.isClsIn K CW_InvalidWeights = true)
    (xs0_0 : PySem.W.subIn K (.ref CW_InvalidPotential) (.ref CW_InvalidPotential) = some true)
    (xs0_1 : PySem.W.subIn K (.ref CW_InvalidPotential) (.ref CW_InvalidWeights) = some false)
    (xs1_0 : PySem.W.subIn K (.ref CW_InvalidWeights) (.ref CW_InvalidPotential) = some false)
    (xs1_1 : PySem.W.subIn K (.ref CW_InvalidWeights) (.ref CW_InvalidWeights) = some true)
    (z_len : PySem.W.nsIn K mainGlobals "len" = some none)
    (z_range : PySem.W.nsIn K mainGlobals "range" = some none)
    (z_list : PySem.W.nsIn K mainGlobals "list" = some none)
    (z_min : PySem.W.nsIn K mainGlobals "min" = some none)
    (z_max : PySem.W.nsIn K mainGlobals "max" = some none)
    (z_enumerate : PySem.W.nsIn K mainGlobals "enumerate" = some none)
    (z_isinstance : PySem.W.nsIn K mainGlobals "isinstance" = some none)
    (z_int : PySem.W.nsIn K mainGlobals "int" = some none)
    (z_bool : PySem.W.nsIn K mainGlobals "bool" = some none)
    (z_tuple : PySem.W.nsIn K mainGlobals "tuple" = some none)
    (z_all : PySem.W.nsIn K mainGlobals "all" = some none)
    (z_zip : PySem.W.nsIn K mainGlobals "zip" = some none)
    (z_sum : PySem.W.nsIn K mainGlobals "sum" = some none)
    (z_abs : PySem.W.nsIn K mainGlobals "abs" = some none)
    (z_sorted : PySem.W.nsIn K mainGlobals "sorted" = some none)
    (z_dict : PySem.W.nsIn K mainGlobals "dict" = some none)
    (z_any : PySem.W.nsIn K mainGlobals "any" = some none)
    (z_str : PySem.W.nsIn K mainGlobals "str" = some none)
    (z_set : PySem.W.nsIn K mainGlobals "set" = some none)
    (z_repr : PySem.W.nsIn K mainGlobals "repr" = some none)
    (q1 : PySem.W.nsIn K mainGlobals "MOST_NODES" = some (some (.int 30 t1)))
    (q2 : PySem.W.nsIn K mainGlobals "MOST_EDGES" = some (some (.int 60 t2)))
    (q3 : PySem.W.nsIn K mainGlobals "LEAST_MODULUS" = some (some (.int 2 t3)))
    (q4 : PySem.W.nsIn K mainGlobals "MOST_MODULUS" = some (some (.int 60 t4))) :
    Gd.QuietAt l w K CX0 10 63 "_law_script" mg fa h := by
  have G := TP.g
  have e := hfa.symm.trans (PySem.W.mg_of X G a30)
  cases e
  have F1 := fun_mk (st := s_is_integer) l1 c1 k1
  have b1 := F1.binds (ps := ["thing"]) fun _ _ _ _ _ _ us hl => match us, hl with | [_], _ => rfl
  have F2 := fun_mk (st := s_is_between) l2 c2 k2
  have b2 := F2.binds (ps := ["thing", "low", "high"]) fun _ _ _ _ _ _ us hl => match us, hl with | [_, _, _], _ => rfl
  have F3 := fun_mk (st := s_is_modulus) l3 c3 k3
  have b3 := F3.binds (ps := ["thing"]) fun _ _ _ _ _ _ us hl => match us, hl with | [_], _ => rfl
  have F4 := fun_mk (st := s_is_edge) l4 c4 k4
  have b4 := F4.binds (ps := ["size", "thing"]) fun _ _ _ _ _ _ us hl => match us, hl with | [_, _], _ => rfl
  have F5 := fun_mk (st := s_check_edges) l5 c5 k5
  have b5 := F5.binds (ps := ["size", "edges"]) fun _ _ _ _ _ _ us hl => match us, hl with | [_, _], _ => rfl
  have F6 := fun_mk (st := s_grown_forest) l6 c6 k6
  have b6 := F6.binds (ps := ["size", "pairs"]) fun _ _ _ _ _ _ us hl => match us, hl with | [_, _], _ => rfl
  have F7 := fun_mk (st := s_law_pool) l7 c7 k7
  have b7 := F7.binds (ps := ["_law_script", "_law_k"]) fun _ _ _ _ _ _ us hl => match us, hl with | [_, _], _ => rfl
  have F8 := fun_mk (st := s_law_take) l8 c8 k8
  have b8 := F8.binds (ps := ["_law_pool_here", "_law_sides"]) fun _ _ _ _ _ _ us hl => match us, hl with | [_, _], _ => rfl
  have F9 := fun_mk (st := s_law_modulus) l9 c9 k9
  have b9 := F9.binds (ps := ["_law_pool_here"]) fun _ _ _ _ _ _ us hl => match us, hl with | [_], _ => rfl
  have F10 := fun_mk (st := s_law_links) l10 c10 k10
  have b10 := F10.binds (ps := ["_law_pool_here", "_law_nodes", "_law_most"]) fun _ _ _ _ _ _ us hl => match us, hl with | [_, _, _], _ => rfl
  have F11 := fun_mk (st := s_residue) l11 c11 k11
  have b11 := F11.binds (ps := ["web", "number"]) fun _ _ _ _ _ _ us hl => match us, hl with | [_, _], _ => rfl
  have F12 := fun_mk (st := s_is_residue) l12 c12 k12
  have b12 := F12.binds (ps := ["web", "thing"]) fun _ _ _ _ _ _ us hl => match us, hl with | [_, _], _ => rfl
  have F13 := fun_mk (st := s_are_residues) l13 c13 k13
  have b13 := F13.binds (ps := ["web", "thing", "count"]) fun _ _ _ _ _ _ us hl => match us, hl with | [_, _, _], _ => rfl
  have F14 := fun_mk (st := s_is_potential) l14 c14 k14
  have b14 := F14.binds (ps := ["web", "thing"]) fun _ _ _ _ _ _ us hl => match us, hl with | [_, _], _ => rfl
  have F15 := fun_mk (st := s_size_of) l15 c15 k15
  have b15 := F15.binds (ps := ["web", "number"]) fun _ _ _ _ _ _ us hl => match us, hl with | [_, _], _ => rfl
  have F16 := fun_mk (st := s_check_potential) l16 c16 k16
  have b16 := F16.binds (ps := ["web", "potential"]) fun _ _ _ _ _ _ us hl => match us, hl with | [_, _], _ => rfl
  have F17 := fun_mk (st := s_ties_of) l17 c17 k17
  have b17 := F17.binds (ps := ["size", "pairs", "numbers"]) fun _ _ _ _ _ _ us hl => match us, hl with | [_, _, _], _ => rfl
  have F18 := fun_mk (st := s_law_low) l18 c18 k18
  have b18 := F18.binds (ps := ["_law_number_here", "_law_dial"]) fun _ _ _ _ _ _ us hl => match us, hl with | [_, _], _ => rfl
  have F19 := fun_mk (st := s_law_number) l19 c19 k19
  have b19 := F19.binds (ps := ["_law_pool_here", "_law_dial"]) fun _ _ _ _ _ _ us hl => match us, hl with | [_, _], _ => rfl
  have F20 := fun_mk (st := s_law_numbers) l20 c20 k20
  have b20 := F20.binds (ps := ["_law_pool_here", "_law_dial", "_law_count"]) fun _ _ _ _ _ _ us hl => match us, hl with | [_, _, _], _ => rfl
  have F21 := fun_mk (st := s_negated) l21 c21 k21
  have b21 := F21.binds (ps := ["web", "potential"]) fun _ _ _ _ _ _ us hl => match us, hl with | [_, _], _ => rfl
  have F22 := fun_mk (st := s_is_weights) l22 c22 k22
  have b22 := F22.binds (ps := ["web", "thing"]) fun _ _ _ _ _ _ us hl => match us, hl with | [_, _], _ => rfl
  have F23 := fun_mk (st := s_check_weights) l23 c23 k23
  have b23 := F23.binds (ps := ["web", "weights"]) fun _ _ _ _ _ _ us hl => match us, hl with | [_, _], _ => rfl
  have F24 := fun_mk (st := s_rates_of) l24 c24 k24
  have b24 := F24.binds (ps := ["web", "weights"]) fun _ _ _ _ _ _ us hl => match us, hl with | [_, _], _ => rfl
  have F25 : FunD K "cost" "cost" (defArgs s_cost) (defBody s_cost) (defScope s_cost) [] [("weights", .non)] f25 _ :=
    ⟨⟨_, _, _, _, _, _, _, _, _, _, rfl, l25, c25, .inl ⟨rfl, rfl⟩, .inr ⟨KD25, rfl, fun q hq => by
      have e : q = (("weights" : Str), V.non) := by simpa using hq
      subst e
      exact ⟨_, lK25, rfl⟩⟩⟩, k25⟩
  obtain ⟨ds25, v25, b25⟩ := F25.binds0 (ps := ["web", "potential", "weights"]) 2 (by simp) rfl (fun D doc pm an cdv ct us ks h1 h2 => match us, h1, ks, h2 with | [_, _], _, [_], _ => ⟨_, _, _, _, _, _, rfl, rfl, rfl⟩)
  obtain ⟨_, kb25⟩ := F25.kbinds0 (ps := ["web", "potential", "weights"]) 2 ["weights"] [] (fun us _ ws => us ++ ws) (by simp) (by simp) (fun r _ r2 => r.append r2) (fun D doc pm an cdv ct us mv ws h1 h2 h3 => match us, h1, mv, h2, ws, h3 with | [_, _], _, [], _, [_], _ => rfl)
  have F26 := fun_mk (st := s_law_width) l26 c26 k26
  have b26 := F26.binds (ps := ["_law_number_here", "_law_dial"]) fun _ _ _ _ _ _ us hl => match us, hl with | [_, _], _ => rfl
  have F27 := fun_mk (st := s_law_price) l27 c27 k27
  have b27 := F27.binds (ps := ["_law_levels", "_law_dial", "_law_heavy_here"]) fun _ _ _ _ _ _ us hl => match us, hl with | [_, _, _], _ => rfl
  have F28 := fun_mk (st := s_law_heavy) l28 c28 k28
  have b28 := F28.binds (ps := ["_law_pool_here", "_law_nodes"]) fun _ _ _ _ _ _ us hl => match us, hl with | [_, _], _ => rfl
  have F29 := fun_mk (st := s_law_error) l29 c29 k29
  have b29 := F29.binds (ps := ["_law_door"]) fun _ _ _ _ _ _ us hl => match us, hl with | [_], _ => rfl
  have F30 := fun_mk (st := s_law) l30 c30 k30
  have FC30 := func_mk (st := s_law) l30 c30
  have b30 := F30.binds (ps := ["_law_script"]) fun _ _ _ _ _ _ us hl => match us, hl with | [_], _ => rfl
  have F31 := fun_mk (st := s_m_size) l31 c31 k31
  have b31 := F31.binds (ps := ["self"]) fun _ _ _ _ _ _ us hl => match us, hl with | [_], _ => rfl
  have F32 := fun_mk (st := s_m_modulus) l32 c32 k32
  have b32 := F32.binds (ps := ["self"]) fun _ _ _ _ _ _ us hl => match us, hl with | [_], _ => rfl
  have B : Bn mg := ⟨PySem.W.mg_none_of X G z_len, PySem.W.mg_none_of X G z_range, PySem.W.mg_none_of X G z_list, PySem.W.mg_none_of X G z_min, PySem.W.mg_none_of X G z_max, PySem.W.mg_none_of X G z_enumerate, PySem.W.mg_none_of X G z_isinstance, PySem.W.mg_none_of X G z_int, PySem.W.mg_none_of X G z_bool, PySem.W.mg_none_of X G z_tuple, PySem.W.mg_none_of X G z_all, PySem.W.mg_none_of X G z_zip, PySem.W.mg_none_of X G z_sum, PySem.W.mg_none_of X G z_abs, PySem.W.mg_none_of X G z_sorted, PySem.W.mg_none_of X G z_dict, PySem.W.mg_none_of X G z_any, PySem.W.mg_none_of X G z_str, PySem.W.mg_none_of X G z_set, PySem.W.mg_none_of X G z_repr⟩
  have Cc : Cs mg := ⟨⟨_, PySem.W.mg_of X G q1⟩, ⟨_, PySem.W.mg_of X G q2⟩, ⟨_, PySem.W.mg_of X G q3⟩, ⟨_, PySem.W.mg_of X G q4⟩⟩
  have T : Txt K mg C := ⟨⟨pg, hd, po, sa⟩, n1, n2, n3, n4, n5, n6, PySem.W.mg_of X G aC⟩
  have FW := fun_mk (st := s_weberr) xl xc xkf
  have bW := FW.binds (ps := ["self", "value"]) fun _ _ _ _ _ _ us hl => match us, hl with | [_, _], _ => rfl
  have XE_InvalidPotential : ExW K mg "InvalidPotential" CW_InvalidPotential fW_ := ⟨⟨⟨_, _, _, _, _, _, _, _, _, _, _, _, _, _, _, xL0, by show PySem.HandSPX.refsVE [.type "ValueError", .type "Exception", .type "BaseException", .type "object"] = true; decide +kernel⟩, xsa0, xe0, xt0, xk0⟩, xnf0, xin0, xty, PySem.W.mg_of X G xaC0, ⟨xga0, xgg0, xe0, xh0⟩⟩
  have XE_InvalidWeights : ExW K mg "InvalidWeights" CW_InvalidWeights fW_ := ⟨⟨⟨_, _, _, _, _, _, _, _, _, _, _, _, _, _, _, xL1, by show PySem.HandSPX.refsVE [.type "ValueError", .type "Exception", .type "BaseException", .type "object"] = true; decide +kernel⟩, xsa1, xe1, xt1, xk1⟩, xnf1, xin1, xty, PySem.W.mg_of X G xaC1, ⟨xga1, xgg1, xe1, xh1⟩⟩
  have EM_ : Lm.ExmOk K [CW_InvalidPotential, CW_InvalidWeights] := fun i j a b h1 h2 => by
    match i, j, h1, h2 with
    | 0, 0, h1, h2 => cases h1; cases h2; exact exm_two xe0 xi0 xt0 xs0_0
    | 0, 1, h1, h2 => cases h1; cases h2; exact exm_two xe1 xi1 xt1 xs0_1
    | 1, 0, h1, h2 => cases h1; cases h2; exact exm_two xe0 xi0 xt0 xs1_0
    | 1, 1, h1, h2 => cases h1; cases h2; exact exm_two xe1 xi1 xt1 xs1_1
    | i + 2, _, h1, _ => simp at h1
    | _, j + 2, _, h2 => simp at h2
  obtain ⟨rd30, td30⟩ := td30
  have tt30 := PySem.W.tab_of TP X td30 (tab_mk a30 l30 tl30 tb30)
  refine ⟨PySem.W.fnOf "law" "law" (defArgs s_law) (defBody s_law) (defScope s_law) .none kV30 dc30 pm30 an30 (.ref cc30) ct30, [(cc30, Pt30)], (spLawT K [(Pt30, lamQ "law")]), fun s v => .of_eq rfl, fun p hp => ?_, fun H a ns tab reads hl => ⟨a, ns, rfl, reads, hl, fun p hp => ?_, fun _ => rfl⟩, fun base _ _ TB => ?_⟩
  · simp only [List.mem_cons, List.not_mem_nil, or_false] at hp
    rcases hp with rfl
    all_goals first | exact ⟨tt30.1, tn30, tt30.2⟩
  · simp only [List.mem_cons, List.not_mem_nil, or_false] at hp
    rcases hp with rfl
    all_goals first | exact LamX.TabS.nil (tab (cc30, Pt30) (by simp))
  have WE_ : WeD l.prog w K mg base fW_ := ⟨_, ok_weberr FW, bW⟩
  have F0 : FunD K "__init__" "Web.__init__" (defArgs s_m_init) (defBody s_m_init) (defScope s_m_init) [.ref ET] [("modulus", .int 0)] f0 _ :=
    ⟨⟨_, _, _, _, _, _, _, _, _, _, rfl, l0, c0, .inr ⟨by simp, TD, _, [.ref ET], nT, rfl, lT, rfl, .cons rfl .nil⟩, .inr ⟨KD, rfl, fun q hq => by
      have e : q = (("modulus" : Str), V.int 0) := by simpa using hq
      subst e
      exact ⟨_, lK, ⟨_, rfl⟩⟩⟩⟩, k0⟩
  obtain ⟨_, _, hb⟩ := F0.kbinds (ps := ["self", "size", "edges", "modulus"]) 3 ["modulus"] [] (fun us _ _ ws => us ++ ws) (by simp) (by simp) (fun q hq => by simp at hq) (fun r _ _ r2 => r.append r2)
    (fun T D doc pm an cdv ct us its mv ws h1 h2 h3 h4 => match us, h1, its, h2, ws, h4 with | [_, _, _], _, [_], _, [_], _ => ⟨_, rfl, rfl⟩)
  have D_is_integer : Df l.prog w K mg base 1 "is_integer" ["thing"] (spInt K) := by
    exact ⟨_, _, ok_isint F1 B, PySem.W.mg_of X G a1, k1, b1⟩
  have D_is_between : Df l.prog w K mg base 2 "is_between" ["thing", "low", "high"] (spBetween K) := by
    obtain ⟨g, gd, G1, m1, k1', b1'⟩ := D_is_integer.ex
    exact ⟨_, _, ok_between F2 G1 m1 k1' b1', PySem.W.mg_of X G a2, k2, b2⟩
  have D_is_modulus : Df l.prog w K mg base 2 "is_modulus" ["thing"] (spIsMod K) := by
    exact ⟨_, _, ok_ismod F3 Cc D_is_integer, PySem.W.mg_of X G a3, k3, b3⟩
  have D_is_edge : Df l.prog w K mg base 3 "is_edge" ["size", "thing"] (spIsEdge K) := by
    exact ⟨_, _, ok_isedge F4 B D_is_between, PySem.W.mg_of X G a4, k4, b4⟩
  have D_check_edges : Df l.prog w K mg base 4 "check_edges" ["size", "edges"] (spCheck K) := by
    exact ⟨_, _, ok_check F5 B Cc D_is_edge, PySem.W.mg_of X G a5, k5, b5⟩
  have D_grown_forest : Df l.prog w K mg base 1 "grown_forest" ["size", "pairs"] spGrown := by
    exact ⟨_, _, ok_grown F6 B, PySem.W.mg_of X G a6, k6, b6⟩
  have D_law_pool : Df l.prog w K mg base 1 "_law_pool" ["_law_script", "_law_k"] (spPool K) := by
    exact ⟨_, _, ok_pool F7 B, PySem.W.mg_of X G a7, k7, b7⟩
  have D_law_take : Df l.prog w K mg base 1 "_law_take" ["_law_pool_here", "_law_sides"] spTake := by
    exact ⟨_, _, ok_take F8, PySem.W.mg_of X G a8, k8, b8⟩
  have D_law_modulus : Df l.prog w K mg base 2 "_law_modulus" ["_law_pool_here"] spModulus := by
    obtain ⟨g, gd, G1, m1, k1', b1'⟩ := D_law_take.ex
    exact ⟨_, _, ok_modulus F9 G1 m1 k1' b1', PySem.W.mg_of X G a9, k9, b9⟩
  have D_law_links : Df l.prog w K mg base 2 "_law_links" ["_law_pool_here", "_law_nodes", "_law_most"] spLinks := by
    obtain ⟨g, gd, G1, m1, k1', b1'⟩ := D_law_take.ex
    exact ⟨_, _, ok_links F10 B G1 m1 k1' b1', PySem.W.mg_of X G a10, k10, b10⟩
  have D_m_size : Md l.prog w K mg base C 1 "size" ["self"] (spSize C) := ⟨_, _, ok_m_size F31 B T , ⟨a31, i31, k31⟩, b31⟩
  have D_m_modulus : Md l.prog w K mg base C 1 "modulus" ["self"] (spMod C) := ⟨_, _, ok_m_modulus F32 B T , ⟨a32, i32, k32⟩, b32⟩
  have D_residue : Df l.prog w K mg base 2 "residue" ["web", "number"] (spResidue C) := ⟨_, _, ok_residue F11 B T D_is_integer D_m_modulus, PySem.W.mg_of X G a11, k11, b11⟩
  have D_is_residue : Df l.prog w K mg base 3 "is_residue" ["web", "thing"] (spIsResidue C) := ⟨_, _, ok_is_residue F12 B T D_residue D_is_integer, PySem.W.mg_of X G a12, k12, b12⟩
  have D_are_residues : Df l.prog w K mg base 4 "are_residues" ["web", "thing", "count"] (spAreResidues C) := ⟨_, _, ok_are_residues F13 B T D_is_residue, PySem.W.mg_of X G a13, k13, b13⟩
  have D_is_potential : Df l.prog w K mg base 5 "is_potential" ["web", "thing"] (spIsPotential C) := ⟨_, _, ok_is_potential F14 B T D_are_residues D_m_size, PySem.W.mg_of X G a14, k14, b14⟩
  have D_size_of : Df l.prog w K mg base 3 "size_of" ["web", "number"] (spSizeOf C) := ⟨_, _, ok_size_of F15 B T D_residue D_m_modulus, PySem.W.mg_of X G a15, k15, b15⟩
  have D_check_potential : Df l.prog w K mg base 6 "check_potential" ["web", "potential"] (spCheckPot C) := ⟨_, _, ok_check_potential F16 B T D_is_potential, PySem.W.mg_of X G a16, k16, b16⟩
  have D_check_potentialX : DfX l.prog w K mg base 6 "check_potential" ["web", "potential"] (spCheckPotX C CW_InvalidPotential) := ⟨_, _, ok_check_potentialX F16 B T D_is_potential XE_InvalidPotential WE_, PySem.W.mg_of X G a16, k16, b16⟩
  have D_ties_of : Df l.prog w K mg base 1 "ties_of" ["size", "pairs", "numbers"] spTies := ⟨_, _, ok_ties_of F17 B T , PySem.W.mg_of X G a17, k17, b17⟩
  have GI := ok_m_init (P := l.prog) (w := w) (base := base) F0 B T ⟨_, PySem.W.mg_of X G q1⟩ D_is_between D_check_edges D_is_modulus D_grown_forest D_ties_of
  have D_law_low : Df l.prog w K mg base 1 "_law_low" ["_law_number_here", "_law_dial"] spLow := ⟨_, _, ok_law_low F18 B T , PySem.W.mg_of X G a18, k18, b18⟩
  have D_law_number : Df l.prog w K mg base 2 "_law_number" ["_law_pool_here", "_law_dial"] spNumber := ⟨_, _, ok_law_number F19 B T D_law_take, PySem.W.mg_of X G a19, k19, b19⟩
  have D_law_numbers : Df l.prog w K mg base 3 "_law_numbers" ["_law_pool_here", "_law_dial", "_law_count"] spNumbers := ⟨_, _, ok_law_numbers F20 B T D_law_number, PySem.W.mg_of X G a20, k20, b20⟩
  have D_negated : Df l.prog w K mg base 7 "negated" ["web", "potential"] (spNegated C) := ⟨_, _, ok_negated F21 B T D_check_potential D_residue, PySem.W.mg_of X G a21, k21, b21⟩
  have D_is_weights : Df l.prog w K mg base 2 "is_weights" ["web", "thing"] (spIsWeights C) := ⟨_, _, ok_is_weights F22 B T D_m_size D_is_integer, PySem.W.mg_of X G a22, k22, b22⟩
  have D_check_weights : Df l.prog w K mg base 3 "check_weights" ["web", "weights"] (spWtOk C) := ⟨_, _, ok_check_weights F23 B T D_is_weights, PySem.W.mg_of X G a23, k23, b23⟩
  have D_check_weightsX : DfX l.prog w K mg base 3 "check_weights" ["web", "weights"] (spCheckWt C CW_InvalidWeights) := ⟨_, _, ok_check_weightsX F23 B T D_is_weights XE_InvalidWeights WE_, PySem.W.mg_of X G a23, k23, b23⟩
  have D_rates_of : Df l.prog w K mg base 2 "rates_of" ["web", "weights"] (spRates C) := ⟨_, _, ok_rates_of F24 B T D_m_size, PySem.W.mg_of X G a24, k24, b24⟩
  have D_cost : DfN CX0 l.prog w K mg base 7 "cost" "weights" ["web", "potential", "weights"] (spCostF C) := ⟨_, _, ds25, ok_cost F25 B T D_check_potential D_check_weights D_rates_of D_size_of, PySem.W.mg_of X G a25, k25, b25, v25, kb25⟩
  have D_costX : DfN (L2.CX l.prog w) l.prog w K mg base 7 "cost" "weights" ["web", "potential", "weights"] (spCostX C CW_InvalidPotential CW_InvalidWeights) := ⟨_, _, ds25, ok_costX F25 B T D_check_potentialX D_check_weightsX, PySem.W.mg_of X G a25, k25, b25, v25, kb25⟩
  have D_law_width : Df l.prog w K mg base 2 "_law_width" ["_law_number_here", "_law_dial"] spWidth := ⟨_, _, ok_law_width F26 B T D_law_low, PySem.W.mg_of X G a26, k26, b26⟩
  have D_law_price : Df l.prog w K mg base 3 "_law_price" ["_law_levels", "_law_dial", "_law_heavy_here"] spPrice := ⟨_, _, ok_law_price F27 B T D_law_width, PySem.W.mg_of X G a27, k27, b27⟩
  have D_law_heavy : Df l.prog w K mg base 2 "_law_heavy" ["_law_pool_here", "_law_nodes"] spHeavy := ⟨_, _, ok_law_heavy F28 B T D_law_take, PySem.W.mg_of X G a28, k28, b28⟩
  exact ok_law FC30 B T D_law_pool D_law_take D_law_modulus D_law_links D_law_heavy D_law_numbers D_law_price D_cost D_negated D_costX ⟨mk, a0, i0, kc⟩ GI hb XE_InvalidPotential XE_InvalidWeights ⟨_, _, _, _, _, _, _, _, _, _, PySem.W.mg_of X G a29, k29, l29, c29, b29⟩ EM_ (TB (cc30, Pt30) (by simp))
theorem walk {l : PySem.W.OpenLaw} {q : Program} {loose : List Str} {XP : (Str → Option Value) → Heap → Prop} {YP : World → Heap → Prop} {d : DefRec} {K : Params → PySem.W.Frag} (hn : l.most = some 63) (hdf : d.params.defaults = []) (hname : d.name = "law")
    (hY : ∀ (w : World) (h : Heap), YP w h → (K w.params).In h)
    (F : ∀ (w : World) (mg mb : Str → Option Value) (fa : Addr) (h : Heap) (mean : ExcName → Option Value), (K w.params).In h → PyProof.Rows.Top q (PySem.W.looseW q loose) mean mg mb h → mg d.name = some (.ref fa) → Gd.QuietAt l w (K w.params) CX0 10 63 "_law_script" mg fa h) :
    PySem.W.WalkO q loose XP YP l.row.toRowW d [] (fun f vs => PySem.call f vs) :=
  Gd.walk_quietT2 (n := 63) (k := 10) (x := "_law_script") (CX := fun _ => CX0) hn (by decide) hdf ⟨rfl, by decide, by decide⟩ hY (fun w mg mb fa h _ KX ⟨mean, TP⟩ hm => F w mg mb fa h mean KX TP hm) fun _ _ _ _ _ z => z
end Wb
open PySem PySem.W PyProof.Rows
set_option maxRecDepth 100000 in
set_option maxHeartbeats 0 in
theorem PySem.Challenge.cw_turnedties_k21_costs_told_holds : PySem.Challenge.rw_turnedties_k21_costs_told.Holds := by
  w_on; o_law; k_head; (case hw => w_witness2)
  k_fill
  refine Wb.walk (l := PySem.Challenge.rw_turnedties_k21_costs_told) rfl rfl rfl (fun w h Y => PySem.W.km_in_of Y) ?F
  case F =>
    intro w mg mb fa h mean KX TP hmg
    refine' Wb.all_mk KX TP hmg ?aC ?a1 ?l1 ?c1 ?k1 ?a2 ?l2 ?c2 ?k2 ?a3 ?l3 ?c3 ?k3 ?a4 ?l4 ?c4 ?k4 ?a5 ?l5 ?c5 ?k5 ?a6 ?l6 ?c6 ?k6 ?a7 ?l7 ?c7 ?k7 ?a8 ?l8 ?c8 ?k8 ?a9 ?l9 ?c9 ?k9 ?a10 ?l10 ?c10 ?k10 ?a11 ?l11 ?c11 ?k11 ?a12 ?l12 ?c12 ?k12 ?a13 ?l13 ?c13 ?k13 ?a14 ?l14 ?c14 ?k14 ?a15 ?l15 ?c15 ?k15 ?a16 ?l16 ?c16 ?k16 ?a17 ?l17 ?c17 ?k17 ?a18 ?l18 ?c18 ?k18 ?a19 ?l19 ?c19 ?k19 ?a20 ?l20 ?c20 ?k20 ?a21 ?l21 ?c21 ?k21 ?a22 ?l22 ?c22 ?k22 ?a23 ?l23 ?c23 ?k23 ?a24 ?l24 ?c24 ?k24 ?a25 ?l25 ?c25 ?k25 ?lK25 ?a26 ?l26 ?c26 ?k26 ?a27 ?l27 ?c27 ?k27 ?a28 ?l28 ?c28 ?k28 ?a29 ?l29 ?c29 ?k29 ?a30 ?l30 ?c30 ?k30 ?tl30 ?tb30 ?tn30 ?td30 ?a31 ?i31 ?l31 ?c31 ?k31 ?a32 ?i32 ?l32 ?c32 ?k32 ?a0 ?i0 ?l0 ?c0 ?k0 ?lT ?lK ?pg ?hd ?po ?sa ?mk ?kc ?n1 ?n2 ?n3 ?n4 ?n5 ?n6 ?xty ?xl ?xc ?xkf ?xaC0 ?xL0 ?xsa0 ?xga0 ?xgg0 ?xnf0 ?xin0 ?xk0 ?xe0 ?xt0 ?xh0 ?xi0 ?xaC1 ?xL1 ?xsa1 ?xga1 ?xgg1 ?xnf1 ?xin1 ?xk1 ?xe1 ?xt1 ?xh1 ?xi1 ?xs0_0 ?xs0_1 ?xs1_0 ?xs1_1 ?z_len ?z_range ?z_list ?z_min ?z_max ?z_enumerate ?z_isinstance ?z_int ?z_bool ?z_tuple ?z_all ?z_zip ?z_sum ?z_abs ?z_sorted ?z_dict ?z_any ?z_str ?z_set ?z_repr ?q1 ?q2 ?q3 ?q4
    (case aC => k_is)
    (case a1 => k_is)
    (case l1 => k_is)
    (case c1 => k_is)
    (case k1 => k_is)
    (case a2 => k_is)
    (case l2 => k_is)
    (case c2 => k_is)
    (case k2 => k_is)
    (case a3 => k_is)
    (case l3 => k_is)
    (case c3 => k_is)
    (case k3 => k_is)
    (case a4 => k_is)
    (case l4 => k_is)
    (case c4 => k_is)
    (case k4 => k_is)
    (case a5 => k_is)
    (case l5 => k_is)
    (case c5 => k_is)
    (case k5 => k_is)
    (case a6 => k_is)
    (case l6 => k_is)
    (case c6 => k_is)
    (case k6 => k_is)
    (case a7 => k_is)
    (case l7 => k_is)
    (case c7 => k_is)
    (case k7 => k_is)
    (case a8 => k_is)
    (case l8 => k_is)
    (case c8 => k_is)
    (case k8 => k_is)
    (case a9 => k_is)
    (case l9 => k_is)
    (case c9 => k_is)
    (case k9 => k_is)
    (case a10 => k_is)
    (case l10 => k_is)
    (case c10 => k_is)
    (case k10 => k_is)
    (case a11 => k_is)
    (case l11 => k_is)
    (case c11 => k_is)
    (case k11 => k_is)
    (case a12 => k_is)
    (case l12 => k_is)
    (case c12 => k_is)
    (case k12 => k_is)
    (case a13 => k_is)
    (case l13 => k_is)
    (case c13 => k_is)
    (case k13 => k_is)
    (case a14 => k_is)
    (case l14 => k_is)
    (case c14 => k_is)
    (case k14 => k_is)
    (case a15 => k_is)
    (case l15 => k_is)
    (case c15 => k_is)
    (case k15 => k_is)
    (case a16 => k_is)
    (case l16 => k_is)
    (case c16 => k_is)
    (case k16 => k_is)
    (case a17 => k_is)
    (case l17 => k_is)
    (case c17 => k_is)
    (case k17 => k_is)
    (case a18 => k_is)
    (case l18 => k_is)
    (case c18 => k_is)
    (case k18 => k_is)
    (case a19 => k_is)
    (case l19 => k_is)
    (case c19 => k_is)
    (case k19 => k_is)
    (case a20 => k_is)
    (case l20 => k_is)
    (case c20 => k_is)
    (case k20 => k_is)
    (case a21 => k_is)
    (case l21 => k_is)
    (case c21 => k_is)
    (case k21 => k_is)
    (case a22 => k_is)
    (case l22 => k_is)
    (case c22 => k_is)
    (case k22 => k_is)
    (case a23 => k_is)
    (case l23 => k_is)
    (case c23 => k_is)
    (case k23 => k_is)
    (case a24 => k_is)
    (case l24 => k_is)
    (case c24 => k_is)
    (case k24 => k_is)
    (case a25 => k_is)
    (case l25 => k_is)
    (case c25 => k_is)
    (case k25 => k_is)
    (case lK25 => k_is)
    (case a26 => k_is)
    (case l26 => k_is)
    (case c26 => k_is)
    (case k26 => k_is)
    (case a27 => k_is)
    (case l27 => k_is)
    (case c27 => k_is)
    (case k27 => k_is)
    (case a28 => k_is)
    (case l28 => k_is)
    (case c28 => k_is)
    (case k28 => k_is)
    (case a29 => k_is)
    (case l29 => k_is)
    (case c29 => k_is)
    (case k29 => k_is)
    (case a30 => k_is)
    (case l30 => k_is)
    (case c30 => k_is)
    (case k30 => k_is)
    (case tl30 => k_is)
    (case tb30 => rfl)
    (case tn30 => first | k_is | rfl | decide)
    (case td30 => exact ⟨_, rfl⟩)
    (case a31 => k_is)
    (case i31 => k_is)
    (case l31 => k_is)
    (case c31 => k_is)
    (case k31 => k_is)
    (case a32 => k_is)
    (case i32 => k_is)
    (case l32 => k_is)
    (case c32 => k_is)
    (case k32 => k_is)
    (case a0 => k_is)
    (case i0 => k_is)
    (case l0 => k_is)
    (case c0 => k_is)
    (case k0 => k_is)
    (case lT => k_is)
    (case lK => k_is)
    (case pg => k_is)
    (case hd => k_is)
    (case po => k_is)
    (case sa => k_is)
    (case mk => k_is)
    (case kc => k_is)
    (case n1 => k_is)
    (case n2 => k_is)
    (case n3 => k_is)
    (case n4 => k_is)
    (case n5 => k_is)
    (case n6 => k_is)
    (case xaC0 => k_is)
    (case xL0 => k_is)
    (case xsa0 => k_is)
    (case xga0 => k_is)
    (case xgg0 => k_is)
    (case xnf0 => k_is)
    (case xin0 => k_is)
    (case xk0 => k_is)
    (case xe0 => k_is)
    (case xt0 => k_is)
    (case xh0 => k_is)
    (case xi0 => k_is)
    (case xaC1 => k_is)
    (case xL1 => k_is)
    (case xsa1 => k_is)
    (case xga1 => k_is)
    (case xgg1 => k_is)
    (case xnf1 => k_is)
    (case xin1 => k_is)
    (case xk1 => k_is)
    (case xe1 => k_is)
    (case xt1 => k_is)
    (case xh1 => k_is)
    (case xi1 => k_is)
    (case xs0_0 => k_is)
    (case xs0_1 => k_is)
    (case xs1_0 => k_is)
    (case xs1_1 => k_is)
    (case z_len => k_is)
    (case z_range => k_is)
    (case z_list => k_is)
    (case z_min => k_is)
    (case z_max => k_is)
    (case z_enumerate => k_is)
    (case z_isinstance => k_is)
    (case z_int => k_is)
    (case z_bool => k_is)
    (case z_tuple => k_is)
    (case z_all => k_is)
    (case z_zip => k_is)
    (case z_sum => k_is)
    (case z_abs => k_is)
    (case z_sorted => k_is)
    (case z_dict => k_is)
    (case z_any => k_is)
    (case z_str => k_is)
    (case z_set => k_is)
    (case z_repr => k_is)
    (case q1 => k_is)
    (case q2 => k_is)
    (case q3 => k_is)
    (case q4 => k_is)
    (case xty => k_is)
    (case xl => k_is)
    (case xc => k_is)
    (case xkf => k_is)
