import PyProof.Rows.All
import Wide.All
import OpenK.AllK
import Wide.FinOn
import HandS.ForMost
import HandS.Walk
import HandS.Wide
import HandS.IsInst
import HandS.TupAny
import HandS.Flt
import HandS.Zip
import HandS.Defaults
import HandS.Ends
import HandS.HeadEnd
import HandS.TryOnly
import HandS.RaiseMore
import KE.GoesMore
import PyProof.ReprRoads
import PyProof.ReprLen
import PyProof.Rows.RegStrFacts
import HandS.SortInts
import HandS.Sort
import KE.KSortTupUse
import KE.KStateDown
import Lean
import HandS.Words
import HandS.WordsExc
import HandS.Head0
import HandS.Head1
import HandS.Head2
import HandS.HeadHook1
import HandS.HeadHook2
import PySem.Challenge.RW_tubewords_k01_webs_judged
set_option Elab.async false
set_option maxRecDepth 100000
set_option linter.all false
set_option autoImplicit false
/-! A layer over plain data: values are PyData, the heap is split into what stays as it is (F) and the lists that one name alone owns. -/
namespace Dl
open PySem L2

abbrev Px := PyData
def Le (F G : Hp) : Prop := ∀ a o, F a = some o → G a = some o
theorem Le.refl (F : Hp) : Le F F := fun _ _ h => h
theorem Le.trans {F G I : Hp} (h : Le F G) (k : Le G I) : Le F I := fun a o e => k a o (h a o e)
theorem Le.nn {F G : Hp} (h : Le F G) {a : Addr} (e : G a = none) : F a = none := by
  cases q : F a with
  | none => rfl
  | some o => rw [h a o q] at e; cases e
theorem Le.up {F : Hp} {p : Addr} {o : HO} (h : F p = none) : Le F (upd F p o) := fun a u e => by
  rw [upd_ne (ne_of_none e h)]; exact e
theorem Le.up2 {F G : Hp} {p : Addr} {o : HO} (h : Le F G) : Le (upd F p o) (upd G p o) := fun a u e => by
  by_cases q : a = p
  · subst q; rw [upd_same] at e ⊢; exact e
  · rw [upd_ne q] at e ⊢; exact h a u e

mutual
inductive Rp (F : Hp) : V → Px → Prop
  | non : Rp F .non .none
  | bl (b : Bool) : Rp F (.bl b) (.bool b)
  | int (i : Int) : Rp F (.int i) (.int i)
  | str (x : Str) : Rp F (.str x) (.str x)
  | lst {a : Addr} {vs : List V} {ds : List Px} : F a = some (.lst vs) → RpA F vs ds → Rp F (.ref a) (.list ds)
  | tup {a : Addr} {vs : List V} {ds : List Px} : F a = some (.tup vs) → RpA F vs ds → Rp F (.ref a) (.tuple ds)
inductive RpA (F : Hp) : List V → List Px → Prop
  | nil : RpA F [] []
  | cons {v : V} {vs : List V} {d : Px} {ds : List Px} : Rp F v d → RpA F vs ds → RpA F (v :: vs) (d :: ds)
end
mutual
theorem Rp.mono {F G : Hp} (h : Le F G) : ∀ {v : V} {d : Px}, Rp F v d → Rp G v d
  | _, _, .non => .non
  | _, _, .bl b => .bl b
  | _, _, .int i => .int i
  | _, _, .str x => .str x
  | _, _, .lst e r => .lst (h _ _ e) (RpA.mono h r)
  | _, _, .tup e r => .tup (h _ _ e) (RpA.mono h r)
theorem RpA.mono {F G : Hp} (h : Le F G) : ∀ {vs : List V} {ds : List Px}, RpA F vs ds → RpA G vs ds
  | _, _, .nil => .nil
  | _, _, .cons a b => .cons (Rp.mono h a) (RpA.mono h b)
end
mutual
theorem Rp.dp {K : PySem.W.Frag} {F G : Hp} (h : Le F G) : ∀ {v : V} {d : Px}, Rp F v d → Dp K G v d
  | _, _, .non => .non
  | _, _, .bl b => .bl b
  | _, _, .int i => .int i
  | _, _, .str x => .str x
  | _, _, .lst e r => .lst (SqL.of (h _ _ e)) (RpA.dp h r)
  | _, _, .tup e r => .tup (SqT.of (h _ _ e)) (RpA.dp h r)
theorem RpA.dp {K : PySem.W.Frag} {F G : Hp} (h : Le F G) : ∀ {vs : List V} {ds : List Px}, RpA F vs ds → DpAll K G vs ds
  | _, _, .nil => .nil
  | _, _, .cons a b => .cons (Rp.dp h a) (RpA.dp h b)
end
theorem RpA.length {F : Hp} : ∀ {vs : List V} {ds : List Px}, RpA F vs ds → vs.length = ds.length
  | _, _, .nil => rfl
  | _, _, .cons _ b => congrArg (· + 1) (RpA.length b)
theorem RpA.append {F : Hp} : ∀ {vs ws : List V} {ds es : List Px}, RpA F vs ds → RpA F ws es → RpA F (vs ++ ws) (ds ++ es)
  | _, _, _, _, .nil, s => s
  | _, _, _, _, .cons a b, s => .cons a (RpA.append b s)
theorem RpA.get {F : Hp} : ∀ {vs : List V} {ds : List Px} {i : Nat} {d : Px}, RpA F vs ds → ds[i]? = some d → ∃ v, vs[i]? = some v ∧ Rp F v d
  | _, _, _, _, .nil, h => by simp at h
  | _, _, 0, _, .cons a _, h => by simp at h; subst h; exact ⟨_, rfl, a⟩
  | _, _, i + 1, _, .cons _ b, h => by
    obtain ⟨v, e, r⟩ := RpA.get (i := i) b (by simpa using h)
    exact ⟨v, by simpa using e, r⟩
theorem RpA.getV {F : Hp} {vs : List V} {ds : List Px} {i : Nat} {v : V} (r : RpA F vs ds) (h : vs[i]? = some v) : ∃ d, ds[i]? = some d ∧ Rp F v d := by
  have hl := r.length
  have hi : i < vs.length := (List.getElem?_eq_some_iff.mp h).1
  obtain ⟨w, e, q⟩ := r.get (i := i) (d := ds[i]'(by omega)) (by simp)
  rw [h] at e; cases e
  exact ⟨_, by simp, q⟩
theorem RpA.take {F : Hp} : ∀ {vs : List V} {ds : List Px} (n : Nat), RpA F vs ds → RpA F (vs.take n) (ds.take n)
  | _, _, 0, _ => by simpa using RpA.nil
  | _, _, _ + 1, .nil => by simpa using RpA.nil
  | _, _, n + 1, .cons a b => .cons a (RpA.take n b)
theorem RpA.drop {F : Hp} : ∀ {vs : List V} {ds : List Px} (n : Nat), RpA F vs ds → RpA F (vs.drop n) (ds.drop n)
  | _, _, 0, r => r
  | _, _, _ + 1, .nil => .nil
  | _, _, n + 1, .cons _ b => RpA.drop n b
theorem RpA.set {F : Hp} {v : V} {d : Px} (r : Rp F v d) : ∀ {vs : List V} {ds : List Px} (i : Nat), RpA F vs ds → RpA F (vs.set i v) (ds.set i d)
  | _, _, _, .nil => .nil
  | _, _, 0, .cons _ t => .cons r t
  | _, _, i + 1, .cons q t => .cons q (RpA.set r i t)
theorem RpA.dropLast {F : Hp} {vs : List V} {ds : List Px} (r : RpA F vs ds) : RpA F vs.dropLast ds.dropLast := by
  rw [List.dropLast_eq_take, List.dropLast_eq_take, r.length]
  exact r.take _
theorem RpA.one {F : Hp} {v : V} {d : Px} (r : Rp F v d) : RpA F [v] [d] := .cons r .nil
theorem RpA.map_int {F : Hp} : ∀ (ns : List Int), RpA F (ns.map V.int) (ns.map .int)
  | [] => .nil
  | n :: ns => .cons (.int n) (RpA.map_int ns)

/-! ### slots and configurations -/
/-- what a name or an expression holds: data; a list that nothing else holds; the drawing state -/
inductive Rv where
  | d (x : Px)
  | own (xs : List Px)
  | gen
  | scr (ns : List Int)
structure Cf where
  env : List (Option Rv)
  g : Option Nat

/-- an exception, by its class's name and its fields -/
structure Xn where
  cls : Str
  fields : List (Str × Px)

/-- the drawing state at am: so many draws at most -/
def GenAt (F H : Hp) (am : Addr) (n : Nat) : Prop :=
  ∃ (left seed spot : Int) (ac : Addr) (ns : List Int), H am = some (.dK [(.inr "left", .int left), (.inr "seed", .int seed), (.inr "cells", .ref ac), (.inr "spot", .int spot)]) ∧
    F ac = some (.lst (ns.map V.int)) ∧ ns ≠ [] ∧ ns.length ≤ 1000 ∧ 0 ≤ left ∧ 0 ≤ seed ∧ seed < 2147483647 ∧ 0 ≤ spot ∧ spot ≤ n ∧ n ≤ 2 ^ 40

structure Dx where
  K : PySem.W.Frag
  a0 : Option Addr
  F0 : Hp
  H0 : Hp
  XE : Xn → Option Nat → Addr → Hp → Hp → Prop

/-- a slot's content, over F and H -/
def Sl (Δ : Dx) (am : Addr) (F H : Hp) : Rv → V → Prop
  | .d x, v => Rp F v x
  | .own xs, v => ∃ a vs, v = .ref a ∧ H a = some (.lst vs) ∧ F a = none ∧ Δ.H0 a = none ∧ RpA F vs xs
  | .gen, v => v = .ref am
  | .scr ns, v => ∃ a, v = .ref a ∧ SqL Δ.K F a (ns.map V.int)
theorem sq_le {K : PySem.W.Frag} {F G : Hp} {a : Addr} {xs : List V} (l : Le F G) (h : SqL K F a xs) : SqL K G a xs := Same.seq (fun b o e => l b o e) h

structure Ok (Δ : Dx) (am : Addr) (F : Hp) (σ : St) (H : Hp) (c : Cf) : Prop where
  fh : Le F H
  f0 : Le Δ.F0 F
  fr : ∀ a, F a ≠ none → Δ.F0 a ≠ none ∨ Δ.H0 a = none
  pr : ∀ a o, Δ.H0 a = some o → Δ.a0 ≠ some a → H a = some o
  al : ∀ a, Δ.a0 = some a → H a ≠ none ∧ Δ.H0 a ≠ none
  gn : ∀ n, c.g = some n → (Δ.a0 = some am ∨ (Δ.a0 = none ∧ Δ.H0 am = none)) ∧ F am = none ∧ GenAt F H am n
  len : σ.length = c.env.length
  sv : ∀ (i : Nat) (r : Rv), c.env[i]? = some (some r) → ∃ v, σ[i]? = some (some v) ∧ Sl Δ am F H r v
  di : ∀ (i j : Nat) (xs ys : List Px), i ≠ j → c.env[i]? = some (some (.own xs)) → c.env[j]? = some (some (.own ys)) → σ[i]? ≠ σ[j]?

/-- an expression's result -/
def Rs (Δ : Dx) (am : Addr) (F : Hp) (σ : St) (H : Hp) (c : Cf) (r : Rv) (v : V) : Prop :=
  Sl Δ am F H r v ∧ ∀ xs, r = Rv.own xs → ∀ (i : Nat) (ys : List Px), c.env[i]? = some (some (.own ys)) → σ[i]? ≠ some (some v)
/-- behind an exception, or at a def's end -/
structure Fin (Δ : Dx) (am : Addr) (F H : Hp) (g : Option Nat) : Prop where
  fh : Le F H
  f0 : Le Δ.F0 F
  fr : ∀ a, F a ≠ none → Δ.F0 a ≠ none ∨ Δ.H0 a = none
  pr : ∀ a o, Δ.H0 a = some o → Δ.a0 ≠ some a → H a = some o
  al : ∀ a, Δ.a0 = some a → H a ≠ none ∧ Δ.H0 a ≠ none
  gn : ∀ n, g = some n → (Δ.a0 = some am ∨ (Δ.a0 = none ∧ Δ.H0 am = none)) ∧ F am = none ∧ GenAt F H am n
section
variable {Δ : Dx} {am : Addr} {F F' G : Hp} {σ : St} {H H' : Hp} {c : Cf}
theorem Ok.fin (k : Ok Δ am F σ H c) : Fin Δ am F H c.g := ⟨k.fh, k.f0, k.fr, k.pr, k.al, k.gn⟩
theorem GenAt.ne {n : Nat} {a : Addr} {vs : List V} (g : GenAt F H am n) (h : H a = some (.lst vs)) : a ≠ am := by
  obtain ⟨_, _, _, _, _, e, _⟩ := g
  rintro rfl
  rw [h] at e; cases e
theorem GenAt.sm {n : Nat} (g : GenAt F H am n) : H am ≠ none := by
  obtain ⟨_, _, _, _, _, e, _⟩ := g
  rw [e]; exact fun z => nomatch z
/-- nothing that stood at the entry stands at a free address -/
theorem Ok.new (k : Ok Δ am F σ H c) {p : Addr} (hp : H p = none) : Δ.H0 p = none := by
  cases q : Δ.H0 p with
  | none => rfl
  | some o =>
    by_cases e : Δ.a0 = some p
    · exact absurd hp (k.al p e).1
    · rw [k.pr p o q e] at hp; cases hp
theorem Ok.ngen (k : Ok Δ am F σ H c) {n : Nat} (e : c.g = some n) {p : Addr} (hp : H p = none) : p ≠ am := by
  rintro rfl
  exact (k.gn n e).2.2.sm hp
/-- a new object -/
theorem Ok.alloc (k : Ok Δ am F σ H c) {p : Addr} (hp : H p = none) (o : HO) : Ok Δ am F σ (upd H p o) c where
  fh := k.fh.trans (Le.up hp)
  f0 := k.f0
  fr := k.fr
  pr := fun a u e n => Le.up hp a u (k.pr a u e n)
  al := fun a e => by
    rw [upd_ne (show a ≠ p from fun z => (k.al a e).1 (by rw [z]; exact hp))]
    exact k.al a e
  gn := fun n e => by
    obtain ⟨h1, h2, l, s, sp, ac, ns, h3, h4⟩ := k.gn n e
    exact ⟨h1, h2, l, s, sp, ac, ns, Le.up hp _ _ h3, h4⟩
  len := k.len
  sv := fun i r e => by
    obtain ⟨v, h1, h2⟩ := k.sv i r e
    refine ⟨v, h1, ?_⟩
    cases r with
    | d x => exact h2
    | gen => exact h2
    | scr ns => exact h2
    | own xs =>
      obtain ⟨a, vs, e1, e2, e3⟩ := h2
      exact ⟨a, vs, e1, Le.up hp _ _ e2, e3⟩
  di := k.di
/-- more that stays as it is: at a free address of F -/
theorem Ok.stay (k : Ok Δ am F σ H c) (l : Le F G) (gh : Le G H) (fr : ∀ a, G a ≠ none → F a ≠ none ∨ Δ.H0 a = none) (ng : ∀ n, c.g = some n → G am = none)
    (no : ∀ (i : Nat) (xs : List Px) (a : Addr), c.env[i]? = some (some (.own xs)) → σ[i]? = some (some (.ref a)) → G a = none) : Ok Δ am G σ H c where
  fh := gh
  f0 := k.f0.trans l
  fr := fun a h => (fr a h).elim (fun z => k.fr a z) .inr
  pr := k.pr
  al := k.al
  gn := fun n e => by
    obtain ⟨h1, h2, left, s, sp, ac, ns, h3, h4, h5⟩ := k.gn n e
    exact ⟨h1, ng n e, left, s, sp, ac, ns, h3, l _ _ h4, h5⟩
  len := k.len
  sv := fun i r e => by
    obtain ⟨v, h1, h2⟩ := k.sv i r e
    refine ⟨v, h1, ?_⟩
    cases r with
    | d x => exact Rp.mono l h2
    | gen => exact h2
    | scr ns =>
      obtain ⟨a, e1, e2⟩ := h2
      exact ⟨a, e1, sq_le l e2⟩
    | own xs =>
      obtain ⟨a, vs, e1, e2, e3, e4, e5⟩ := h2
      subst e1
      exact ⟨a, vs, rfl, e2, no i xs a e h1, e4, e5.mono l⟩
  di := k.di
/-- an own list, named no more, becomes data -/
theorem Ok.frz (k : Ok Δ am F σ H c) {a : Addr} {vs : List V} (h : H a = some (.lst vs)) (h0 : Δ.H0 a = none) (hf : F a = none) (no : ∀ (i : Nat) (xs : List Px), c.env[i]? = some (some (.own xs)) → σ[i]? ≠ some (some (.ref a))) :
    Ok Δ am (upd F a (.lst vs)) σ H c ∧ Le F (upd F a (.lst vs)) := by
  refine ⟨k.stay (Le.up hf) ?_ ?_ ?_ ?_, Le.up hf⟩
  · intro b o e
    by_cases q : b = a
    · subst q; rw [upd_same] at e; rw [h]; exact e
    · rw [upd_ne q] at e; exact k.fh b o e
  · intro b e
    by_cases q : b = a
    · subst q; exact .inr h0
    · rw [upd_ne q] at e; exact .inl e
  · intro n e
    have ne : am ≠ a := ((k.gn n e).2.2.ne h).symm
    rw [upd_ne ne]
    exact (k.gn n e).2.1
  · intro i xs b e1 e2
    have ne : b ≠ a := by
      rintro rfl
      exact no i xs e1 e2
    rw [upd_ne ne]
    obtain ⟨v, e3, e4⟩ := k.sv i _ e1
    obtain ⟨a', vs', e5, e6, e7, _⟩ := e4
    rw [e2] at e3
    cases e3
    cases e5
    exact e7
/-- a result as data -/
def asD (r : Rv) (k : Px → Prop) : Prop := match r with
  | .d x => k x
  | .own xs => k (.list xs)
  | .gen => False
  | .scr _ => False
theorem Rs.data {r : Rv} {v : V} {k : Px → Prop} (o : Ok Δ am F σ H c) (h : Rs Δ am F σ H c r v) (q : asD r k) : ∃ x F', k x ∧ Le F F' ∧ Ok Δ am F' σ H c ∧ Rp F' v x := by
  cases r with
  | d x => exact ⟨x, F, q, Le.refl F, o, h.1⟩
  | gen => exact q.elim
  | scr ns => exact q.elim
  | own xs =>
    obtain ⟨⟨a, vs, e1, e2, e3, e4, e5⟩, e6⟩ := h
    subst e1
    obtain ⟨o', l⟩ := o.frz e2 e4 e3 fun i ys e => e6 xs rfl i ys e
    exact ⟨_, _, q, l, o', .lst upd_same (e5.mono l)⟩
end
end Dl

set_option Elab.async false
set_option maxRecDepth 100000
set_option linter.all false
set_option autoImplicit false
namespace Dl
open PySem L2

/-! ### what is wanted, over data -/
abbrev XP := Xn → Option Nat → Prop
abbrev WE := Cf → (Rv → Cf → Prop) → XP → Prop
abbrev WT := Cf → (Bool → Cf → Prop) → XP → Prop
abbrev WA := Cf → (List Rv → Cf → Prop) → XP → Prop
abbrev WI := Cf → (List Px → Cf → Prop) → XP → Prop
abbrev WG := Rv → Cf → (Cf → Prop) → Prop
inductive Fl where
  | nx (c : Cf)
  | rt (r : Rv) (g : Option Nat)
  | bk (c : Cf)
  | ct (c : Cf)
abbrev WS := Cf → (Fl → Prop) → XP → Prop

def KX (Δ : Dx) (am : Addr) (F : Hp) (X : XP) : Prop := ∀ x g F' H', X x g → Le F F' → Fin Δ am F' H' g → Δ.XE x g am F' H'
theorem KX.le {Δ : Dx} {am : Addr} {F G : Hp} {X : XP} (k : KX Δ am F X) (l : Le F G) : KX Δ am G X := fun x g F' H' h l' f => k x g F' H' h (l.trans l') f
def KQ (Δ : Dx) (am : Addr) (F : Hp) (σ : St) (P : Rv → Cf → Prop) (Q : VK) : Prop :=
  ∀ r c' F' v H', P r c' → Le F F' → Ok Δ am F' σ H' c' → Rs Δ am F' σ H' c' r v → Q v H'
def tE (Δ : Dx) (f : WE) : TE := fun σ H Q => ∃ am F c P X, Ok Δ am F σ H c ∧ f c P X ∧ KQ Δ am F σ P Q ∧ KX Δ am F X
def tT (Δ : Dx) (f : WT) : TT := fun σ H Q => ∃ am F c P X, Ok Δ am F σ H c ∧ f c P X ∧
  (∀ b c' F' H', P b c' → Le F F' → Ok Δ am F' σ H' c' → Q b H') ∧ KX Δ am F X
/-- the values of arguments (own lists are data here) -/
inductive Rss (Δ : Dx) (am : Addr) (F : Hp) : List Rv → List V → Prop
  | nil : Rss Δ am F [] []
  | d {x : Px} {v : V} {rs : List Rv} {vs : List V} : Rp F v x → Rss Δ am F rs vs → Rss Δ am F (.d x :: rs) (v :: vs)
  | gen {rs : List Rv} {vs : List V} : Rss Δ am F rs vs → Rss Δ am F (.gen :: rs) (.ref am :: vs)
  | scr {a : Addr} {ns : List Int} {rs : List Rv} {vs : List V} : SqL Δ.K F a (ns.map V.int) → Rss Δ am F rs vs → Rss Δ am F (.scr ns :: rs) (.ref a :: vs)
theorem Rss.mono {Δ : Dx} {am : Addr} {F G : Hp} (l : Le F G) : ∀ {rs : List Rv} {vs : List V}, Rss Δ am F rs vs → Rss Δ am G rs vs
  | _, _, .nil => .nil
  | _, _, .d h r => .d (h.mono l) (r.mono l)
  | _, _, .gen r => .gen (r.mono l)
  | _, _, .scr h r => .scr (sq_le l h) (r.mono l)
def tA (Δ : Dx) (f : WA) : TA := fun σ H Q => ∃ am F c P X, Ok Δ am F σ H c ∧ f c P X ∧
  (∀ rs c' F' vs H', P rs c' → Le F F' → Ok Δ am F' σ H' c' → Rss Δ am F' rs vs → Q vs H') ∧ KX Δ am F X
/-- the slots but those in ws are as they were -/
def Tch (ws : List Nat) (σ σ' : St) : Prop := σ'.length = σ.length ∧ ∀ i : Nat, i ∉ ws → σ'[i]? = σ[i]?
def tG (Δ : Dx) (ws : List Nat) (f : WG) : TG := fun v σ H Q => ∃ am F c r P, Ok Δ am F σ H c ∧ Rs Δ am F σ H c r v ∧ f r c P ∧
  (∀ c' F' σ' H', P c' → Le F F' → Ok Δ am F' σ' H' c' → Tch ws σ σ' → Q σ' H')
def KF (Δ : Dx) (am : Addr) (F : Hp) (P : Fl → Prop) (D : Ends) : Prop :=
  (∀ c am' F' σ' H', P (.nx c) → Le F F' → Ok Δ am' F' σ' H' c → D.nx σ' H') ∧
  (∀ c am' F' σ' H', P (.bk c) → Le F F' → Ok Δ am' F' σ' H' c → D.bk σ' H') ∧
  (∀ c am' F' σ' H', P (.ct c) → Le F F' → Ok Δ am' F' σ' H' c → D.ct σ' H') ∧
  (∀ r g am' F' H' v, P (.rt r g) → Le F F' → Fin Δ am' F' H' g → Sl Δ am' F' H' r v → D.rt v H')
def KXs (Δ : Dx) (F : Hp) (X : XP) : Prop := ∀ am, KX Δ am F X
theorem KXs.le {Δ : Dx} {F G : Hp} {X : XP} (k : KXs Δ F X) (l : Le F G) : KXs Δ G X := fun am => (k am).le l
def tS (Δ : Dx) (f : WS) : TS := fun D σ H => ∃ am F c P X, Ok Δ am F σ H c ∧ f c P X ∧ KF Δ am F P D ∧ KXs Δ F X
theorem _root_.L2.PE.imp {X : Cx} {e : Expr} {t t' : TE} (h : PE X e t) (w : ∀ σ H Q, t' σ H Q → t σ H Q) : PE X e t' :=
  ⟨fun pins s σ H Q I q => h.run pins s σ H Q I (w σ H Q q)⟩
theorem _root_.L2.PT.imp {X : Cx} {e : Expr} {t t' : TT} (h : PT X e t) (w : ∀ σ H Q, t' σ H Q → t σ H Q) : PT X e t' :=
  ⟨fun pins s σ H Q I q => h.run pins s σ H Q I (w σ H Q q)⟩
theorem _root_.L2.PA.imp {X : Cx} {e : List Expr} {t t' : TA} (h : PA X e t) (w : ∀ σ H Q, t' σ H Q → t σ H Q) : PA X e t' :=
  ⟨fun pos pins s σ H Q I q => h.run pos pins s σ H Q I (w σ H Q q)⟩
theorem _root_.L2.PS.imp {X : Cx} {e : Stmt} {t t' : TS} (h : PS X e t) (w : ∀ D σ H, t' D σ H → t D σ H) : PS X e t' :=
  ⟨fun pins s σ H D I q => h.run pins s σ H D I (w D σ H q)⟩
theorem _root_.L2.PSs.imp {X : Cx} {e : List Stmt} {t t' : TS} (h : PSs X e t) (w : ∀ D σ H, t' D σ H → t D σ H) : PSs X e t' :=
  ⟨fun pins s σ H D I q => h.run pins s σ H D I (w D σ H q)⟩
theorem _root_.L2.PG.imp {X : Cx} {e : Expr} {t t' : TG} (h : PG X e t) (w : ∀ v σ H Q, t' v σ H Q → t v σ H Q) : PG X e t' :=
  ⟨fun pins s σ H v u Q I r q => h.run pins s σ H v u Q I r (w v σ H Q q)⟩
theorem _root_.L2.PI.imp {X : Cx} {tg e : Expr} {t t' : TI} (h : PI X tg e t) (w : ∀ σ H Q, t' σ H Q → t σ H Q) : PI X tg e t' :=
  ⟨fun pins s σ H Q I q => h.run pins s σ H Q I (w σ H Q q)⟩

section
variable {X : Cx} {Δ : Dx} {a b e : Expr} {fa fb fc : WE} {pos : Pos}

/-! ### names and constants -/
def eName (i : Nat) : WE := fun c P _ => match c.env[i]? with
  | some (some (.d x)) => P (.d x) c
  | some (some .gen) => P .gen c
  | some (some (.scr ns)) => P (.scr ns) c
  | some (some (.own xs)) => P (.d (.list xs)) { c with env := c.env.set i (some (.d (.list xs))) }
  | _ => False
theorem St.set_get {σ : St} {i j : Nat} (o : Option V) : (σ.set i o)[j]? = if j = i ∧ i < σ.length then some o else σ[j]? := by
  by_cases e : j = i
  · subst e
    by_cases h : j < σ.length
    · rw [List.getElem?_set_self h, if_pos ⟨rfl, h⟩]
    · rw [if_neg (fun z => h z.2), List.getElem?_eq_none (by simpa using h), List.getElem?_eq_none (by simpa using h)]
  · rw [List.getElem?_set_ne (Ne.symm e), if_neg (fun z => e z.1)]
theorem env_get {l : List (Option Rv)} {i j : Nat} (o : Option Rv) : (l.set i o)[j]? = if j = i ∧ i < l.length then some o else l[j]? := by
  by_cases e : j = i
  · subst e
    by_cases h : j < l.length
    · rw [List.getElem?_set_self h, if_pos ⟨rfl, h⟩]
    · rw [if_neg (fun z => h z.2), List.getElem?_eq_none (by simpa using h), List.getElem?_eq_none (by simpa using h)]
  · rw [List.getElem?_set_ne (Ne.symm e), if_neg (fun z => e z.1)]
/-- the slot's list is given away: it stays as it is from now on -/
theorem Ok.give {am : Addr} {F : Hp} {σ : St} {H : Hp} {c : Cf} (k : Ok Δ am F σ H c) {i : Nat} {xs : List Px} (h : c.env[i]? = some (some (.own xs))) :
    ∃ v F', σ[i]? = some (some v) ∧ Le F F' ∧ Ok Δ am F' σ H { c with env := c.env.set i (some (.d (.list xs))) } ∧ Rp F' v (.list xs) := by
  obtain ⟨v, h1, a, vs, e1, e2, e3, e4, e5⟩ := k.sv i _ h
  subst e1
  have hi : i < c.env.length := (List.getElem?_eq_some_iff.mp h).1
  -- the configuration with the slot forgotten
  have k1 : Ok Δ am F σ H { c with env := c.env.set i none } := ⟨k.fh, k.f0, k.fr, k.pr, k.al, k.gn, by simpa using k.len, fun j r e => by
      rw [env_get] at e
      split at e
      · cases e
      · exact k.sv j r e, fun j l ys zs n p q => by
      rw [env_get] at p q
      split at p
      · cases p
      · split at q
        · cases q
        · exact k.di j l ys zs n p q⟩
  obtain ⟨k2, l⟩ := k1.frz e2 e4 e3 fun j ys e => by
    rw [env_get] at e
    split at e
    · cases e
    · rename_i n
      intro z
      exact k.di j i ys xs (fun q => n ⟨q, hi⟩) e h (z.trans h1.symm)
  have rp : Rp (upd F a (.lst vs)) (.ref a) (.list xs) := .lst upd_same (e5.mono l)
  refine ⟨_, _, h1, l, ?_, rp⟩
  refine ⟨k2.fh, k2.f0, k2.fr, k2.pr, k2.al, k2.gn, by simpa using k.len, fun j r e => ?_, fun j l ys zs n p q => ?_⟩
  · rw [env_get] at e
    split at e
    · rename_i z
      cases e
      rw [z.1]
      exact ⟨_, h1, rp⟩
    · exact k2.sv j r (by rw [env_get, if_neg (by assumption)]; exact e)
  · rw [env_get] at p q
    split at p
    · cases p
    · split at q
      · cases q
      · exact k.di j l ys zs n p q
theorem de_name (i : Nat) {x : Str} (hN : X.N[i]? = some x := by rfl) (hv : Vis X.env.scope x := by first | exact Or.inl rfl | exact Or.inr (Or.inl rfl) | exact Or.inr (Or.inr rfl)) (hd : (x == ("__debug__" : Str)) = false := by decide)
    (hcd : (x == ("__classdict__" : Str)) = false := by decide) : PE X (.Name x pos) (tE Δ (eName i)) := by
  refine (pv i hN hv hd hcd).imp fun σ H Q ⟨am, F, c, P, XX, ok, hf, kq, kx⟩ => ?_
  unfold eName at hf
  split at hf
  · rename_i x e
    obtain ⟨v, h1, h2⟩ := ok.sv i _ e
    exact ⟨v, h1, kq _ c F v H hf (Le.refl F) ok ⟨h2, fun _ z => nomatch z⟩⟩
  · rename_i e
    obtain ⟨v, h1, h2⟩ := ok.sv i _ e
    exact ⟨v, h1, kq _ c F v H hf (Le.refl F) ok ⟨h2, fun _ z => nomatch z⟩⟩
  · rename_i ns e
    obtain ⟨v, h1, h2⟩ := ok.sv i _ e
    exact ⟨v, h1, kq _ c F v H hf (Le.refl F) ok ⟨h2, fun _ z => nomatch z⟩⟩
  · rename_i xs e
    obtain ⟨v, F', h1, l, k, r⟩ := ok.give e
    exact ⟨v, h1, kq _ _ F' v H hf l k ⟨r, fun _ z => nomatch z⟩⟩
  · exact hf.elim
def eC (x : Px) : WE := fun c P _ => P (.d x) c
theorem de_int {i : Int} {k : Nat} : PE X (.Constant (.int i) k pos) (tE Δ (eC (.int i))) :=
  L2.PE.imp pe_int fun σ H Q ⟨am, F, c, P, XX, ok, hf, kq, kx⟩ => kq _ c F _ H hf (Le.refl F) ok ⟨.int i, fun _ z => nomatch z⟩
theorem de_str {s : Str} {k : Nat} : PE X (.Constant (.str s) k pos) (tE Δ (eC (.str s))) :=
  L2.PE.imp pe_str fun σ H Q ⟨am, F, c, P, XX, ok, hf, kq, kx⟩ => kq _ c F _ H hf (Le.refl F) ok ⟨.str s, fun _ z => nomatch z⟩
theorem de_bl {b : Bool} {k : Nat} : PE X (.Constant (.bool b) k pos) (tE Δ (eC (.bool b))) :=
  L2.PE.imp pe_bl fun σ H Q ⟨am, F, c, P, XX, ok, hf, kq, kx⟩ => kq _ c F _ H hf (Le.refl F) ok ⟨.bl b, fun _ z => nomatch z⟩
theorem de_non {k : Nat} : PE X (.Constant .none k pos) (tE Δ (eC .none)) :=
  L2.PE.imp pe_non fun σ H Q ⟨am, F, c, P, XX, ok, hf, kq, kx⟩ => kq _ c F _ H hf (Le.refl F) ok ⟨.non, fun _ z => nomatch z⟩

/-! ### operators -/
abbrev OD := Px → Px → (Rv → Prop) → Prop
abbrev UD := Px → (Rv → Prop) → Prop
structure OpD (X : Cx) (Δ : Dx) (f : Value → Value → Sem Value) (o : OD) : Prop where
  ex : ∃ r : R2, OpR X f r ∧ ∀ (am : Addr) (F : Hp) (σ : St) (H : Hp) (c : Cf) (vx vy : V) (x y : Px) (P : Rv → Prop) (Q : VK), Ok Δ am F σ H c → Rp F vx x → Rp F vy y → o x y P →
    (∀ rr F' v H', P rr → Le F F' → Ok Δ am F' σ H' c → Rs Δ am F' σ H' c rr v → Q v H') → r vx vy H Q
def eOp (o : OD) (fa fb : WE) : WE := fun c P X => fa c (fun r1 c1 => asD r1 fun x => fb c1 (fun r2 c2 => asD r2 fun y => o x y fun r => P r c2) X) X
theorem two_of {r : R2} {o : OD} (ho : ∀ (am : Addr) (F : Hp) (σ : St) (H : Hp) (c : Cf) (vx vy : V) (x y : Px) (P : Rv → Prop) (Q : VK), Ok Δ am F σ H c → Rp F vx x → Rp F vy y → o x y P →
    (∀ rr F' v H', P rr → Le F F' → Ok Δ am F' σ H' c → Rs Δ am F' σ H' c rr v → Q v H') → r vx vy H Q) (σ : St) (H : Hp) (Q : VK) (h : tE Δ (eOp o fa fb) σ H Q) : tOp r (tE Δ fa) (tE Δ fb) σ H Q := by
  obtain ⟨am, F, c, P, XX, ok, hf, kq, kx⟩ := h
  refine ⟨am, F, c, _, XX, ok, hf, fun r1 c1 F1 v1 H1 p1 l1 o1 s1 => ?_, kx⟩
  obtain ⟨x, F1', hx, l1', o1', rp1⟩ := s1.data o1 p1
  refine ⟨am, F1', c1, _, XX, o1', hx, fun r2 c2 F2 v2 H2 p2 l2 o2 s2 => ?_, kx.le (l1.trans l1')⟩
  obtain ⟨y, F2', hy, l2', o2', rp2⟩ := s2.data o2 p2
  have l3 : Le F1' F2' := l2.trans l2'
  exact ho am F2' σ H2 c2 v1 v2 x y _ Q o2' (rp1.mono l3) rp2 hy fun rr F' v H' prr l o s => kq rr c2 F' v H' prr (((l1.trans l1').trans l3).trans l) o s
theorem de_op {op : Operator} {o : OD} (ho : OpD X Δ (binaryOp op) o) (ha : PE X a (tE Δ fa)) (hb : PE X b (tE Δ fb)) : PE X (.BinOp a op b pos) (tE Δ (eOp o fa fb)) := by
  obtain ⟨r, h1, h2⟩ := ho.ex
  exact (pe_op h1 ha hb).imp fun σ H Q h => two_of h2 σ H Q h
theorem de_cmp {op : CmpOp} {o : OD} (ho : OpD X Δ (compareOp op) o) (ha : PE X a (tE Δ fa)) (hb : PE X b (tE Δ fb)) (hm : behindInMarks op b = false) : PE X (.Compare a [op] [b] pos) (tE Δ (eOp o fa fb)) := by
  obtain ⟨r, h1, h2⟩ := ho.ex
  exact (pe_cmpR h1 ha hb hm).imp fun σ H Q h => two_of h2 σ H Q h
structure UnD (X : Cx) (Δ : Dx) (f : Value → Sem Value) (o : UD) : Prop where
  ex : ∃ r : V → Hp → VK → Prop, UnR X f r ∧ ∀ (am : Addr) (F : Hp) (σ : St) (H : Hp) (c : Cf) (vx : V) (x : Px) (P : Rv → Prop) (Q : VK), Ok Δ am F σ H c → Rp F vx x → o x P →
    (∀ rr F' v H', P rr → Le F F' → Ok Δ am F' σ H' c → Rs Δ am F' σ H' c rr v → Q v H') → r vx H Q
def eUn (o : UD) (fa : WE) : WE := fun c P X => fa c (fun r1 c1 => asD r1 fun x => o x fun r => P r c1) X
theorem de_un {op : UnaryOp} {o : UD} (ho : UnD X Δ (unaryOp op) o) (ha : PE X a (tE Δ fa)) : PE X (.UnaryOp op a pos) (tE Δ (eUn o fa)) := by
  obtain ⟨r, h1, h2⟩ := ho.ex
  refine (pe_un h1 ha).imp fun σ H Q ⟨am, F, c, P, XX, ok, hf, kq, kx⟩ => ?_
  refine ⟨am, F, c, _, XX, ok, hf, fun r1 c1 F1 v1 H1 p1 l1 o1 s1 => ?_, kx⟩
  obtain ⟨x, F1', hx, l1', o1', rp1⟩ := s1.data o1 p1
  exact h2 am F1' σ H1 c1 v1 x _ Q o1' rp1 hx fun rr F' v H' prr l o s => kq rr c1 F' v H' prr ((l1.trans l1').trans l) o s

/-! the results that are plain -/
theorem Rs.of {am : Addr} {F : Hp} {σ : St} {H : Hp} {c : Cf} {v : V} {x : Px} (r : Rp F v x) : Rs Δ am F σ H c (.d x) v := ⟨r, fun _ z => nomatch z⟩
/-- a new own list -/
theorem Rs.fresh {am : Addr} {F : Hp} {σ : St} {H : Hp} {c : Cf} (k : Ok Δ am F σ H c) {p : Addr} (hp : H p = none) {vs : List V} {xs : List Px} (r : RpA F vs xs) :
    Ok Δ am F σ (upd H p (.lst vs)) c ∧ Rs Δ am F σ (upd H p (.lst vs)) c (.own xs) (.ref p) := by
  refine ⟨k.alloc hp _, ⟨p, vs, rfl, upd_same, k.fh.nn hp, k.new hp, r⟩, fun ys _ i zs e z => ?_⟩
  obtain ⟨v, h1, a, ws, e1, e2, _⟩ := k.sv i _ e
  subst e1
  rw [z] at h1
  cases h1
  rw [hp] at e2; cases e2
/-- a new tuple -/
theorem Ok.tupN {am : Addr} {F : Hp} {σ : St} {H : Hp} {c : Cf} (k : Ok Δ am F σ H c) {p : Addr} (hp : H p = none) {vs : List V} {xs : List Px} (r : RpA F vs xs) :
    Ok Δ am (upd F p (.tup vs)) σ (upd H p (.tup vs)) c ∧ Le F (upd F p (.tup vs)) ∧ Rp (upd F p (.tup vs)) (.ref p) (.tuple xs) := by
  have hf := k.fh.nn hp
  refine ⟨(k.alloc hp (.tup vs)).stay (Le.up hf) k.fh.up2 (fun b e => ?_) (fun n e => ?_) (fun i ys b e1 e2 => ?_), Le.up hf, .tup upd_same (r.mono (Le.up hf))⟩
  · by_cases q : b = p
    · subst q; exact .inr (k.new hp)
    · rw [upd_ne q] at e; exact .inl e
  · rw [upd_ne (k.ngen e hp).symm]
    exact (k.gn n e).2.1
  · obtain ⟨v, h1, a, ws, e3, e4, e5, _⟩ := k.sv i _ e1
    subst e3
    rw [e2] at h1
    cases h1
    rw [upd_ne (ne_of_none e4 hp)]
    exact e5

/-! ints -/
def iD (f : Int → Int → Px) (C : Int → Int → Prop) : OD := fun x y P => match x, y with
  | .int i, .int j => C i j ∧ P (.d (f i j))
  | _, _ => False
theorem op_iD {f : Value → Value → Sem Value} {C C' : Int → Int → Prop} {g : Int → Int → V} {g' : Int → Int → Px} (h : OpR X f (rI C' g)) (hC : ∀ i j, C i j → C' i j) (hg : ∀ F i j, C i j → Rp F (g i j) (g' i j)) : OpD X Δ f (iD g' C) :=
  ⟨_, h, fun am F σ H c vx vy x y P Q ok rx ry ho k => by
    unfold iD at ho
    split at ho
    · cases rx; cases ry
      exact ⟨_, _, rfl, rfl, hC _ _ ho.1, k _ F _ H ho.2 (Le.refl F) ok (.of (hg F _ _ ho.1))⟩
    · exact ho.elim⟩
theorem op_iD0 {f : Value → Value → Sem Value} {g : Int → Int → V} {g' : Int → Int → Px} (h : OpR X f (rI0 g)) (hg : ∀ F i j, Rp F (g i j) (g' i j)) : OpD X Δ f (iD g' fun _ _ => True) :=
  ⟨_, h, fun am F σ H c vx vy x y P Q ok rx ry ho k => by
    unfold iD at ho
    split at ho
    · cases rx; cases ry
      exact ⟨_, _, rfl, rfl, k _ F _ H ho.2 (Le.refl F) ok (.of (hg F _ _))⟩
    · exact ho.elim⟩
def CMul2 (i j : Int) : Prop := (-(2 ^ 64) < i ∧ i < 2 ^ 64) ∨ (-(2 ^ 64) < j ∧ j < 2 ^ 64) ∨ ∃ a b : Nat, i.natAbs < 2 ^ a ∧ j.natAbs < 2 ^ b ∧ 0 < a ∧ 0 < b ∧ a + b ≤ 1000000
theorem do_sub : OpD X Δ (binaryOp .Sub) (iD (fun i j => .int (i - j)) fun _ _ => True) := op_iD0 op_sub fun _ _ _ => .int _
theorem opr_mono {f : Value → Value → Sem Value} {r r' : R2} (h : OpR X f r) (w : ∀ x y H Q, r' x y H Q → r x y H Q) : OpR X f r' := fun pins s σ H x y v u Q I rx ry q => h pins s σ H x y v u Q I rx ry (w _ _ _ _ q)
theorem do_mul : OpD X Δ (binaryOp .Mult) (iD (fun i j => .int (i * j)) CMul2) :=
  op_iD (C' := fun i j => CMul i j ∨ CMulW i j) (opr_mono (OpR.or op_mul op_mulW) fun x y H Q ⟨i, j, h1, h2, h3, h4⟩ => h3.elim (fun z => .inl ⟨i, j, h1, h2, z, h4⟩) fun z => .inr ⟨i, j, h1, h2, z, h4⟩)
    (fun i j h => by
      rcases h with h | h | ⟨a, b, h1, h2, h3, h4, h5⟩
      · exact .inl (.inl h)
      · exact .inl (.inr h)
      · exact .inr (wide_mul h1 h2 h3 h4 h5)) fun _ _ _ _ => .int _
def CDiv2 (i j : Int) : Prop := (j ≠ 0 ∧ j.natAbs < 1073741824) ∨ (0 < j ∧ ∃ b : Nat, j.natAbs < 2 ^ b ∧ 0 < b ∧ b ≤ 9000)
theorem do_fdiv : OpD X Δ (binaryOp .FloorDiv) (iD (fun i j => .int (i.fdiv j)) CDiv2) :=
  op_iD (C' := fun i j => CDivN i j ∨ CDivW i j) (opr_mono (OpR.or op_fdivN op_fdivW) fun x y H Q ⟨i, j, h1, h2, h3, h4⟩ => h3.elim (fun z => .inl ⟨i, j, h1, h2, z, h4⟩)
      fun z => .inr ⟨i, j, h1, h2, z, by have hp : (0 : Int) < j := z.1; show Q (V.int (i / j)) H; rw [← Int.fdiv_eq_ediv_of_nonneg i (by omega)]; exact h4⟩)
    (fun i j h => by
      rcases h with h | ⟨h, b, h1, h2, h3⟩
      · exact .inl h
      · exact .inr (wide_div h h1 h2 h3)) fun _ _ _ _ => .int _
theorem do_mod : OpD X Δ (binaryOp .Mod) (iD (fun i j => .int (i.fmod j)) fun _ j => j ≠ 0) := op_iD op_modN (fun _ _ h => h) fun _ _ _ _ => .int _
theorem do_lt : OpD X Δ (compareOp .Lt) (iD (fun i j => .bool (decide (i < j))) fun _ _ => True) := op_iD0 op_lt fun _ _ _ => .bl _
theorem do_le : OpD X Δ (compareOp .LtE) (iD (fun i j => .bool (decide (i ≤ j))) fun _ _ => True) := op_iD0 op_le fun _ _ _ => .bl _
theorem do_gt : OpD X Δ (compareOp .Gt) (iD (fun i j => .bool (decide (j < i))) fun _ _ => True) := op_iD0 op_gt fun _ _ _ => .bl _
theorem do_ge : OpD X Δ (compareOp .GtE) (iD (fun i j => .bool (decide (j ≤ i))) fun _ _ => True) := op_iD0 op_ge fun _ _ _ => .bl _
def eqD (neg : Bool) : OD := fun x y P => SeqAt.shaped x = true ∧ SeqAt.shaped y = true ∧ P (.d (.bool (if neg then !PyData.eqv x y else PyData.eqv x y)))
theorem do_eq (hK : Δ.K = X.K) (hu : X.A.units + 64 < cLine) : OpD X Δ (compareOp .Eq) (eqD false) :=
  ⟨_, op_eqD hu, fun am F σ H c vx vy x y P Q ok rx ry ho k => ⟨x, y, rx.dp ok.fh, ry.dp ok.fh, ho.1, ho.2.1, k _ F _ H ho.2.2 (Le.refl F) ok (.of (.bl _))⟩⟩
theorem do_ne (hK : Δ.K = X.K) (hu : X.A.units + 64 < cLine) : OpD X Δ (compareOp .NotEq) (eqD true) :=
  ⟨_, op_neD hu, fun am F σ H c vx vy x y P Q ok rx ry ho k => ⟨x, y, rx.dp ok.fh, ry.dp ok.fh, ho.1, ho.2.1, k _ F _ H ho.2.2 (Le.refl F) ok (.of (.bl _))⟩⟩
def negD : UD := fun x P => match x with
  | .int i => P (.d (.int (-i)))
  | _ => False
theorem do_neg : UnD X Δ (unaryOp .USub) negD :=
  ⟨_, un_neg, fun am F σ H c vx x P Q ok rx ho k => by
    unfold negD at ho
    split at ho
    · cases rx
      exact ⟨_, rfl, k _ F _ H ho (Le.refl F) ok (.of (.int _))⟩
    · exact ho.elim⟩
/-- +: of ints, lists, tuples -/
def addD : OD := fun x y P => match x, y with
  | .int i, .int j => P (.d (.int (i + j)))
  | .list xs, .list ys => xs.length + ys.length ≤ 1000000 ∧ P (.own (xs ++ ys))
  | .tuple xs, .tuple ys => xs.length + ys.length ≤ 1000000 ∧ P (.d (.tuple (xs ++ ys)))
  | _, _ => False
theorem line_of {n : Nat} (h : n ≤ 1000000) : n ≤ sizeLine := by rw [sizeLine_eq]; omega
theorem do_add (hK : Δ.K = X.K) : OpD X Δ (binaryOp .Add) addD :=
  ⟨_, OpR.or (OpR.or op_add op_cat) op_catA, fun am F σ H c vx vy x y P Q ok rx ry ho k => by
    unfold addD at ho
    split at ho
    · cases rx; cases ry
      exact .inl (.inl ⟨_, _, rfl, rfl, k _ F _ H ho (Le.refl F) ok (.of (.int _))⟩)
    · cases rx with
      | lst e1 r1 =>
        cases ry with
        | lst e2 r2 =>
          refine .inl (.inr ⟨_, _, _, _, rfl, rfl, ok.fh _ _ e1, ok.fh _ _ e2, line_of (by rw [r1.length, r2.length]; exact ho.1), fun p hp => ?_⟩)
          obtain ⟨o', rs⟩ := Rs.fresh ok hp (r1.append r2)
          exact k _ F _ _ ho.2 (Le.refl F) o' rs
    · rename_i xs ys
      cases rx with
      | tup e1 r1 =>
        cases ry with
        | tup e2 r2 =>
          refine .inr ⟨_, _, _, _, rfl, rfl, SqT.of (ok.fh _ _ e1), SqT.of (ok.fh _ _ e2), line_of (by rw [r1.length, r2.length]; exact ho.1), fun z => ?_, fun _ z => ?_, fun _ _ p hp => ?_⟩
          · have := r1.length
            rw [z] at this
            have e0 : xs = [] := List.length_eq_zero_iff.mp this.symm
            subst e0
            exact k _ F _ H ho.2 (Le.refl F) ok (.of (.tup e2 r2))
          · have := r2.length
            rw [z] at this
            have e0 : ys = [] := List.length_eq_zero_iff.mp this.symm
            subst e0
            have h3 := ho.2
            rw [List.append_nil] at h3
            exact k _ F _ H h3 (Le.refl F) ok (.of (.tup e1 r1))
          · obtain ⟨o', l, rp⟩ := ok.tupN hp (r1.append r2)
            exact k _ _ _ _ ho.2 l o' (.of rp)
    · exact ho.elim⟩
end
end Dl

set_option Elab.async false
set_option maxRecDepth 100000
set_option linter.all false
set_option autoImplicit false
namespace Dl
open PySem L2
section
variable {X : Cx} {Δ : Dx} {a b e : Expr} {fa fb fc : WE} {pos : Pos}

/-! ### a name's slot, looked at and not given away -/
def slotD (c : Cf) (i : Nat) (k : Px → Prop) : Prop := match c.env[i]? with
  | some (some (.d x)) => k x
  | some (some (.own xs)) => k (.list xs)
  | _ => False
/-- what a slot shows: data over a heap part below H, whose items are data over F -/
theorem Ok.look {am : Addr} {F : Hp} {σ : St} {H : Hp} {c : Cf} (k : Ok Δ am F σ H c) {i : Nat} {q : Px → Prop} (h : slotD c i q) :
    ∃ x v G, σ[i]? = some (some v) ∧ q x ∧ Le F G ∧ Le G H ∧ Rp G v x ∧
      (∀ xs, x = .list xs → ∃ a vs, v = .ref a ∧ H a = some (.lst vs) ∧ RpA F vs xs) ∧ (∀ xs, x = .tuple xs → ∃ a vs, v = .ref a ∧ H a = some (.tup vs) ∧ RpA F vs xs) := by
  unfold slotD at h
  split at h
  · rename_i x e
    obtain ⟨v, h1, h2⟩ := k.sv i _ e
    refine ⟨x, v, F, h1, h, Le.refl F, k.fh, h2, ?_, ?_⟩
    · rintro xs rfl
      cases h2 with
      | lst e1 r1 => exact ⟨_, _, rfl, k.fh _ _ e1, r1⟩
    · rintro xs rfl
      cases h2 with
      | tup e1 r1 => exact ⟨_, _, rfl, k.fh _ _ e1, r1⟩
  · rename_i xs e
    obtain ⟨v, h1, a, vs, e1, e2, e3, e4, e5⟩ := k.sv i _ e
    subst e1
    refine ⟨_, _, upd F a (.lst vs), h1, h, Le.up e3, ?_, .lst upd_same (e5.mono (Le.up e3)), ?_, fun ys z => nomatch z⟩
    · intro b o q
      by_cases z : b = a
      · subst z; rw [upd_same] at q; rw [e2]; exact q
      · rw [upd_ne z] at q; exact k.fh b o q
    · intro ys z
      cases z
      exact ⟨_, _, rfl, e2, e5⟩
  · exact h.elim
/-- an operation that gives a scalar and looks only at what stands -/
structure ScD (X : Cx) (f : Value → Value → Sem Value) (o : OD) : Prop where
  ex : ∃ r : R2, OpR X f r ∧ ∀ (G H : Hp) (vx vy : V) (x y : Px) (P : Rv → Prop) (Q : VK), Le G H → Rp G vx x → Rp G vy y → o x y P →
    (∀ z v, P (.d z) → (∀ F, Rp F v z) → Q v H) → r vx vy H Q

def hasD (c : Cf) (i : Nat) : Prop := slotD c i fun _ => True
def eScL (i : Nat) (o : OD) (fb : WE) : WE := fun c P X => hasD c i ∧ fb c (fun r2 c2 => asD r2 fun y => slotD c2 i fun x => o x y fun r => P r c2) X
def eScR (i : Nat) (o : OD) (fa : WE) : WE := fun c P X => fa c (fun r1 c1 => asD r1 fun x => slotD c1 i fun y => o x y fun r => P r c1) X
def eSc (o : OD) (fa fb : WE) : WE := fun c P X => fa c (fun r1 c1 => asD r1 fun x => fb c1 (fun r2 c2 => asD r2 fun y => o x y fun r => P r c2) X) X
theorem scL_of {r : R2} {o : OD} {i : Nat} (h2 : ∀ (G H : Hp) (vx vy : V) (x y : Px) (P : Rv → Prop) (Q : VK), Le G H → Rp G vx x → Rp G vy y → o x y P →
    (∀ z v, P (.d z) → (∀ F, Rp F v z) → Q v H) → r vx vy H Q) (σ : St) (H : Hp) (Q : VK) (h : tE Δ (eScL i o fb) σ H Q) : tOp r (tVar i) (tE Δ fb) σ H Q := by
  obtain ⟨am, F, c, P, XX, ok, ⟨hd, hf⟩, kq, kx⟩ := h
  obtain ⟨_, v, _, hv, _⟩ := ok.look hd
  refine ⟨v, hv, am, F, c, _, XX, ok, hf, fun r2 c2 F2 v2 H2 p2 l2 o2 s2 => ?_, kx⟩
  obtain ⟨y, F2', hy, l2', o2', rp2⟩ := s2.data o2 p2
  obtain ⟨x, w, G, e1, hx, l3, l4, rpx, _⟩ := o2'.look hy
  rw [hv] at e1
  cases e1
  exact h2 G H2 v v2 x y _ Q l4 rpx (rp2.mono l3) hx fun z u pz rz => kq _ c2 F2' u H2 pz (l2.trans l2') o2' (.of (rz _))
theorem scR_of {r : R2} {o : OD} {i : Nat} (h2 : ∀ (G H : Hp) (vx vy : V) (x y : Px) (P : Rv → Prop) (Q : VK), Le G H → Rp G vx x → Rp G vy y → o x y P →
    (∀ z v, P (.d z) → (∀ F, Rp F v z) → Q v H) → r vx vy H Q) (σ : St) (H : Hp) (Q : VK) (h : tE Δ (eScR i o fa) σ H Q) : tOp r (tE Δ fa) (tVar i) σ H Q := by
  obtain ⟨am, F, c, P, XX, ok, hf, kq, kx⟩ := h
  refine ⟨am, F, c, _, XX, ok, hf, fun r1 c1 F1 v1 H1 p1 l1 o1 s1 => ?_, kx⟩
  obtain ⟨x, F1', hx, l1', o1', rp1⟩ := s1.data o1 p1
  obtain ⟨y, w, G, e1, hy, l3, l4, rpy, _⟩ := o1'.look hx
  exact ⟨w, e1, h2 G H1 v1 w x y _ Q l4 (rp1.mono l3) rpy hy fun z u pz rz => kq _ c1 F1' u H1 pz (l1.trans l1') o1' (.of (rz _))⟩
theorem sc_of {r : R2} {o : OD} (h2 : ∀ (G H : Hp) (vx vy : V) (x y : Px) (P : Rv → Prop) (Q : VK), Le G H → Rp G vx x → Rp G vy y → o x y P →
    (∀ z v, P (.d z) → (∀ F, Rp F v z) → Q v H) → r vx vy H Q) (σ : St) (H : Hp) (Q : VK) (h : tE Δ (eSc o fa fb) σ H Q) : tOp r (tE Δ fa) (tE Δ fb) σ H Q :=
  two_of (o := o) (fun am F σ H c vx vy x y P Q ok rx ry ho k => h2 F H vx vy x y P Q ok.fh rx ry ho fun z v pz rz => k _ F v H pz (Le.refl F) ok (.of (rz F))) σ H Q h
section
variable {op : CmpOp} {o : OD}
theorem de_cmpNL (i : Nat) {x : Str} {p : Pos} (ho : ScD X (compareOp op) o) (hb : PE X b (tE Δ fb)) (hm : behindInMarks op b = false) (hN : X.N[i]? = some x := by rfl)
    (hv : Vis X.env.scope x := by first | exact Or.inl rfl | exact Or.inr (Or.inl rfl) | exact Or.inr (Or.inr rfl)) (hd : (x == ("__debug__" : Str)) = false := by decide)
    (hcd : (x == ("__classdict__" : Str)) = false := by decide) : PE X (.Compare (.Name x p) [op] [b] pos) (tE Δ (eScL i o fb)) := by
  obtain ⟨r, h1, h2⟩ := ho.ex
  exact (pe_cmpR h1 (pv i hN hv hd hcd) hb hm).imp fun σ H Q h => scL_of h2 σ H Q h
theorem de_cmpNR (i : Nat) {x : Str} {p : Pos} (ho : ScD X (compareOp op) o) (ha : PE X a (tE Δ fa)) (hm : behindInMarks op (.Name x p) = false) (hN : X.N[i]? = some x := by rfl)
    (hv : Vis X.env.scope x := by first | exact Or.inl rfl | exact Or.inr (Or.inl rfl) | exact Or.inr (Or.inr rfl)) (hd : (x == ("__debug__" : Str)) = false := by decide)
    (hcd : (x == ("__classdict__" : Str)) = false := by decide) : PE X (.Compare a [op] [.Name x p] pos) (tE Δ (eScR i o fa)) := by
  obtain ⟨r, h1, h2⟩ := ho.ex
  exact (pe_cmpR h1 ha (pv i hN hv hd hcd) hm).imp fun σ H Q h => scR_of h2 σ H Q h
theorem de_cmp' (ho : ScD X (compareOp op) o) (ha : PE X a (tE Δ fa)) (hb : PE X b (tE Δ fb)) (hm : behindInMarks op b = false) : PE X (.Compare a [op] [b] pos) (tE Δ (eSc o fa fb)) := by
  obtain ⟨r, h1, h2⟩ := ho.ex
  exact (pe_cmpR h1 ha hb hm).imp fun σ H Q h => sc_of h2 σ H Q h
/-- the same as tests -/
def wB (f : WE) : WT := fun c P X => f c (fun r c1 => match r with
  | .d (.bool b) => P b c1
  | _ => False) X
theorem tB_of (t : TE) (f : WE) (w : ∀ σ H Q, tE Δ f σ H Q → t σ H Q) (σ : St) (H : Hp) (Q : Bool → Hp → Prop) (h : tT Δ (wB f) σ H Q) : tTest t σ H Q := by
  obtain ⟨am, F, c, P, XX, ok, hf, kq, kx⟩ := h
  refine w σ H _ ⟨am, F, c, _, XX, ok, hf, fun r c' F' v H' p l o s => ?_, kx⟩
  dsimp only at p
  split at p
  · rename_i b
    have h1 := s.1
    cases h1
    exact ⟨b, rfl, kq b c' F' H' p l o⟩
  · exact p.elim
theorem dt_cmpNL (i : Nat) {x : Str} {p : Pos} (ho : ScD X (compareOp op) o) (hb : PE X b (tE Δ fb)) (hm : behindInMarks op b = false) (hN : X.N[i]? = some x := by rfl)
    (hv : Vis X.env.scope x := by first | exact Or.inl rfl | exact Or.inr (Or.inl rfl) | exact Or.inr (Or.inr rfl)) (hd : (x == ("__debug__" : Str)) = false := by decide)
    (hcd : (x == ("__classdict__" : Str)) = false := by decide) : PT X (.Compare (.Name x p) [op] [b] pos) (tT Δ (wB (eScL i o fb))) := by
  obtain ⟨r, h1, h2⟩ := ho.ex
  exact (pt_cmpR h1 (pv i hN hv hd hcd) hb hm).imp fun σ H Q h => tB_of _ _ (fun σ H Q h => scL_of h2 σ H Q h) σ H Q h
theorem dt_cmpNR (i : Nat) {x : Str} {p : Pos} (ho : ScD X (compareOp op) o) (ha : PE X a (tE Δ fa)) (hm : behindInMarks op (.Name x p) = false) (hN : X.N[i]? = some x := by rfl)
    (hv : Vis X.env.scope x := by first | exact Or.inl rfl | exact Or.inr (Or.inl rfl) | exact Or.inr (Or.inr rfl)) (hd : (x == ("__debug__" : Str)) = false := by decide)
    (hcd : (x == ("__classdict__" : Str)) = false := by decide) : PT X (.Compare a [op] [.Name x p] pos) (tT Δ (wB (eScR i o fa))) := by
  obtain ⟨r, h1, h2⟩ := ho.ex
  exact (pt_cmpR h1 ha (pv i hN hv hd hcd) hm).imp fun σ H Q h => tB_of _ _ (fun σ H Q h => scR_of h2 σ H Q h) σ H Q h
theorem dt_cmp (ho : ScD X (compareOp op) o) (ha : PE X a (tE Δ fa)) (hb : PE X b (tE Δ fb)) (hm : behindInMarks op b = false) : PT X (.Compare a [op] [b] pos) (tT Δ (wB (eSc o fa fb))) := by
  obtain ⟨r, h1, h2⟩ := ho.ex
  exact (pt_cmpR h1 ha hb hm).imp fun σ H Q h => tB_of _ _ (fun σ H Q h => sc_of h2 σ H Q h) σ H Q h
variable {op' : CmpOp} {o' : OD}
def eCh (o o' : OD) (fa fb fc : WE) : WE := fun c P X => fa c (fun r1 c1 => asD r1 fun x => fb c1 (fun r2 c2 => asD r2 fun y => o x y fun r => match r with
  | .d (.bool true) => fc c2 (fun r3 c3 => asD r3 fun z => o' y z fun r => P r c3) X
  | .d (.bool false) => P (.d (.bool false)) c2
  | _ => False) X) X
theorem ch_of {d : Expr} {r r' : R2} {fd : WE} (h2 : ∀ (G H : Hp) (vx vy : V) (x y : Px) (P : Rv → Prop) (Q : VK), Le G H → Rp G vx x → Rp G vy y → o x y P →
    (∀ z v, P (.d z) → (∀ F, Rp F v z) → Q v H) → r vx vy H Q) (h2' : ∀ (G H : Hp) (vx vy : V) (x y : Px) (P : Rv → Prop) (Q : VK), Le G H → Rp G vx x → Rp G vy y → o' x y P →
    (∀ z v, P (.d z) → (∀ F, Rp F v z) → Q v H) → r' vx vy H Q) (σ : St) (H : Hp) (Q : VK) (h : tE Δ (eCh o o' fa fb fd) σ H Q) : tChain r r' (tE Δ fa) (tE Δ fb) (tE Δ fd) σ H Q := by
  obtain ⟨am, F, c, P, XX, ok, hf, kq, kx⟩ := h
  refine ⟨am, F, c, _, XX, ok, hf, fun r1 c1 F1 v1 H1 p1 l1 o1 s1 => ?_, kx⟩
  obtain ⟨x, F1', hx, l1', o1', rp1⟩ := s1.data o1 p1
  refine ⟨am, F1', c1, _, XX, o1', hx, fun r2 c2 F2 v2 H2 p2 l2 o2 s2 => ?_, kx.le (l1.trans l1')⟩
  obtain ⟨y, F2', hy, l2', o2', rp2⟩ := s2.data o2 p2
  have l3 : Le F1' F2' := l2.trans l2'
  refine h2 F2' H2 v1 v2 x y _ _ o2'.fh (rp1.mono l3) rp2 hy fun z v pz rz => ?_
  split at pz
  · rename_i e
    cases e
    have e1 := rz F2'
    cases e1
    refine ⟨true, rfl, ?_⟩
    rw [if_pos rfl]
    refine ⟨am, F2', c2, _, XX, o2', pz, fun r3 c3 F3 v3 H3 p3 l3' o3 s3 => ?_, kx.le ((l1.trans l1').trans l3)⟩
    obtain ⟨w, F3', hw, l4, o3', rp3⟩ := s3.data o3 p3
    exact h2' F3' H3 v2 v3 y w _ _ o3'.fh (rp2.mono (l3'.trans l4)) rp3 hw fun z' v' pz' rz' => kq _ c3 F3' v' H3 pz' ((((l1.trans l1').trans l3).trans l3').trans l4) o3' (.of (rz' _))
  · rename_i e
    cases e
    have e1 := rz F2'
    cases e1
    refine ⟨false, rfl, ?_⟩
    rw [if_neg Bool.false_ne_true]
    exact kq _ c2 F2' _ H2 pz ((l1.trans l1').trans l3) o2' (.of (.bl false))
  · exact pz.elim

theorem de_chain {d : Expr} {fd : WE} (ho : ScD X (compareOp op) o) (ho' : ScD X (compareOp op') o') (ha : PE X a (tE Δ fa)) (hb : PE X b (tE Δ fb)) (hc : PE X d (tE Δ fd))
    (hm : lastMarks [op, op'] [b, d] = false := by with_unfolding_all rfl) : PE X (.Compare a [op, op'] [b, d] pos) (tE Δ (eCh o o' fa fb fd)) := by
  obtain ⟨r, h1, h2⟩ := ho.ex
  obtain ⟨r', h1', h2'⟩ := ho'.ex
  exact (pe_chain h1 h1' ha hb hc hm).imp fun σ H Q h => ch_of (d := d) h2 h2' σ H Q h
theorem dt_chain {d : Expr} {fd : WE} (ho : ScD X (compareOp op) o) (ho' : ScD X (compareOp op') o') (ha : PE X a (tE Δ fa)) (hb : PE X b (tE Δ fb)) (hc : PE X d (tE Δ fd))
    (hm : lastMarks [op, op'] [b, d] = false := by with_unfolding_all rfl) : PT X (.Compare a [op, op'] [b, d] pos) (tT Δ (wB (eCh o o' fa fb fd))) := by
  obtain ⟨r, h1, h2⟩ := ho.ex
  obtain ⟨r', h1', h2'⟩ := ho'.ex
  exact (pt_chain h1 h1' ha hb hc hm).imp fun σ H Q h => tB_of _ _ (fun σ H Q h => ch_of (d := d) h2 h2' σ H Q h) σ H Q h
end
/-! the comparisons -/
theorem sc_int {f : Value → Value → Sem Value} {g : Int → Int → Bool} (h : OpR X f (rI0 fun i j => .bl (g i j))) : ScD X f (iD (fun i j => .bool (g i j)) fun _ _ => True) :=
  ⟨_, h, fun G H vx vy x y P Q l rx ry ho k => by
    unfold iD at ho
    split at ho
    · cases rx; cases ry
      exact ⟨_, _, rfl, rfl, k _ _ ho.2 fun F => .bl _⟩
    · exact ho.elim⟩
def ltD : OD := iD (fun i j => .bool (decide (i < j))) fun _ _ => True
def leD : OD := iD (fun i j => .bool (decide (i ≤ j))) fun _ _ => True
def gtD : OD := iD (fun i j => .bool (decide (j < i))) fun _ _ => True
def geD : OD := iD (fun i j => .bool (decide (j ≤ i))) fun _ _ => True
theorem sc_lt : ScD X (compareOp .Lt) ltD := sc_int op_lt
theorem sc_le : ScD X (compareOp .LtE) leD := sc_int op_le
theorem sc_gt : ScD X (compareOp .Gt) gtD := sc_int op_gt
theorem sc_ge : ScD X (compareOp .GtE) geD := sc_int op_ge
theorem sc_eq (hu : X.A.units + 64 < cLine) : ScD X (compareOp .Eq) (eqD false) :=
  ⟨_, op_eqD hu, fun G H vx vy x y P Q l rx ry ho k => ⟨x, y, rx.dp l, ry.dp l, ho.1, ho.2.1, k _ _ ho.2.2 fun F => .bl _⟩⟩
theorem sc_ne (hu : X.A.units + 64 < cLine) : ScD X (compareOp .NotEq) (eqD true) :=
  ⟨_, op_neD hu, fun G H vx vy x y P Q l rx ry ho k => ⟨x, y, rx.dp l, ry.dp l, ho.1, ho.2.1, k _ _ ho.2.2 fun F => .bl _⟩⟩
/-- in, over flat things: ints, texts, None, bools -/
def flatD : Px → Bool
  | .none | .bool _ | .int _ | .str _ => true
  | _ => false
def inD (neg : Bool) : OD := fun x y P => match y with
  | .list ys => flatD x = true ∧ ys.all flatD = true ∧ P (.d (.bool (if neg then !ys.any fun z => PyData.eqv z x else ys.any fun z => PyData.eqv z x)))
  | .tuple ys => flatD x = true ∧ ys.all flatD = true ∧ P (.d (.bool (if neg then !ys.any fun z => PyData.eqv z x else ys.any fun z => PyData.eqv z x)))
  | _ => False
theorem flat_rp {F : Hp} {v : V} {x : Px} (r : Rp F v x) (h : flatD x = true) : flatV v = true := by
  cases r <;> first | rfl | exact absurd h (by simp [flatD])
theorem flat_rpa {F : Hp} : ∀ {vs : List V} {xs : List Px}, RpA F vs xs → xs.all flatD = true → vs.all flatV = true
  | _, _, .nil, _ => rfl
  | _, _, .cons a b, h => by
    simp only [List.all_cons, Bool.and_eq_true] at h ⊢
    exact ⟨flat_rp a h.1, flat_rpa b h.2⟩
theorem eqv_rp {F G : Hp} {v w : V} {x y : Px} (r : Rp F v x) (q : Rp G w y) (hx : flatD x = true) (hy : flatD y = true) : eqV v w = PyData.eqv x y := by
  cases r <;> cases q <;> first | rfl | (exact absurd hx (by simp [flatD])) | (exact absurd hy (by simp [flatD])) | (simp [eqV, PyData.eqv]; done) | (simp [eqV, PyData.eqv, b2i]; done) | skip
theorem any_rp {F G : Hp} {v : V} {x : Px} (r : Rp G v x) (hx : flatD x = true) : ∀ {vs : List V} {xs : List Px}, RpA F vs xs → xs.all flatD = true → (vs.any fun w => eqV w v) = xs.any fun z => PyData.eqv z x
  | _, _, .nil, _ => rfl
  | _, _, .cons a b, h => by
    simp only [List.all_cons, Bool.and_eq_true] at h
    simp only [List.any_cons, eqv_rp a r h.1 hx, any_rp r hx b h.2]
theorem sc_inG {f : Value → Value → Sem Value} {neg : Bool} (h : OpR X f (rIn X.K neg)) : ScD X f (inD neg) :=
  ⟨_, h, fun G H vx vy x y P Q l rx ry ho k => by
    unfold inD at ho
    split at ho
    · cases ry with
      | lst e r1 =>
        refine ⟨_, _, rfl, .inl (SqL.of (l _ _ e)), flat_rp rx ho.1, flat_rpa r1 ho.2.1, ?_⟩
        unfold inV
        rw [any_rp rx ho.1 r1 ho.2.1]
        exact k _ _ ho.2.2 fun F => .bl _
    · cases ry with
      | tup e r1 =>
        refine ⟨_, _, rfl, .inr (SqT.of (l _ _ e)), flat_rp rx ho.1, flat_rpa r1 ho.2.1, ?_⟩
        unfold inV
        rw [any_rp rx ho.1 r1 ho.2.1]
        exact k _ _ ho.2.2 fun F => .bl _
    · exact ho.elim⟩
theorem sc_in : ScD X (compareOp .In) (inD false) := sc_inG op_in_seq
theorem sc_notin : ScD X (compareOp .NotIn) (inD true) := sc_inG op_notIn_seq
/-- is None -/
def isND (neg : Bool) : OD := fun x y P => match y with
  | .none => P (.d (.bool (match x with | .none => !neg | _ => neg)))
  | _ => False
theorem sc_isN : ScD X (compareOp .Is) (isND false) :=
  ⟨_, op_isN, fun G H vx vy x y P Q l rx ry ho k => by
    unfold isND at ho
    split at ho
    · cases ry
      refine ⟨rfl, k _ _ ho fun F => ?_⟩
      cases rx <;> exact .bl _
    · exact ho.elim⟩
theorem sc_notN : ScD X (compareOp .IsNot) (isND true) :=
  ⟨_, op_notN, fun G H vx vy x y P Q l rx ry ho k => by
    unfold isND at ho
    split at ho
    · cases ry
      refine ⟨rfl, k _ _ ho fun F => ?_⟩
      cases rx <;> exact .bl _
    · exact ho.elim⟩

/-! ### truth -/
def truD (x : Px) (k : Bool → Prop) : Prop := match x with
  | .none => k false
  | .bool b => k b
  | .int i => k (i != 0)
  | .list xs => k (!xs.isEmpty)
  | .tuple xs => k (!xs.isEmpty)
  | _ => False
theorem RpA.emp {F : Hp} {vs : List V} {xs : List Px} (r : RpA F vs xs) : vs.isEmpty = xs.isEmpty := by cases r <;> rfl
theorem tru_of {K : PySem.W.Frag} {G H : Hp} {v : V} {x : Px} {q : Bool → Prop} (l : Le G H) (r : Rp G v x) (h : truD x q) : ∃ k, TruV K v H k ∧ q k := by
  cases r with
  | non => exact ⟨false, rfl, h⟩
  | bl b => exact ⟨b, rfl, h⟩
  | int i => exact ⟨_, rfl, h⟩
  | str x => exact (show False from h).elim
  | lst e r1 => exact ⟨_, .inl ⟨_, SqL.of (l _ _ e), rfl⟩, by rw [r1.emp]; exact h⟩
  | tup e r1 => exact ⟨_, .inr (.inl ⟨_, SqT.of (l _ _ e), rfl⟩), by rw [r1.emp]; exact h⟩
def wTru (fa : WE) : WT := fun c P X => fa c (fun r c1 => asD r fun x => truD x fun b => P b c1) X
def wTruN (i : Nat) : WT := fun c P _ => slotD c i fun x => truD x fun b => P b c
theorem dt_tru (ha : PE X a (tE Δ fa)) (he : ∀ whole, isTrue a X.env whole = (do let v ← whole; standAt a.pos; holding [v] (truthy v)) := by intro _; rfl) : PT X a (tT Δ (wTru fa)) := by
  refine (pt_truth ha he).imp fun σ H Q ⟨am, F, c, P, XX, ok, hf, kq, kx⟩ => ?_
  refine ⟨am, F, c, _, XX, ok, hf, fun r1 c1 F1 v1 H1 p1 l1 o1 s1 => ?_, kx⟩
  obtain ⟨x, F1', hx, l1', o1', rp1⟩ := s1.data o1 p1
  obtain ⟨k, h1, h2⟩ := tru_of (K := X.K) o1'.fh rp1 hx
  exact ⟨k, h1, kq k c1 F1' H1 h2 (l1.trans l1') o1'⟩
theorem dt_truN (i : Nat) {x : Str} {p : Pos} (hN : X.N[i]? = some x := by rfl)
    (hv : Vis X.env.scope x := by first | exact Or.inl rfl | exact Or.inr (Or.inl rfl) | exact Or.inr (Or.inr rfl)) (hd : (x == ("__debug__" : Str)) = false := by decide)
    (hcd : (x == ("__classdict__" : Str)) = false := by decide) : PT X (.Name x p) (tT Δ (wTruN i)) := by
  refine (pt_truth (pv i hN hv hd hcd) (by intro _; rfl)).imp fun σ H Q ⟨am, F, c, P, XX, ok, hf, kq, kx⟩ => ?_
  obtain ⟨x, v, G, e1, hx, l3, l4, rpx, _⟩ := ok.look hf
  obtain ⟨k, h1, h2⟩ := tru_of (K := X.K) l4 rpx hx
  exact ⟨v, e1, k, h1, kq k c F H h2 (Le.refl F) ok⟩
section
variable {fA fB : WT} {rest : List Expr}
def wAnd (t u : WT) : WT := fun c P X => t c (fun b c1 => if b = true then u c1 P X else P false c1) X
def wOr (t u : WT) : WT := fun c P X => t c (fun b c1 => if b = true then P true c1 else u c1 P X) X
def wNot (t : WT) : WT := fun c P X => t c (fun b c1 => P (!b) c1) X
theorem _root_.L2.PW.imp {t t' : TT} (h : PW X a t) (w : ∀ σ H Q, t' σ H Q → t σ H Q) : PW X a t' :=
  ⟨fun wh pins s σ H Q I q => h.run wh pins s σ H Q I (w σ H Q q)⟩
theorem dw_and1 (ha : PT X a (tT Δ fA)) : PW X (.BoolOp .And [a] pos) (tT Δ fA) := pw_and1 ha
theorem dw_or1 (ha : PT X a (tT Δ fA)) : PW X (.BoolOp .Or [a] pos) (tT Δ fA) := pw_or1 ha
theorem dw_and (ha : PT X a (tT Δ fA)) (hb : PW X (.BoolOp .And (b :: rest) pos) (tT Δ fB)) : PW X (.BoolOp .And (a :: b :: rest) pos) (tT Δ (wAnd fA fB)) := by
  refine (pw_and ha hb).imp fun σ H Q ⟨am, F, c, P, XX, ok, hf, kq, kx⟩ => ?_
  refine ⟨am, F, c, _, XX, ok, hf, fun k c1 F1 H1 p1 l1 o1 => ?_, kx⟩
  cases k with
  | true =>
    rw [if_pos rfl]
    rw [if_pos rfl] at p1
    exact ⟨am, F1, c1, _, XX, o1, p1, fun k' c2 F2 H2 p2 l2 o2 => kq k' c2 F2 H2 p2 (l1.trans l2) o2, kx.le l1⟩
  | false =>
    rw [if_neg Bool.false_ne_true]
    rw [if_neg Bool.false_ne_true] at p1
    exact kq false c1 F1 H1 p1 l1 o1
theorem dw_or (ha : PT X a (tT Δ fA)) (hb : PW X (.BoolOp .Or (b :: rest) pos) (tT Δ fB)) : PW X (.BoolOp .Or (a :: b :: rest) pos) (tT Δ (wOr fA fB)) := by
  refine (pw_or ha hb).imp fun σ H Q ⟨am, F, c, P, XX, ok, hf, kq, kx⟩ => ?_
  refine ⟨am, F, c, _, XX, ok, hf, fun k c1 F1 H1 p1 l1 o1 => ?_, kx⟩
  cases k with
  | false =>
    rw [if_neg Bool.false_ne_true]
    rw [if_neg Bool.false_ne_true] at p1
    exact ⟨am, F1, c1, _, XX, o1, p1, fun k' c2 F2 H2 p2 l2 o2 => kq k' c2 F2 H2 p2 (l1.trans l2) o2, kx.le l1⟩
  | true =>
    rw [if_pos rfl]
    rw [if_pos rfl] at p1
    exact kq true c1 F1 H1 p1 l1 o1
theorem dt_not (ha : PT X a (tT Δ fA)) : PT X (.UnaryOp .Not a pos) (tT Δ (wNot fA)) := by
  refine (pt_not ha).imp fun σ H Q ⟨am, F, c, P, XX, ok, hf, kq, kx⟩ => ?_
  exact ⟨am, F, c, _, XX, ok, hf, fun k c1 F1 H1 p1 l1 o1 => kq _ c1 F1 H1 p1 l1 o1, kx⟩
end
/-! and, or, not as values: all but the last are bools -/
section
variable {rest : List Expr}
def asB (r : Rv) (k : Bool → Prop) : Prop := match r with
  | .d (.bool b) => k b
  | _ => False
theorem asB_of {am : Addr} {F : Hp} {σ : St} {H : Hp} {c : Cf} {r : Rv} {v : V} {q : Bool → Prop} (s : Rs Δ am F σ H c r v) (h : asB r q) : ∃ b, r = .d (.bool b) ∧ v = .bl b ∧ q b := by
  unfold asB at h
  split at h
  · have h1 := s.1
    cases h1
    exact ⟨_, rfl, rfl, h⟩
  · exact h.elim
def eAnd (t u : WE) : WE := fun c P X => t c (fun r c1 => asB r fun b => if b = true then u c1 P X else P (.d (.bool false)) c1) X
def eOr (t u : WE) : WE := fun c P X => t c (fun r c1 => asB r fun b => if b = true then P (.d (.bool true)) c1 else u c1 P X) X
def eNot (t : WE) : WE := fun c P X => t c (fun r c1 => asB r fun b => P (.d (.bool (!b))) c1) X
theorem de_one {op : BoolOp} (h : PE X a (tE Δ fa)) : PE X (.BoolOp op [a] pos) (tE Δ fa) := pe_one h
theorem de_and (ha : PE X a (tE Δ fa)) (hb : PE X (.BoolOp .And (b :: rest) pos) (tE Δ fb)) : PE X (.BoolOp .And (a :: b :: rest) pos) (tE Δ (eAnd fa fb)) := by
  refine (pe_and ha hb).imp fun σ H Q ⟨am, F, c, P, XX, ok, hf, kq, kx⟩ => ?_
  refine ⟨am, F, c, _, XX, ok, hf, fun r c1 F1 v1 H1 p1 l1 o1 s1 => ?_, kx⟩
  obtain ⟨k, rfl, rfl, q⟩ := asB_of s1 p1
  refine ⟨k, rfl, ?_⟩
  cases k with
  | true =>
    rw [if_pos rfl]
    rw [if_pos rfl] at q
    exact ⟨am, F1, c1, _, XX, o1, q, fun r2 c2 F2 v2 H2 p2 l2 o2 s2 => kq r2 c2 F2 v2 H2 p2 (l1.trans l2) o2 s2, kx.le l1⟩
  | false =>
    rw [if_neg Bool.false_ne_true]
    rw [if_neg Bool.false_ne_true] at q
    exact kq _ c1 F1 _ H1 q l1 o1 (.of (.bl false))
theorem de_or (ha : PE X a (tE Δ fa)) (hb : PE X (.BoolOp .Or (b :: rest) pos) (tE Δ fb)) : PE X (.BoolOp .Or (a :: b :: rest) pos) (tE Δ (eOr fa fb)) := by
  refine (pe_or ha hb).imp fun σ H Q ⟨am, F, c, P, XX, ok, hf, kq, kx⟩ => ?_
  refine ⟨am, F, c, _, XX, ok, hf, fun r c1 F1 v1 H1 p1 l1 o1 s1 => ?_, kx⟩
  obtain ⟨k, rfl, rfl, q⟩ := asB_of s1 p1
  refine ⟨k, rfl, ?_⟩
  cases k with
  | false =>
    rw [if_neg Bool.false_ne_true]
    rw [if_neg Bool.false_ne_true] at q
    exact ⟨am, F1, c1, _, XX, o1, q, fun r2 c2 F2 v2 H2 p2 l2 o2 s2 => kq r2 c2 F2 v2 H2 p2 (l1.trans l2) o2 s2, kx.le l1⟩
  | true =>
    rw [if_pos rfl]
    rw [if_pos rfl] at q
    exact kq _ c1 F1 _ H1 q l1 o1 (.of (.bl true))
theorem de_not (ha : PE X a (tE Δ fa)) : PE X (.UnaryOp .Not a pos) (tE Δ (eNot fa)) := by
  refine (pe_not ha).imp fun σ H Q ⟨am, F, c, P, XX, ok, hf, kq, kx⟩ => ?_
  refine ⟨am, F, c, _, XX, ok, hf, fun r c1 F1 v1 H1 p1 l1 o1 s1 => ?_, kx⟩
  obtain ⟨k, rfl, rfl, q⟩ := asB_of s1 p1
  exact ⟨k, rfl, kq _ c1 F1 _ H1 q l1 o1 (.of (.bl _))⟩
def eIf (t : WT) (fa fb : WE) : WE := fun c P X => t c (fun b c1 => if b = true then fa c1 P X else fb c1 P X) X
theorem de_if {cnd : Expr} {fA : WT} (hc : PT X cnd (tT Δ fA)) (ha : PE X a (tE Δ fa)) (hb : PE X b (tE Δ fb)) : PE X (.IfExp cnd a b pos) (tE Δ (eIf fA fa fb)) := by
  refine (pe_ifExp hc ha hb).imp fun σ H Q ⟨am, F, c, P, XX, ok, hf, kq, kx⟩ => ?_
  refine ⟨am, F, c, _, XX, ok, hf, fun k c1 F1 H1 p1 l1 o1 => ?_, kx⟩
  cases k with
  | true =>
    rw [if_pos rfl]
    rw [if_pos rfl] at p1
    exact ⟨am, F1, c1, _, XX, o1, p1, fun r2 c2 F2 v2 H2 p2 l2 o2 s2 => kq r2 c2 F2 v2 H2 p2 (l1.trans l2) o2 s2, kx.le l1⟩
  | false =>
    rw [if_neg Bool.false_ne_true]
    rw [if_neg Bool.false_ne_true] at p1
    exact ⟨am, F1, c1, _, XX, o1, p1, fun r2 c2 F2 v2 H2 p2 l2 o2 s2 => kq r2 c2 F2 v2 H2 p2 (l1.trans l2) o2 s2, kx.le l1⟩
end
end
end Dl

set_option Elab.async false
set_option maxRecDepth 100000
set_option linter.all false
set_option autoImplicit false
namespace Dl
open PySem L2
section
variable {X : Cx} {Δ : Dx} {a b e : Expr} {fa fb fc : WE} {pos : Pos} {es : List Expr} {fr : WA}

/-! ### arguments -/
def argR (r : Rv) (k : Rv → Prop) : Prop := match r with
  | .d x => k (.d x)
  | .own xs => k (.d (.list xs))
  | .gen => k .gen
  | .scr ns => k (.scr ns)
def aNil : WA := fun c P _ => P [] c
def aCons (f : WE) (g : WA) : WA := fun c P X => f c (fun r c1 => argR r fun x => g c1 (fun rs c2 => P (x :: rs) c2) X) X
theorem da_nil : PA X [] (tA Δ aNil) := pa_nil.imp fun σ H Q ⟨am, F, c, P, XX, ok, hf, kq, kx⟩ => kq _ c F _ H hf (Le.refl F) ok .nil
theorem Rs.arg {am : Addr} {F : Hp} {σ : St} {H : Hp} {c : Cf} {r : Rv} {v : V} {k : Rv → Prop} (o : Ok Δ am F σ H c) (h : Rs Δ am F σ H c r v) (q : argR r k) :
    ∃ x F', k x ∧ Le F F' ∧ Ok Δ am F' σ H c ∧ ∀ G rs vs, Le F' G → Rss Δ am G rs vs → Rss Δ am G (x :: rs) (v :: vs) := by
  cases r with
  | d x => exact ⟨_, F, q, Le.refl F, o, fun G rs vs l s => .d (Rp.mono l h.1) s⟩
  | own xs =>
    obtain ⟨x, F', h1, l, o', rp⟩ := h.data (k := fun x => k (.d x)) o q
    exact ⟨_, F', h1, l, o', fun G rs vs l s => .d (Rp.mono l rp) s⟩
  | gen =>
    have e : v = .ref am := h.1
    subst e
    exact ⟨_, F, q, Le.refl F, o, fun G rs vs l s => .gen s⟩
  | scr ns =>
    obtain ⟨a, e, hq⟩ := h.1
    subst e
    exact ⟨_, F, q, Le.refl F, o, fun G rs vs l s => .scr (sq_le l hq) s⟩
theorem da_cons (ha : PE X e (tE Δ fa)) (hr : PA X es (tA Δ fr)) (hs : starEach (e :: es) X.env = (false, eval e X.env) :: starEach es X.env := by rfl) : PA X (e :: es) (tA Δ (aCons fa fr)) := by
  refine (pa_cons ha hr hs).imp fun σ H Q ⟨am, F, c, P, XX, ok, hf, kq, kx⟩ => ?_
  refine ⟨am, F, c, _, XX, ok, hf, fun r1 c1 F1 v1 H1 p1 l1 o1 s1 => ?_, kx⟩
  obtain ⟨x, F1', hx, l1', o1', g⟩ := s1.arg o1 p1
  exact ⟨am, F1', c1, _, XX, o1', hx, fun rs c2 F2 vs H2 p2 l2 o2 s2 => kq _ c2 F2 _ H2 p2 ((l1.trans l1').trans l2) o2 (g F2 rs vs l2 s2), kx.le (l1.trans l1')⟩
/-- the arguments are data -/
def asDs : List Rv → (List Px → Prop) → Prop
  | [], k => k []
  | .d x :: rs, k => asDs rs fun xs => k (x :: xs)
  | _, _ => False
theorem asDs_of {am : Addr} {F : Hp} : ∀ {rs : List Rv} {vs : List V} {k : List Px → Prop}, Rss Δ am F rs vs → asDs rs k → ∃ xs, k xs ∧ RpA F vs xs
  | _, _, _, .nil, h => ⟨[], h, .nil⟩
  | _, _, _, .d r s, h => by
    obtain ⟨xs, h1, h2⟩ := asDs_of s h
    exact ⟨_, h1, .cons r h2⟩
  | _, _, _, .gen _, h => h.elim
  | _, _, _, .scr _ _, h => h.elim
def eTup (f : WA) : WE := fun c P X => f c (fun rs c1 => asDs rs fun xs => xs.length ≤ 1000000 ∧ P (.d (.tuple xs)) c1) X
def eLst (f : WA) : WE := fun c P X => f c (fun rs c1 => asDs rs fun xs => xs.length ≤ 1000000 ∧ P (.own xs) c1) X
theorem de_tup {k : Nat} (h : PA X es (tA Δ fr)) : PE X (.Tuple es k pos) (tE Δ (eTup fr)) := by
  refine (pe_tup h).imp fun σ H Q ⟨am, F, c, P, XX, ok, hf, kq, kx⟩ => ?_
  refine ⟨am, F, c, _, XX, ok, hf, fun rs c1 F1 vs H1 p1 l1 o1 s1 => ?_, kx⟩
  obtain ⟨xs, h1, r⟩ := asDs_of s1 p1
  refine ⟨line_of (by rw [r.length]; exact h1.1), fun p hp => ?_⟩
  obtain ⟨o', l, rp⟩ := o1.tupN hp r
  exact kq _ c1 _ _ _ h1.2 (l1.trans l) o' (.of rp)
theorem de_lst (h : PA X es (tA Δ fr)) : PE X (.List es pos) (tE Δ (eLst fr)) := by
  refine (pe_lst h).imp fun σ H Q ⟨am, F, c, P, XX, ok, hf, kq, kx⟩ => ?_
  refine ⟨am, F, c, _, XX, ok, hf, fun rs c1 F1 vs H1 p1 l1 o1 s1 => ?_, kx⟩
  obtain ⟨xs, h1, r⟩ := asDs_of s1 p1
  refine ⟨line_of (by rw [r.length]; exact h1.1), fun p hp => ?_⟩
  obtain ⟨o', rs'⟩ := Rs.fresh o1 hp r
  exact kq _ c1 F1 _ _ h1.2 l1 o' rs'

/-! ### built-ins by their values -/
abbrev CD := List Rv → (Rv → Prop) → Prop
structure ClD (X : Cx) (Δ : Dx) (f : Value) (o : CD) : Prop where
  ex : ∃ r : List V → Hp → VK → Prop, CallR X f r ∧ ∀ (am : Addr) (F : Hp) (σ : St) (H : Hp) (c : Cf) (vs : List V) (rs : List Rv) (P : Rv → Prop) (Q : VK), Ok Δ am F σ H c → Rss Δ am F rs vs → o rs P →
    (∀ rr F' v H', P rr → Le F F' → Ok Δ am F' σ H' c → Rs Δ am F' σ H' c rr v → Q v H') → r vs H Q
def eCB (o : CD) (f : WA) : WE := fun c P X => f c (fun rs c1 => o rs fun r => P r c1) X
theorem cb_of {r : List V → Hp → VK → Prop} {o : CD} (ho : ∀ (am : Addr) (F : Hp) (σ : St) (H : Hp) (c : Cf) (vs : List V) (rs : List Rv) (P : Rv → Prop) (Q : VK), Ok Δ am F σ H c → Rss Δ am F rs vs → o rs P →
    (∀ rr F' v H', P rr → Le F F' → Ok Δ am F' σ H' c → Rs Δ am F' σ H' c rr v → Q v H') → r vs H Q) (σ : St) (H : Hp) (Q : VK) (h : tE Δ (eCB o fr) σ H Q) : tCB r (tA Δ fr) σ H Q := by
  obtain ⟨am, F, c, P, XX, ok, hf, kq, kx⟩ := h
  exact ⟨am, F, c, _, XX, ok, hf, fun rs c1 F1 vs H1 p1 l1 o1 s1 => ho am F1 σ H1 c1 vs rs _ Q o1 s1 p1 fun rr F' v H' prr l o s => kq rr c1 F' v H' prr (l1.trans l) o s, kx⟩
section
variable {x : Str} {p : Pos} {id T : String} {o : CD}
theorem de_cb (hc : ClD X Δ (.builtin id) o) (hg : Gl X x) (hm : X.mg x = none) (hv : bootBuiltins x = some (.builtin id)) (ha : PA X (e :: es) (tA Δ fr)) (hn : x ≠ "__name__" := by decide) (hdb : (x == ("__debug__" : Str)) = false := by decide)
    (he : starEach (e :: es) X.env = (false, eval e X.env) :: starEach es X.env := by rfl) (hpl : (backTo pos (starEach es X.env)).any (·.1) = false := by rfl) : PE X (.Call (.Name x p) (e :: es) [] pos) (tE Δ (eCB o fr)) := by
  obtain ⟨r, h1, h2⟩ := hc.ex
  exact (pe_callB h1 hg hm hv ha hn hdb he hpl).imp fun σ H Q h => cb_of h2 σ H Q h
theorem de_ct (hc : ClD X Δ (.type T) o) (hg : Gl X x) (hm : X.mg x = none) (hv : bootBuiltins x = some (.type T)) (ha : PA X (e :: es) (tA Δ fr)) (hn : x ≠ "__name__" := by decide) (hdb : (x == ("__debug__" : Str)) = false := by decide)
    (he : starEach (e :: es) X.env = (false, eval e X.env) :: starEach es X.env := by rfl) (hpl : (backTo pos (starEach es X.env)).any (·.1) = false := by rfl) : PE X (.Call (.Name x p) (e :: es) [] pos) (tE Δ (eCB o fr)) := by
  obtain ⟨r, h1, h2⟩ := hc.ex
  exact (pe_callTy h1 hg hm hv ha hn hdb he hpl).imp fun σ H Q h => cb_of h2 σ H Q h
end
def lenC : CD := fun rs P => match rs with
  | [.d (.list xs)] => P (.d (.int xs.length))
  | [.d (.tuple xs)] => P (.d (.int xs.length))
  | [.scr ns] => P (.d (.int ns.length))
  | _ => False
theorem cl_len (hK : Δ.K = X.K) : ClD X Δ (.builtin "len") lenC :=
  ⟨_, call_len_seq, fun am F σ H c vs rs P Q ok rx ho k => by
    unfold lenC at ho
    split at ho
    · cases rx with
      | d r s =>
        cases s
        cases r with
        | lst e r1 => exact ⟨_, _, rfl, .inl (SqL.of (ok.fh _ _ e)), k _ F _ H (by rw [r1.length]; exact ho) (Le.refl F) ok (.of (.int _))⟩
    · cases rx with
      | d r s =>
        cases s
        cases r with
        | tup e r1 => exact ⟨_, _, rfl, .inr (SqT.of (ok.fh _ _ e)), k _ F _ H (by rw [r1.length]; exact ho) (Le.refl F) ok (.of (.int _))⟩
    · cases rx with
      | scr e s =>
        cases s
        exact ⟨_, _, rfl, .inl (sq_le ok.fh (hK ▸ e)), k _ F _ H (by rw [List.length_map]; exact ho) (Le.refl F) ok (.of (.int _))⟩
    · exact ho.elim⟩
/-- len of a name's list -/
def lenD (x : Px) (k : Nat → Prop) : Prop := match x with
  | .list xs => k xs.length
  | .tuple xs => k xs.length
  | _ => False
def eLenN (i : Nat) : WE := fun c P _ => slotD c i fun x => lenD x fun n => P (.d (.int n)) c
theorem de_lenN (i : Nat) {x f : Str} {p p' : Pos} (hf : f = "len") (hg : Gl X f) (hm : X.mg f = none) (hv : bootBuiltins f = some (.builtin "len")) (hN : X.N[i]? = some x := by rfl)
    (hvi : Vis X.env.scope x := by first | exact Or.inl rfl | exact Or.inr (Or.inl rfl) | exact Or.inr (Or.inr rfl)) (hd : (x == ("__debug__" : Str)) = false := by decide)
    (hcd : (x == ("__classdict__" : Str)) = false := by decide) : PE X (.Call (.Name f p) [.Name x p'] [] pos) (tE Δ (eLenN i)) := by
  subst hf
  refine (pe_callB call_len_seq hg hm hv (pa_cons (pv i hN hvi hd hcd) pa_nil)).imp fun σ H Q ⟨am, F, c, P, XX, ok, hf, kq, kx⟩ => ?_
  obtain ⟨x, v, G, e1, hx, l3, l4, rpx, _⟩ := ok.look hf
  refine ⟨v, e1, ?_⟩
  unfold lenD at hx
  split at hx
  · cases rpx with
    | lst e r1 => exact ⟨_, _, rfl, .inl (SqL.of (l4 _ _ e)), kq _ c F _ H (by rw [r1.length]; exact hx) (Le.refl F) ok (.of (.int _))⟩
  · cases rpx with
    | tup e r1 => exact ⟨_, _, rfl, .inr (SqT.of (l4 _ _ e)), kq _ c F _ H (by rw [r1.length]; exact hx) (Le.refl F) ok (.of (.int _))⟩
  · exact hx.elim
def absC : CD := fun rs P => match rs with
  | [.d (.int i)] => P (.d (.int i.natAbs))
  | _ => False
theorem cl_abs : ClD X Δ (.builtin "abs") absC :=
  ⟨_, call_abs, fun am F σ H c vs rs P Q ok rx ho k => by
    unfold absC at ho
    split at ho
    · rename_i i
      cases rx with
      | d r s =>
        cases s
        cases r
        refine ⟨_, rfl, k _ F _ H ho (Le.refl F) ok (.of ?_)⟩
        rw [show (if i < 0 then -i else i) = (i.natAbs : Int) by split <;> omega]
        exact .int _
    · exact ho.elim⟩
def intC : CD := fun rs P => match rs with
  | [.d (.int i)] => P (.d (.int i))
  | [.d (.bool b)] => P (.d (.int (if b then 1 else 0)))
  | _ => False
theorem cl_int : ClD X Δ (.type "int") intC :=
  ⟨_, call_int1, fun am F σ H c vs rs P Q ok rx ho k => by
    unfold intC at ho
    split at ho
    · cases rx with
      | d r s =>
        cases s
        cases r
        exact .inl ⟨_, rfl, k _ F _ H ho (Le.refl F) ok (.of (.int _))⟩
    · cases rx with
      | d r s =>
        cases s
        cases r
        exact .inr ⟨_, rfl, k _ F _ H ho (Le.refl F) ok (.of (.int _))⟩
    · exact ho.elim⟩
def tupC : CD := fun rs P => match rs with
  | [.d (.list xs)] => P (.d (.tuple xs))
  | [.d (.tuple xs)] => P (.d (.tuple xs))
  | _ => False
theorem cl_tup (hK : Δ.K = X.K) : ClD X Δ (.type "tuple") tupC :=
  ⟨_, call_tuple_of, fun am F σ H c vs rs P Q ok rx ho k => by
    unfold tupC at ho
    split at ho
    · cases rx with
      | d r s =>
        cases s
        cases r with
        | lst e r1 =>
          refine ⟨_, _, rfl, .inl ⟨SqL.of (ok.fh _ _ e), fun p hp => ?_⟩⟩
          obtain ⟨o', l, rp⟩ := ok.tupN hp r1
          exact k _ _ _ _ ho l o' (.of rp)
    · cases rx with
      | d r s =>
        cases s
        cases r with
        | tup e r1 => exact ⟨_, _, rfl, .inr ⟨SqT.of (ok.fh _ _ e), k _ F _ H ho (Le.refl F) ok (.of (.tup e r1))⟩⟩
    · exact ho.elim⟩
def lstC : CD := fun rs P => match rs with
  | [.d (.list xs)] => P (.own xs)
  | [.d (.tuple xs)] => P (.own xs)
  | _ => False
theorem cl_lst (hK : Δ.K = X.K) : ClD X Δ (.type "list") lstC :=
  ⟨_, call_list_of, fun am F σ H c vs rs P Q ok rx ho k => by
    unfold lstC at ho
    split at ho
    · cases rx with
      | d r s =>
        cases s
        cases r with
        | lst e r1 =>
          refine ⟨_, _, rfl, .inl (SqL.of (ok.fh _ _ e)), fun p hp => ?_⟩
          obtain ⟨o', rs⟩ := Rs.fresh ok hp r1
          exact k _ F _ _ ho (Le.refl F) o' rs
    · cases rx with
      | d r s =>
        cases s
        cases r with
        | tup e r1 =>
          refine ⟨_, _, rfl, .inr (SqT.of (ok.fh _ _ e)), fun p hp => ?_⟩
          obtain ⟨o', rs⟩ := Rs.fresh ok hp r1
          exact k _ F _ _ ho (Le.refl F) o' rs
    · exact ho.elim⟩
theorem RpA.ints {F : Hp} : ∀ {vs : List V} {ns : List Int}, RpA F vs (ns.map .int) → vs = ns.map V.int
  | _, [], .nil => rfl
  | _, n :: ns, .cons a b => by
    cases a
    rw [List.map_cons, RpA.ints b]
theorem RpA.bools {F : Hp} : ∀ {vs : List V} {ns : List Bool}, RpA F vs (ns.map .bool) → vs = ns.map V.bl
  | _, [], .nil => rfl
  | _, n :: ns, .cons a b => by
    cases a
    rw [List.map_cons, RpA.bools b]
def allB : List Px → Option (List Bool)
  | [] => some []
  | .bool b :: r => (allB r).map (b :: ·)
  | _ => none
theorem allB_of : ∀ {xs : List Px} {bs : List Bool}, allB xs = some bs → xs = bs.map .bool
  | [], _, h => by cases h; rfl
  | .bool b :: r, bs, h => by
    cases e : allB r with
    | none => simp [allB, e] at h
    | some cs =>
      simp [allB, e] at h
      subst h
      rw [allB_of e]; rfl
  | .none :: _, _, h => nomatch h
  | .int _ :: _, _, h => nomatch h
  | .str _ :: _, _, h => nomatch h
  | .list _ :: _, _, h => nomatch h
  | .tuple _ :: _, _, h => nomatch h
  | .dict _ :: _, _, h => nomatch h
theorem allB_map : ∀ bs : List Bool, allB (bs.map .bool) = some bs
  | [] => rfl
  | b :: bs => by simp [allB, allB_map bs]
def anyC : CD := fun rs P => match rs with
  | [.d (.list xs)] => ∃ bs : List Bool, xs = bs.map .bool ∧ P (.d (.bool (bs.any id)))
  | _ => False
def allC : CD := fun rs P => match rs with
  | [.d (.list xs)] => ∃ bs : List Bool, xs = bs.map .bool ∧ P (.d (.bool (bs.all id)))
  | _ => False
theorem cl_any (hc : X.calm = true) : ClD X Δ (.builtin "any") anyC :=
  ⟨_, cr_any hc, fun am F σ H c vs rs P Q ok rx ho k => by
    unfold anyC at ho
    split at ho
    · obtain ⟨bs, rfl, h⟩ := ho
      cases rx with
      | d r s =>
        cases s
        cases r with
        | lst e r1 =>
          have := r1.bools
          subst this
          exact ⟨_, bs, rfl, SqL.of (ok.fh _ _ e), k _ F _ H h (Le.refl F) ok (.of (.bl _))⟩
    · exact ho.elim⟩
theorem cl_all (hc : X.calm = true) : ClD X Δ (.builtin "all") allC :=
  ⟨_, cr_all hc, fun am F σ H c vs rs P Q ok rx ho k => by
    unfold allC at ho
    split at ho
    · obtain ⟨bs, rfl, h⟩ := ho
      cases rx with
      | d r s =>
        cases s
        cases r with
        | lst e r1 =>
          have := r1.bools
          subst this
          exact ⟨_, bs, rfl, SqL.of (ok.fh _ _ e), k _ F _ H h (Le.refl F) ok (.of (.bl _))⟩
    · exact ho.elim⟩
def max2 (i j : Int) : Int := if i < j then j else i
def max1C : CD := fun rs P => match rs with
  | [.d (.list xs)] => ∃ ns : List Int, xs = ns.map .int ∧ 0 < ns.length ∧ ∀ m, m ∈ ns → (∀ y, y ∈ ns → y ≤ m) → P (.d (.int m))
  | _ => False
theorem cl_max1 (hc : X.calm = true) : ClD X Δ (.builtin "max") max1C :=
  ⟨_, cr_max hc, fun am F σ H c vs rs P Q ok rx ho k => by
    unfold max1C at ho
    split at ho
    · obtain ⟨ns, rfl, h0, h⟩ := ho
      cases rx with
      | d r s =>
        cases s
        cases r with
        | lst e r1 =>
          have := r1.ints
          subst this
          exact ⟨_, ns, rfl, SqL.of (ok.fh _ _ e), h0, fun m h1 h2 => k _ F _ H (h m h1 h2) (Le.refl F) ok (.of (.int _))⟩
    · exact ho.elim⟩
def min1C : CD := fun rs P => match rs with
  | [.d (.list xs)] => ∃ ns : List Int, xs = ns.map .int ∧ 0 < ns.length ∧ ∀ m, m ∈ ns → (∀ y, y ∈ ns → m ≤ y) → P (.d (.int m))
  | _ => False
theorem cl_min1 (hc : X.calm = true) : ClD X Δ (.builtin "min") min1C :=
  ⟨_, cr_min hc, fun am F σ H c vs rs P Q ok rx ho k => by
    unfold min1C at ho
    split at ho
    · obtain ⟨ns, rfl, h0, h⟩ := ho
      cases rx with
      | d r s =>
        cases s
        cases r with
        | lst e r1 =>
          have := r1.ints
          subst this
          exact ⟨_, ns, rfl, SqL.of (ok.fh _ _ e), h0, fun m h1 h2 => k _ F _ H (h m h1 h2) (Le.refl F) ok (.of (.int _))⟩
    · exact ho.elim⟩
def max2C : CD := fun rs P => match rs with
  | [.d (.int i), .d (.int j)] => P (.d (.int (if i < j then j else i)))
  | _ => False
theorem cl_max2 (hc : X.calm = true) : ClD X Δ (.builtin "max") max2C :=
  ⟨_, call_max2 hc, fun am F σ H c vs rs P Q ok rx ho k => by
    unfold max2C at ho
    split at ho
    · cases rx with
      | d r s =>
        cases s with
        | d r' s =>
          cases s
          cases r
          cases r'
          exact ⟨_, _, rfl, k _ F _ H ho (Le.refl F) ok (.of (.int _))⟩
    · exact ho.elim⟩
def min2C : CD := fun rs P => match rs with
  | [.d (.int i), .d (.int j)] => P (.d (.int (if j < i then j else i)))
  | _ => False
theorem cl_min2 (hc : X.calm = true) : ClD X Δ (.builtin "min") min2C :=
  ⟨_, call_min2 hc, fun am F σ H c vs rs P Q ok rx ho k => by
    unfold min2C at ho
    split at ho
    · cases rx with
      | d r s =>
        cases s with
        | d r' s =>
          cases s
          cases r
          cases r'
          exact ⟨_, _, rfl, k _ F _ H ho (Le.refl F) ok (.of (.int _))⟩
    · exact ho.elim⟩
def max3C : CD := fun rs P => match rs with
  | [.d (.int i), .d (.int j), .d (.int l)] => P (.d (.int (max2 (max2 i j) l)))
  | _ => False
theorem nu2 (i j : Int) : nuMax2 (.int i) (.int j) = some (.int (max2 i j)) := by
  show ((nuLt (.int i) (.int j)).map _) = _
  rw [show nuLt (.int i) (.int j) = some (decide (i < j)) from rfl]
  unfold max2
  by_cases h : i < j <;> simp [h]
theorem cl_max3 (hc : X.calm = true) : ClD X Δ (.builtin "max") max3C :=
  ⟨_, call_max3Nu hc, fun am F σ H c vs rs P Q ok rx ho k => by
    unfold max3C at ho
    split at ho
    · cases rx with
      | d r s =>
        cases s with
        | d r' s =>
          cases s with
          | d r'' s =>
            cases s
            cases r
            cases r'
            cases r''
            refine ⟨_, _, _, .int _, rfl, ?_, k _ F _ H ho (Le.refl F) ok (.of (.int _))⟩
            show (nuMax2 _ _).bind _ = _
            rw [nu2]
            show nuMax2 _ _ = _
            rw [nu2]
    · exact ho.elim⟩
/-! isinstance(x, T) of a built-in class -/
def kindD : Px → String
  | .none => "NoneType"
  | .bool _ => "bool"
  | .int _ => "int"
  | .str _ => "str"
  | .list _ => "list"
  | .tuple _ => "tuple"
  | .dict _ => "dict"
def isiD (T : String) (x : Px) : Bool := (kitB (kindD x) T).getD false
def eIsi (T : String) (f : WE) : WE := fun c P X => f c (fun r c1 => asD r fun x => kitB (kindD x) T = some (isiD T x) ∧ P (.d (.bool (isiD T x))) c1) X
theorem ty_rp {K : PySem.W.Frag} {F H : Hp} {v : V} {x : Px} (l : Le F H) (r : Rp F v x) : TyX K H v (.type (kindD x)) := by
  cases r with
  | non => exact .base .non
  | bl b => exact .base (.bl b)
  | int i => exact .base (.int i)
  | str x => exact .base (.str x)
  | lst e r1 => exact .base (.lst (l _ _ e))
  | tup e r1 => exact .base (.tup (l _ _ e))
theorem de_isi {T : String} {f t : Str} {p p' : Pos} (hf : f = "isinstance") (hg : Gl X f) (hm : X.mg f = none) (hv : bootBuiltins f = some (.builtin "isinstance"))
    (hg' : Gl X t) (hm' : X.mg t = none) (hv' : bootBuiltins t = some (.type T)) (ha : PE X a (tE Δ fa)) (hn : t ≠ "__name__" := by decide) (hdb : (t == ("__debug__" : Str)) = false := by decide)
    (he : starEach (a :: [.Name t p']) X.env = (false, eval a X.env) :: starEach [.Name t p'] X.env := by rfl) : PE X (.Call (.Name f p) [a, .Name t p'] [] pos) (tE Δ (eIsi T fa)) := by
  subst hf
  refine (pe_callB call_isi hg hm hv (pa_cons ha (pa_cons (pe_bltn (v := .ty T) hg' hm' hv' rfl hn hdb) pa_nil) he) (by decide) (by decide) he).imp fun σ H Q ⟨am, F, c, P, XX, ok, hf, kq, kx⟩ => ?_
  refine ⟨am, F, c, _, XX, ok, hf, fun r1 c1 F1 v1 H1 p1 l1 o1 s1 => ?_, kx⟩
  obtain ⟨x, F1', hx, l1', o1', rp1⟩ := s1.data o1 p1
  exact ⟨_, _, _, _, _, rfl, .ty T, ty_rp o1'.fh rp1, kit_ty hx.1, kq _ c1 F1' _ H1 hx.2 (l1.trans l1') o1' (.of (.bl _))⟩
end
end Dl

set_option Elab.async false
set_option maxRecDepth 100000
set_option linter.all false
set_option autoImplicit false
namespace Dl
open PySem L2
section
variable {X : Cx} {Δ : Dx} {a b e : Expr} {fa fb fc : WE} {pos : Pos} {es : List Expr} {fr : WA}

/-! ### an item -/
def ixD (x y : Px) (k : Px → Prop) : Prop := match x, y with
  | .list xs, .int i => (match atI xs i with | some z => k z | none => False)
  | .tuple xs, .int i => (match atI xs i with | some z => k z | none => False)
  | _, _ => False
theorem RpA.at {F : Hp} {vs : List V} {xs : List Px} {i : Int} {z : Px} (r : RpA F vs xs) (h : atI xs i = some z) : ∃ v, atI vs i = some v ∧ Rp F v z := by
  unfold atI at h ⊢
  rw [r.length]
  cases e : ixN xs.length i with
  | none => rw [e] at h; cases h
  | some j =>
    rw [e] at h
    exact r.get h
def eIx (fa fb : WE) : WE := fun c P X => fa c (fun r1 c1 => asD r1 fun x => fb c1 (fun r2 c2 => asD r2 fun y => ixD x y fun z => P (.d z) c2) X) X
def eIxN (i : Nat) (fb : WE) : WE := fun c P X => hasD c i ∧ fb c (fun r2 c2 => asD r2 fun y => slotD c2 i fun x => ixD x y fun z => P (.d z) c2) X
theorem de_ix (ha : PE X a (tE Δ fa)) (hb : PE X b (tE Δ fb)) (hs : PlainIx b) : PE X (.Subscript a b pos) (tE Δ (eIx fa fb)) := by
  refine (pe_ix ix_seq ha hb hs).imp fun σ H Q ⟨am, F, c, P, XX, ok, hf, kq, kx⟩ => ?_
  refine ⟨am, F, c, _, XX, ok, hf, fun r1 c1 F1 v1 H1 p1 l1 o1 s1 => ?_, kx⟩
  obtain ⟨x, F1', hx, l1', o1', rp1⟩ := s1.data o1 p1
  refine ⟨am, F1', c1, _, XX, o1', hx, fun r2 c2 F2 v2 H2 p2 l2 o2 s2 => ?_, kx.le (l1.trans l1')⟩
  obtain ⟨y, F2', hy, l2', o2', rp2⟩ := s2.data o2 p2
  have rp1 := rp1.mono (l2.trans l2')
  unfold ixD at hy
  split at hy
  · split at hy
    · rename_i z ez
      cases rp1 with
      | lst e1 r1 =>
        cases rp2
        obtain ⟨v, ev, rv⟩ := r1.at ez
        exact .inl ⟨_, _, _, v, rfl, rfl, SqL.of (o2'.fh _ _ e1), ev, kq _ c2 F2' v H2 hy (((l1.trans l1').trans l2).trans l2') o2' (.of rv)⟩
    · exact hy.elim
  · split at hy
    · rename_i z ez
      cases rp1 with
      | tup e1 r1 =>
        cases rp2
        obtain ⟨v, ev, rv⟩ := r1.at ez
        exact .inr (.inl ⟨_, _, _, v, rfl, rfl, SqT.of (o2'.fh _ _ e1), ev, kq _ c2 F2' v H2 hy (((l1.trans l1').trans l2).trans l2') o2' (.of rv)⟩)
    · exact hy.elim
  · exact hy.elim
theorem de_ixN (i : Nat) {x : Str} {p : Pos} (hb : PE X b (tE Δ fb)) (hs : PlainIx b) (hN : X.N[i]? = some x := by rfl)
    (hv : Vis X.env.scope x := by first | exact Or.inl rfl | exact Or.inr (Or.inl rfl) | exact Or.inr (Or.inr rfl)) (hd : (x == ("__debug__" : Str)) = false := by decide)
    (hcd : (x == ("__classdict__" : Str)) = false := by decide) : PE X (.Subscript (.Name x p) b pos) (tE Δ (eIxN i fb)) := by
  refine (pe_ix ix_seq (pv i hN hv hd hcd) hb hs).imp fun σ H Q ⟨am, F, c, P, XX, ok, ⟨hd, hf⟩, kq, kx⟩ => ?_
  obtain ⟨_, v, _, hv, _⟩ := ok.look hd
  refine ⟨v, hv, am, F, c, _, XX, ok, hf, fun r2 c2 F2 v2 H2 p2 l2 o2 s2 => ?_, kx⟩
  obtain ⟨y, F2', hy, l2', o2', rp2⟩ := s2.data o2 p2
  obtain ⟨x, w, G, e1, hx, l3, l4, rpx, kl, kt⟩ := o2'.look hy
  rw [hv] at e1
  cases e1
  unfold ixD at hx
  split at hx
  · split at hx
    · rename_i z ez
      obtain ⟨a, vs, rfl, ea, r1⟩ := kl _ rfl
      cases rp2
      obtain ⟨u, ev, rv⟩ := r1.at ez
      exact .inl ⟨_, _, _, u, rfl, rfl, SqL.of ea, ev, kq _ c2 F2' u H2 hx (l2.trans l2') o2' (.of rv)⟩
    · exact hx.elim
  · split at hx
    · rename_i z ez
      obtain ⟨a, vs, rfl, ea, r1⟩ := kt _ rfl
      cases rp2
      obtain ⟨u, ev, rv⟩ := r1.at ez
      exact .inr (.inl ⟨_, _, _, u, rfl, rfl, SqT.of ea, ev, kq _ c2 F2' u H2 hx (l2.trans l2') o2' (.of rv)⟩)
    · exact hx.elim
  · exact hx.elim

/-! ### slices -/
abbrev WO := Cf → (Option Int → Cf → Prop) → XP → Prop
def oNone : WO := fun c P _ => P none c
def oSome (f : WE) : WO := fun c P X => f c (fun r c1 => match r with
  | .d (.int i) => P (some i) c1
  | _ => False) X
def tO (Δ : Dx) (f : WO) : TO := fun σ H Q => ∃ am F c P X, Ok Δ am F σ H c ∧ f c P X ∧ (∀ o c' F' H', P o c' → Le F F' → Ok Δ am F' σ H' c' → Q o H') ∧ KX Δ am F X
theorem _root_.L2.PO.imp {e : Option Expr} {t t' : TO} (h : PO X e t) (w : ∀ σ H Q, t' σ H Q → t σ H Q) : PO X e t' :=
  ⟨fun pins s σ H Q I q => h.run pins s σ H Q I (w σ H Q q)⟩
theorem do_none : PO X none (tO Δ oNone) := po_none.imp fun σ H Q ⟨am, F, c, P, XX, ok, hf, kq, kx⟩ => kq _ c F H hf (Le.refl F) ok
theorem do_some (h : PE X e (tE Δ fa)) : PO X (some e) (tO Δ (oSome fa)) := by
  refine (po_some h).imp fun σ H Q ⟨am, F, c, P, XX, ok, hf, kq, kx⟩ => ?_
  refine ⟨am, F, c, _, XX, ok, hf, fun r1 c1 F1 v1 H1 p1 l1 o1 s1 => ?_, kx⟩
  dsimp only at p1
  split at p1
  · have h1 := s1.1
    cases h1
    exact ⟨_, rfl, kq _ c1 F1 H1 p1 l1 o1⟩
  · exact p1.elim
def cutX {α : Type} (xs : List α) (lo hi : Option Int) : List α := (xs.drop (HT.sIx xs.length 0 lo)).take (HT.sIx xs.length xs.length hi - HT.sIx xs.length 0 lo)
theorem cut_whole {α : Type} {xs : List α} {lo hi : Option Int} (h1 : HT.sIx xs.length 0 lo = 0) (h2 : HT.sIx xs.length xs.length hi = xs.length) : cutX xs lo hi = xs := by
  unfold cutX
  rw [h1, h2]
  simp
theorem RpA.cut {F : Hp} {vs : List V} {xs : List Px} (r : RpA F vs xs) (lo hi : Option Int) : RpA F (cutV vs lo hi) (cutX xs lo hi) := by
  unfold cutV cutX
  rw [r.length]
  exact (r.drop _).take _
/-- a list's slice is a new list; a tuple's, where it isn't the whole, a new tuple -/
def slD (x : Px) (lo hi : Option Int) (k : Rv → Prop) : Prop := match x with
  | .list xs => k (.own (cutX xs lo hi))
  | .tuple xs => k (.d (.tuple (cutX xs lo hi)))
  | _ => False
def eSl (fa : WE) (fl fh : WO) : WE := fun c P X => fa c (fun r1 c1 => asD r1 fun x => fl c1 (fun lo c2 => fh c2 (fun hi c3 => slD x lo hi fun r => P r c3) X) X) X
def eSlN (i : Nat) (fl fh : WO) : WE := fun c P X => hasD c i ∧ fl c (fun lo c2 => fh c2 (fun hi c3 => slotD c3 i fun x => slD x lo hi fun r => P r c3) X) X
theorem _root_.Dl.Ok.tupF {am : Addr} {F : Hp} {σ : St} {H : Hp} {c : Cf} (k : Ok Δ am F σ H c) {i : Nat} {q : Px → Prop} (h : slotD c i q) {a : Addr} {vs : List V} {xs : List Px} (hv : σ[i]? = some (some (.ref a))) (ea : H a = some (.tup vs)) (r1 : RpA F vs xs) : Rp F (.ref a) (.tuple xs) := by
  unfold slotD at h
  split at h
  · rename_i x' ex
    obtain ⟨v', h1, h2⟩ := k.sv i _ ex
    rw [hv] at h1
    cases h1
    cases h2 with
    | tup e7 r7 =>
      have e8 := k.fh _ _ e7
      rw [ea] at e8
      cases e8
      exact .tup e7 r1
    | lst e7 r7 =>
      have e8 := k.fh _ _ e7
      rw [ea] at e8
      cases e8
  · rename_i xs' ex
    obtain ⟨v', h1, a', vs', h2, h3, _⟩ := k.sv i _ ex
    rw [hv] at h1
    cases h1
    cases h2
    rw [ea] at h3
    cases h3
  · exact h.elim
theorem sl_or : SlR X (fun x lo hi H Q => rSlL X.K x lo hi H Q ∨ rSlA X.K x lo hi H Q) := SlR.or sl_list sl_tupA
section
variable {lo hi : Option Expr} {fl fh : WO} {p2 : Pos}
theorem de_sl (ha : PE X a (tE Δ fa)) (hl : PO X lo (tO Δ fl)) (hh : PO X hi (tO Δ fh)) : PE X (.Subscript a (.Slice lo hi none p2) pos) (tE Δ (eSl fa fl fh)) := by
  refine (pe_slice sl_or ha hl hh).imp fun σ H Q ⟨am, F, c, P, XX, ok, hf, kq, kx⟩ => ?_
  refine ⟨am, F, c, _, XX, ok, hf, fun r1 c1 F1 v1 H1 p1 l1 o1 s1 => ?_, kx⟩
  obtain ⟨x, F1', hx, l1', o1', rp1⟩ := s1.data o1 p1
  refine ⟨am, F1', c1, _, XX, o1', hx, fun u c2 F2 H2 p2 l2 o2 => ?_, kx.le (l1.trans l1')⟩
  refine ⟨am, F2, c2, _, XX, o2, p2, fun w c3 F3 H3 p3 l3 o3 => ?_, kx.le ((l1.trans l1').trans l2)⟩
  have rp1 := rp1.mono (l2.trans l3)
  have ll := ((l1.trans l1').trans l2).trans l3
  unfold slD at p3
  split at p3
  · cases rp1 with
    | lst e1 r1 =>
      refine .inl ⟨_, _, rfl, SqL.of (o3.fh _ _ e1), fun p hp => ?_⟩
      obtain ⟨o', rs⟩ := Rs.fresh o3 hp (r1.cut u w)
      exact kq _ c3 F3 _ _ p3 ll o' rs
  · cases rp1 with
    | tup e1 r1 =>
      refine .inr ⟨_, _, rfl, SqT.of (o3.fh _ _ e1), fun hw => ?_, fun _ p hp => ?_⟩
      · rw [r1.length] at hw
        rw [cut_whole hw.1 hw.2] at p3
        exact kq _ c3 F3 _ _ p3 ll o3 (.of (.tup e1 r1))
      · obtain ⟨o', l, rp⟩ := o3.tupN hp (r1.cut u w)
        exact kq _ c3 _ _ _ p3 (ll.trans l) o' (.of rp)
  · exact p3.elim
theorem de_slN (i : Nat) {x : Str} {p : Pos} (hl : PO X lo (tO Δ fl)) (hh : PO X hi (tO Δ fh)) (hN : X.N[i]? = some x := by rfl)
    (hv : Vis X.env.scope x := by first | exact Or.inl rfl | exact Or.inr (Or.inl rfl) | exact Or.inr (Or.inr rfl)) (hd : (x == ("__debug__" : Str)) = false := by decide)
    (hcd : (x == ("__classdict__" : Str)) = false := by decide) : PE X (.Subscript (.Name x p) (.Slice lo hi none p2) pos) (tE Δ (eSlN i fl fh)) := by
  refine (pe_slice sl_or (pv i hN hv hd hcd) hl hh).imp fun σ H Q ⟨am, F, c, P, XX, ok, ⟨hd, hf⟩, kq, kx⟩ => ?_
  obtain ⟨_, v, _, hv, _⟩ := ok.look hd
  refine ⟨v, hv, am, F, c, _, XX, ok, hf, fun u c2 F2 H2 p2 l2 o2 => ?_, kx⟩
  refine ⟨am, F2, c2, _, XX, o2, p2, fun w c3 F3 H3 p3 l3 o3 => ?_, kx.le l2⟩
  obtain ⟨x, v', G, e1, hx, l4, l5, rpx, kl, kt⟩ := o3.look p3
  rw [hv] at e1
  cases e1
  have p4 := p3
  unfold slD at hx
  split at hx
  · obtain ⟨a, vs, rfl, ea, r1⟩ := kl _ rfl
    refine .inl ⟨_, _, rfl, SqL.of ea, fun p hp => ?_⟩
    obtain ⟨o', rs⟩ := Rs.fresh o3 hp (r1.cut u w)
    exact kq _ c3 F3 _ _ hx (l2.trans l3) o' rs
  · obtain ⟨a, vs, rfl, ea, r1⟩ := kt _ rfl
    refine .inr ⟨_, _, rfl, SqT.of ea, fun hw => ?_, fun _ p hp => ?_⟩
    · rw [r1.length] at hw
      rw [cut_whole hw.1 hw.2] at hx
      exact kq _ c3 F3 _ _ hx (l2.trans l3) o3 (.of (o3.tupF p4 hv ea r1))
    · obtain ⟨o', l, rp⟩ := o3.tupN hp (r1.cut u w)
      exact kq _ c3 _ _ _ hx ((l2.trans l3).trans l) o' (.of rp)
  · exact hx.elim
end
/-! ### a name's own list + .. -/
def catD : OD := fun x y P => match x, y with
  | .list xs, .list ys => xs.length + ys.length ≤ 1000000 ∧ P (.own (xs ++ ys))
  | .int i, .int j => P (.d (.int (i + j)))
  | .tuple xs, .tuple ys => xs.length + ys.length ≤ 1000000 ∧ P (.d (.tuple (xs ++ ys)))
  | _, _ => False
def eAddN (i : Nat) (fb : WE) : WE := fun c P X => hasD c i ∧ fb c (fun r2 c2 => asD r2 fun y => slotD c2 i fun x => catD x y fun r => P r c2) X
theorem de_addN (i : Nat) {x : Str} {p : Pos} (hK : Δ.K = X.K) (hb : PE X b (tE Δ fb)) (hN : X.N[i]? = some x := by rfl)
    (hv : Vis X.env.scope x := by first | exact Or.inl rfl | exact Or.inr (Or.inl rfl) | exact Or.inr (Or.inr rfl)) (hd : (x == ("__debug__" : Str)) = false := by decide)
    (hcd : (x == ("__classdict__" : Str)) = false := by decide) : PE X (.BinOp (.Name x p) .Add b pos) (tE Δ (eAddN i fb)) := by
  refine (pe_op (OpR.or (OpR.or op_add op_cat) op_catA) (pv i hN hv hd hcd) hb).imp fun σ H Q ⟨am, F, c, P, XX, ok, ⟨hd, hf⟩, kq, kx⟩ => ?_
  obtain ⟨_, v, _, hv, _⟩ := ok.look hd
  refine ⟨v, hv, am, F, c, _, XX, ok, hf, fun r2 c2 F2 v2 H2 p2 l2 o2 s2 => ?_, kx⟩
  obtain ⟨y, F2', hy, l2', o2', rp2⟩ := s2.data o2 p2
  obtain ⟨x, w, G, e1, hx, l3, l4, rpx, kl, kt⟩ := o2'.look hy
  rw [hv] at e1
  cases e1
  have ll := l2.trans l2'
  unfold catD at hx
  split at hx
  · obtain ⟨a, vs, rfl, ea, r1⟩ := kl _ rfl
    cases rp2 with
    | lst e2 r2 =>
      refine .inl (.inr ⟨_, _, _, _, rfl, rfl, ea, o2'.fh _ _ e2, line_of (by rw [r1.length, r2.length]; exact hx.1), fun p hp => ?_⟩)
      obtain ⟨o', rs⟩ := Rs.fresh o2' hp (r1.append r2)
      exact kq _ c2 F2' _ _ hx.2 ll o' rs
  · cases rpx
    cases rp2
    exact .inl (.inl ⟨_, _, rfl, rfl, kq _ c2 F2' _ H2 hx ll o2' (.of (.int _))⟩)
  · rename_i xs ys
    obtain ⟨a, vs, rfl, ea, r1⟩ := kt _ rfl
    cases rp2 with
    | tup e2 r2 =>
      refine .inr ⟨_, _, _, _, rfl, rfl, SqT.of ea, SqT.of (o2'.fh _ _ e2), line_of (by rw [r1.length, r2.length]; exact hx.1), fun z => ?_, fun _ z => ?_, fun _ _ p hp => ?_⟩
      · have := r1.length
        rw [z] at this
        have e0 : xs = [] := List.length_eq_zero_iff.mp this.symm
        subst e0
        exact kq _ c2 F2' _ H2 hx.2 ll o2' (.of (.tup e2 r2))
      · have := r2.length
        rw [z] at this
        have e0 : ys = [] := List.length_eq_zero_iff.mp this.symm
        subst e0
        have h3 := hx.2
        rw [List.append_nil] at h3
        exact kq _ c2 F2' _ H2 h3 ll o2' (.of (o2'.tupF hy hv ea r1))
      · obtain ⟨o', l, rp⟩ := o2'.tupN hp (r1.append r2)
        exact kq _ c2 _ _ _ hx.2 (ll.trans l) o' (.of rp)
  · exact hx.elim
end
end Dl

set_option Elab.async false
set_option maxRecDepth 100000
set_option linter.all false
set_option autoImplicit false
/-! Promises of defs that are called where no repr is under way. -/
namespace Dl
open PySem L2 PySem.Spec PyProof.Rows
structure RoomG (k : Nat) (A : Around) : Prop extends Room k A where
  gd : A.guards = some []
theorem RoomG.mono {j k : Nat} {A : Around} (r : RoomG k A) (h : j ≤ k) : RoomG j A := ⟨r.toRoom.mono h, r.gd⟩
theorem RoomG.deeper {k : Nat} {A : Around} (r : RoomG (k + 1) A) (env : Env) : RoomG k (A.deeper env) := ⟨r.toRoom.deeper env, r.gd⟩
structure FnG (P : Program) (w : World) (K : PySem.W.Frag) (mg : Str → Option Value) (base : Heap) (CX : CXT) (k : Nat) (f : Addr) (fd : FuncData) (ps : List Str) (sp : Sp) : Prop where
  len : ∀ vs H Q E, sp vs H Q E → vs.length = ps.length
  run : ∀ {A : Around} {outer : List Env} {s : Shared} {H : Hp} {args : Args} {us : List Value} {vs : List V} {Q : VK} {E : XK}, RoomG k A → Env0 P w K mg base A outer s H → BindsTo s fd args (ps.zip us) → Vals vs us → sp vs H Q E →
    codeAny (model P w) A (.call (.ref f) args) (CR CX outer P w H s Q E) s
section
variable {P : Program} {w : World} {K : PySem.W.Frag} {mg : Str → Option Value} {base : Heap} {CX : CXT} {k : Nat} {f : Addr} {fd : FuncData} {ps : List Str} {sp : Sp}
theorem fnG_of {x qual : Str} {params : Arguments} {body : List Stmt} {scope : Scope} {dvs : List V} {kws : List (Str × V)} {N : List Str} (F : FunD K x qual params body scope dvs kws f fd) (S : FnScope N ps scope) (len : ∀ vs H Q E, sp vs H Q E → vs.length = ps.length)
    (hb : ∀ (cdv : Value) (A : Around) (outer : List Env) (s : Shared) (H : Hp) (vs : List V) (Q : VK) (E : XK), RoomG k (A.deeper (envOfC qual scope s.heap.objs.size f cdv)) → sp vs H Q E →
      ∃ t, PSs (cxOf CX P w K mg base N qual scope f cdv A outer s H E) body t ∧ t { nx := fun _ H' => Q .non H', rt := Q } (start N vs) H) : FnG P w K mg base CX (k + 1) f fd ps sp := by
  obtain ⟨_, _, _, _, _, _, _, cdv, _, _, rfl, look, code, _, _⟩ := F.ex
  refine ⟨len, fun {A outer s H args us vs Q E} room e0 bind rel want => ?_⟩
  have stay : ∀ b o, base.get? b = some o → s.heap.get? b = some o := fun b o e => (e0.bs b o e).1
  have kin : K.In s.heap := e0.mod.kin.keeps stay
  refine codeAny_call_function room.depth (kin _ _ look) rfl S.co S.gen rfl (PySem.W.codeRec_of kin code) (bind _ _ _ _ ?_)
  refine wpAny_newFunctionEnv_cells S.kind (fun y hy => ?_) fun env he s1 x => ?_
  · rcases S.par y.1 (List.of_mem_zip hy).1 with q | q
    · exact .inl q
    · exact .inr ⟨q, PySem.W.cellsFrom_some _ _ _ (.inl q)⟩
  · subst he
    obtain ⟨t, run, ok⟩ := hb cdv A outer s H vs Q E (room.deeper _) want
    have I : Inv (cxOf CX P w K mg base N qual scope f cdv A outer s H E) [] (L2.start N vs) H s1 := inv_start S room.hd e0 (len _ _ _ _ want) rel x
    refine ⟨(e0.mod.nolimit.keeps stay).keeps x.toInCall.keep, codeAny_func (wpAny_mono (run.run [] s1 (start N vs) H _ I ok) (fun fl s' got => ?_) fun _ _ got => got)⟩
    have fin : ∀ {σ' : L2.St} {H' : Hp} {v : V} {u : Value}, Inv (cxOf CX P w K mg base N qual scope f cdv A outer s H E) [] σ' H' s' → RelV v u → Q v H' → CE outer P w H s Q u s' := fun J r q => ⟨_, _, J.os, J.bare, J.base, J.hok, r, q⟩
    cases fl with
    | ret u =>
      obtain ⟨_, _, _, J, r, q⟩ := got
      exact fin J r q
    | next =>
      obtain ⟨_, _, J, q⟩ := got
      exact fin (v := .non) (u := .none) J rfl q
    | brk => obtain ⟨_, _, _, q⟩ := got; exact q.elim
    | cont => obtain ⟨_, _, _, q⟩ := got; exact q.elim
end
section
variable {X : Cx} {CX : CXT} {k : Nat} {f : Addr} {fd : FuncData} {ps : List Str} {sp : Sp} {E : XK} {x : Str} {p pos : Pos} {e : Expr} {es : List Expr} {t : TA}
theorem run_fnG {pins : List (Addr × Obj)} {σ : L2.St} {H : Hp} {s : Shared} {Q : VK} {us : List Value} {vs : List V} (F : FnG X.prog X.w X.K X.mg X.base CX k f fd ps sp) (hr : RoomG k X.A) (hb : Binds X.K fd ps []) (hx : Passes CX X E)
    (I : Inv X pins σ H s) (r : Vals vs us) (h : sp vs H Q E) : wpAny (model X.prog X.w) X.A (call (.ref f) us) (EP X pins σ Q) X.xe s := by
  have hl : us.length = ps.length := r.length.symm.trans (F.len _ _ _ _ h)
  have bind := hb s us I.kIn (by rw [List.append_nil]; exact hl)
  rw [List.append_nil] at bind
  refine wpAny_call (codeAny_mono (F.run hr I.env0 bind r h) fun end_ s' got => ?_)
  match end_, got with
  | .error e, got => exact hx pins σ H s e s' I got
  | .ok (.ret u), got => exact I.after got
theorem pe_callX (F : FnG X.prog X.w X.K X.mg X.base CX k f fd ps sp) (hr : RoomG k X.A) (hg : Gl X x) (hm : X.mg x = some (.ref f)) (hk : PySem.W.keepIn X.K (.ref f) = true) (hb : Binds X.K fd ps []) (hx : Passes CX X E)
    (ha : PA X (e :: es) t) (hdb : (x == ("__debug__" : Str)) = false := by decide) (he : starEach (e :: es) X.env = (false, eval e X.env) :: starEach es X.env := by rfl) (hpl : (backTo pos (starEach es X.env)).any (·.1) = false := by rfl) :
    PE X (.Call (.Name x p) (e :: es) [] pos) (tCall sp [] E t) :=
  ⟨fun pins s σ H Q I h => wpAny_Call_Name_kw (ld_glob I hg hm (PySem.W.callWith_K (h₀ := X.base) I.ok.mod.kin hk (thn (ha.run pos pins s σ H _ I h) fun us s1 ⟨vs, H1, I1, r, q⟩ => ⟨I1.kIn, run_fnG F hr hb hx I1 r (by rw [← List.append_nil vs]; exact q)⟩) he hpl) hdb)⟩
theorem pe_callX0 (F : FnG X.prog X.w X.K X.mg X.base CX k f fd ps sp) (hr : RoomG k X.A) (hg : Gl X x) (hm : X.mg x = some (.ref f)) (hk : PySem.W.keepIn X.K (.ref f) = true) (hb : Binds X.K fd ps []) (hx : Passes CX X E)
    (hdb : (x == ("__debug__" : Str)) = false := by decide) : PE X (.Call (.Name x p) [] [] pos) (tCall sp [] E tNil) :=
  ⟨fun pins s σ H Q I h => wpAny_Call_Name_kw (ld_glob I hg hm (PySem.W.callWith_K0 I.kIn hk (run_fnG (us := []) F hr hb hx I .nil h)) hdb)⟩
end
/-! ### the law itself -/
theorem law_callX {P : Program} {w : World} {K : PySem.W.Frag} {mg mb : Str → Option Value} {CX : CXT} {k : Nat} {fa a : Addr} {fd : FuncData} {x : Str} {sp : Sp} {s : Shared} {vs : List Value} {ns : List Int}
    (kin : K.In s.heap) (hmg : s.heap.Ns mainGlobals mg) (hmb : s.heap.Ns builtinsNs mb) (boot : ∀ x : Str, x ≠ "__name__" → mb x = bootBuiltins x) (lim : s.heap.NoLimit) (gens : s.gens = #[])
    (ha : s.heap.get? a = some { cls := .type "list", data := .seq vs.toArray }) (hi : IntsAre vs ns) (hl : ns.length ≤ sizeLine) (hr : RoomG k callerA)
    (F : ∀ base : Heap, K.In base → base.Ns mainGlobals mg → FnG P w K mg base CX k fa fd [x] sp) (bind : ∀ (s : Shared) (u : Value), BindsTo s fd ⟨[u], []⟩ [(x, u)])
    (hsp : ∀ H : Hp, Only H → SqL K H a (ns.map V.int) → sp [.ref a] H (fun v _ => v = .bl true) fun _ _ _ => False)
    (hCX : ∀ H e s', CX [] H s (fun _ _ _ => False) e s' → False) :
    codeAny (model P w) callerA (.call (.ref fa) ⟨[.ref a], []⟩) (fun r s' => r = .ok (.ret (.bool true)) ∧ OldK s.heap s'.heap ∧ s'.os = s.os ∧ AllBare s'.gens) s := by
  let L : Obj := { cls := .type "list", data := .seq vs.toArray }
  let H : Hp := fun b => if b = a ∧ K.lookup a = none then some (.frz L (.lst (ns.map V.int))) else none
  have hH : ∀ b u, H b = some u → b = a ∧ K.lookup a = none ∧ u = .frz L (.lst (ns.map V.int)) := fun b u z => by
    by_cases q : b = a ∧ K.lookup a = none
    · exact ⟨q.1, q.2, (Option.some.inj ((if_pos q).symm.trans z)).symm⟩
    · cases (if_neg q).symm.trans z
  have only : Only H := fun b => by
    cases q : H b with
    | none => exact .inl rfl
    | some u => exact .inr ⟨_, _, congrArg some (hH b u q).2.2⟩
  have rv := vals_ints hi
  have hsz : (ns.map V.int).length ≤ sizeLine := by rw [List.length_map]; exact hl
  have sq : SqL K H a (ns.map V.int) := by
    cases q : K.lookup a with
    | none => exact .inl (.inr ⟨L, if_pos ⟨rfl, q⟩⟩)
    | some o =>
      have e := kin a o q
      rw [ha] at e
      cases e
      exact .inr ⟨_, vs.toArray, _, q, rfl, rfl, rfl, by rw [List.size_toArray, hi.length]; exact hl, by simpa using rv⟩
  have hok : HOk P w H s.heap := fun b u z => by
    obtain ⟨rfl, _, rfl⟩ := hH b u z
    exact ⟨ha, hsz, vs, _, rv, ha⟩
  have base_of : ∀ {b : Addr} {o : Obj}, s.heap.get? b = some o → H b = none → (hidT s.heap H).get? b = some o := fun e n => hidT_get e n
  have other : ∀ {b : Addr} {o : Obj}, s.heap.get? b = some o → (∀ vs n, o.data ≠ .seq vs n) → H b = none := fun {b o} e d => by
    cases q : H b with
    | none => rfl
    | some u =>
      obtain ⟨rfl, _, _⟩ := hH b u q
      rw [ha] at e
      cases e
      exact absurd rfl (d _ _)
  have ns_of : ∀ {b : Addr} {m : Str → Option Value}, s.heap.Ns b m → (hidT s.heap H).Ns b m := fun {b m} ⟨o, es, ep, e, d, r⟩ => ⟨o, es, ep, base_of e (other e fun vs n z => (by rw [d] at z; cases z)), d, r⟩
  have kb : K.In (hidT s.heap H) := fun b o e => base_of (kin b o e) (by
    cases q : H b with
    | none => rfl
    | some u =>
      obtain ⟨rfl, z, _⟩ := hH b u q
      rw [z] at e
      cases e)
  have e0 : Env0 P w K mg (hidT s.heap H) callerA [] s H :=
    ⟨rfl, ⟨kb, ns_of hmg, ⟨mb, ns_of hmb, boot⟩, let ⟨mc, h1, h2⟩ := lim; ⟨mc, ns_of h1, h2⟩⟩, fun b o e => of_hidT e, Nat.le_of_eq (hidT_size _ _), trivial, fun b hb => (by cases hb), hok, .of_eq gens⟩
  refine codeAny_mono ((F _ kb (ns_of hmg)).run (us := [.ref a]) (vs := [.ref a]) hr e0 (bind s (.ref a)) (.cons rfl .nil) (hsp H only sq)) fun r s' got => ?_
  match r, got with
  | .error e, got => exact (hCX H e s' got).elim
  | .ok (.ret u), ⟨v, H', os, bare, un, hok', ru, qv⟩ =>
    have qv : v = .bl true := qv
    subst qv
    obtain rfl : u = Value.bool true := ru
    refine ⟨rfl, OldK.of_keep fun b o e => ?_, os, bare⟩
    cases q : H b with
    | none => exact un.keep b o e q (fun z => by cases z) (fun z => by cases z)
    | some u =>
      obtain ⟨rfl, _, rfl⟩ := hH b u q
      obtain ⟨e2, _⟩ := hok' b _ (un.frzs b L _ q)
      rw [ha] at e
      cases e
      exact e2
theorem walkX {l : PySem.W.OpenLaw} {n k : Nat} {q : Program} {loose : List Str} {XP : (Str → Option Value) → Heap → Prop} {YP : World → Heap → Prop} {d : DefRec} {CX : CXT} {x : Str}
    (h1 : l.most = some n) (h2 : n ≤ sizeLine) (h3 : d.params.defaults = []) (hr : RoomG k callerA)
    (F : ∀ (w : World) (mg : Str → Option Value) (fa : Addr) (h : Heap), YP w h → h.Ns mainGlobals mg → mg d.name = some (.ref fa) →
      ∃ (K : PySem.W.Frag) (fd : FuncData) (sp : Sp), K.In h ∧ (∀ (s : Shared) (u : Value), BindsTo s fd ⟨[u], []⟩ [(x, u)]) ∧
        (∀ (H : Hp) (a : Addr) (ns : List Int), ns.length ≤ n → Only H → SqL K H a (ns.map V.int) → sp [.ref a] H (fun v _ => v = .bl true) fun _ _ _ => False) ∧
        ∀ base : Heap, K.In base → base.Ns mainGlobals mg → FnG l.prog w K mg base CX k fa fd [x] sp)
    (hCX : ∀ (H : Hp) (s : Shared) (e : Value) (s' : Shared), CX [] H s (fun _ _ _ => False) e s' → False) : PySem.W.WalkO q loose XP YP l.row.toRowW d [] (fun f vs => PySem.call f vs) := by
  refine Att.attach_call h1 h3 fun w s₀ s₁ mg mb fa o pm cd doc a vs ns G Y ho hd hcd hmg hobj hints hlen hg => ?_
  obtain ⟨K, fd, sp, kx, bind, want, run⟩ := F w mg fa _ Y G.T.g hmg
  exact law_callX kx G.T.g G.T.b G.T.builtins G.T.nolimit hg hobj hints (Nat.le_trans hlen h2) hr run bind (fun H o s => want H a ns hlen o s) fun H e s' => hCX H s₁ e s'
end Dl

set_option Elab.async false
set_option maxRecDepth 100000
set_option linter.all false
set_option autoImplicit false
namespace Dl
open PySem L2

/-! ### contracts -/
abbrev Cn := List Rv → Option Nat → (Rv → Option Nat → Prop) → Prop
def dx0 (K : PySem.W.Frag) (am : Addr) (g : Option Nat) (F H : Hp) : Dx := ⟨K, g.map fun _ => am, F, H, fun _ _ _ _ _ => False⟩
def spD (K : PySem.W.Frag) (Pr : Cn) : Sp := fun vs H Q _ => ∃ am F rs g P, Le F H ∧ (∀ n, g = some n → F am = none ∧ GenAt F H am n) ∧ Rss (dx0 K am g F H) am F rs vs ∧ Pr rs g P ∧
  ∀ r g' am' F' v H', P r g' → Le F F' → Fin (dx0 K am g F H) am' F' H' g' → Sl (dx0 K am g F H) am' F' H' r v → Q v H'
structure CalD (P : Program) (w : World) (K : PySem.W.Frag) (mg : Str → Option Value) (base : Heap) (k : Nat) (x : Str) (Pr : Cn) : Prop where
  ex : ∃ (f : Addr) (fd : FuncData) (ps : List Str), FnG P w K mg base CX0 k f fd ps (spD K Pr) ∧ mg x = some (.ref f) ∧ PySem.W.keepIn K (.ref f) = true ∧ Binds K fd ps []
theorem Rss.to {Δ Δ' : Dx} {am am' : Addr} {F : Hp} (hk : Δ.K = Δ'.K) : ∀ {rs : List Rv} {vs : List V}, (Rv.gen ∈ rs → am = am') → Rss Δ am F rs vs → Rss Δ' am' F rs vs
  | _, _, _, .nil => .nil
  | _, _, h, .d a b => .d a (Rss.to hk (fun z => h (List.mem_cons_of_mem _ z)) b)
  | _, _, h, .gen b => by
    have e := h List.mem_cons_self
    subst e
    exact .gen (Rss.to hk (fun _ => rfl) b)
  | _, _, h, .scr a b => .scr (hk ▸ a) (Rss.to hk (fun z => h (List.mem_cons_of_mem _ z)) b)
section
variable {X : Cx} {Δ : Dx} {a b e : Expr} {fa fb fc : WE} {pos : Pos} {es : List Expr} {fr : WA}
/-- behind a call: g the state that was handed over (none: it was not) -/
theorem Ok.back {am : Addr} {F : Hp} {σ : St} {H : Hp} {c : Cf} (k : Ok Δ am F σ H c) {g g' : Option Nat} {am' : Addr} {F' H' : Hp} {r : Rv} {v : V} (hg : g = none ∨ g = c.g) (l : Le F F')
    (fn : Fin (dx0 Δ.K am g F H) am' F' H' g') (s : Sl (dx0 Δ.K am g F H) am' F' H' r v) (ng : r ≠ .gen) :
    Ok Δ am F' σ H' { c with g := if g.isSome then g' else c.g } ∧ Rs Δ am F' σ H' { c with g := if g.isSome then g' else c.g } r v := by
  have pr : ∀ b o, H b = some o → b ≠ am ∨ g = none → H' b = some o := fun b o e h => fn.pr b o e (by
    cases g with
    | none => exact fun z => nomatch z
    | some n =>
      rcases h with h | h
      · intro z
        have z' : some am = some b := z
        cases z'
        exact h rfl
      · cases h)
  have own : ∀ a vs, H a = some (.lst vs) → H' a = some (.lst vs) := fun a vs e => by
    cases g with
    | none => exact pr a _ e (.inr rfl)
    | some n =>
      rcases hg with h | h
      · cases h
      · exact pr a _ e (.inl ((k.gn n h.symm).2.2.ne e))
  have fr : ∀ b, F' b ≠ none → F b ≠ none ∨ H b = none := fn.fr
  have nf : ∀ b o, H b = some o → F b = none → F' b = none := fun b o e n => by
    cases q : F' b with
    | none => rfl
    | some u =>
      rcases fr b (by rw [q]; exact fun z => nomatch z) with z | z
      · exact absurd n z
      · rw [e] at z; cases z
  have new : ∀ b, H b = none → Δ.H0 b = none := fun b e => k.new e
  have gnew : ∀ n, (if g.isSome then g' else c.g) = some n → (Δ.a0 = some am ∨ (Δ.a0 = none ∧ Δ.H0 am = none)) ∧ F' am = none ∧ GenAt F' H' am n := fun n e => by
    cases g with
    | none =>
      have e : c.g = some n := e
      obtain ⟨h1, h2, h3⟩ := k.gn n e
      obtain ⟨left, sd, sp, ac, ns, h4, h5, h6⟩ := id h3
      exact ⟨h1, nf _ _ h4 h2, left, sd, sp, ac, ns, pr _ _ h4 (.inr rfl), l _ _ h5, h6⟩
    | some m =>
      have e : g' = some n := e
      have hc : c.g = some m := by
        rcases hg with h | h
        · cases h
        · exact h.symm
      obtain ⟨h1, h2, h3⟩ := k.gn m hc
      obtain ⟨h4, h5, h6⟩ := fn.gn n e
      have ea : am = am' := by
        rcases h4 with z | z
        · have z' : some am = some am' := z
          cases z'; rfl
        · have z' : (some am : Option Addr) = none := z.1
          cases z'
      subst ea
      exact ⟨h1, h5, h6⟩
  have hpr : ∀ b o, Δ.H0 b = some o → Δ.a0 ≠ some b → H' b = some o := by
    intro b o e n
    refine fn.pr b o (k.pr b o e n) ?_
    cases g with
    | none => exact fun z => nomatch z
    | some m =>
      intro z
      have z' : some am = some b := z
      cases z'
      have hc : c.g = some m := by
        rcases hg with h | h
        · cases h
        · exact h.symm
      rcases (k.gn m hc).1 with q | q
      · exact n q
      · rw [q.2] at e
        cases e
  have hal : ∀ b, Δ.a0 = some b → H' b ≠ none ∧ Δ.H0 b ≠ none := by
    intro b e
    refine ⟨?_, (k.al b e).2⟩
    cases q : H b with
    | none => exact absurd q (k.al b e).1
    | some o =>
      cases g with
      | none =>
        rw [pr b o q (.inr rfl)]
        exact fun z => nomatch z
      | some m =>
        by_cases z : b = am
        · subst z
          exact (fn.al b rfl).1
        · rw [pr b o q (.inl z)]
          exact fun z => nomatch z
  have hsv : ∀ (i : Nat) (r' : Rv), c.env[i]? = some (some r') → ∃ v, σ[i]? = some (some v) ∧ Sl Δ am F' H' r' v := by
    intro i r' e
    obtain ⟨w, h1, h2⟩ := k.sv i r' e
    refine ⟨w, h1, ?_⟩
    cases r' with
    | d x => exact Rp.mono l h2
    | gen => exact h2
    | scr ns =>
      obtain ⟨a, e1, e2⟩ := h2
      exact ⟨a, e1, sq_le l e2⟩
    | own xs =>
      obtain ⟨a, vs, e1, e2, e3, e4, e5⟩ := h2
      exact ⟨a, vs, e1, own a vs e2, nf a _ e2 e3, e4, e5.mono l⟩
  have o' : Ok Δ am F' σ H' { c with g := if g.isSome then g' else c.g } :=
    ⟨fn.fh, k.f0.trans l, fun b e => (fr b e).elim (fun z => k.fr b z) fun z => .inr (new b z), hpr, hal, gnew, k.len, hsv, k.di⟩
  refine ⟨o', ?_⟩
  cases r with
  | d x => exact .of s
  | gen => exact absurd rfl ng
  | scr ns => exact ⟨s, fun _ z => nomatch z⟩
  | own xs =>
    obtain ⟨p, vs, e1, e2, e3, e4, e5⟩ := s
    have e4 : H p = none := e4
    refine ⟨⟨p, vs, e1, e2, e3, new p e4, e5⟩, fun ys _ i zs e z => ?_⟩
    subst e1
    obtain ⟨w, h1, a, ws, q1, q2, _⟩ := k.sv i _ e
    subst q1
    rw [z] at h1
    cases h1
    rw [e4] at q2; cases q2
/-- f(..), a def by its contract; the drawing state is handed over, or not -/
def eCallP (Pr : Cn) (f : WA) : WE := fun c P X => f c (fun rs c1 => Rv.gen ∉ rs ∧ Pr rs none fun r _ => r ≠ .gen ∧ P r c1) X
def eCallG (Pr : Cn) (f : WA) : WE := fun c P X => f c (fun rs c1 => c1.g.isSome = true ∧ Pr rs c1.g fun r g' => r ≠ .gen ∧ P r { c1 with g := g' }) X
section
variable {k : Nat} {x : Str} {p : Pos} {Pr : Cn}
theorem de_callP (C : CalD X.prog X.w X.K X.mg X.base k x Pr) (hK : Δ.K = X.K) (hr : RoomG k X.A) (hg : Gl X x) (ha : PA X (e :: es) (tA Δ fr)) (hdb : (x == ("__debug__" : Str)) = false := by decide)
    (he : starEach (e :: es) X.env = (false, eval e X.env) :: starEach es X.env := by rfl) (hpl : (backTo pos (starEach es X.env)).any (·.1) = false := by rfl) :
    PE X (.Call (.Name x p) (e :: es) [] pos) (tE Δ (eCallP Pr fr)) := by
  obtain ⟨f, fd, ps, h1, h2, h3, h4⟩ := C.ex
  refine (pe_callX h1 hr hg h2 h3 h4 pass0 ha hdb he hpl).imp fun σ H Q ⟨am, F, c, P, XX, ok, hf, kq, kx⟩ => ?_
  refine ⟨am, F, c, _, XX, ok, hf, fun rs c1 F1 vs H1 p1 l1 o1 s1 => ?_, kx⟩
  show spD X.K Pr (vs ++ []) H1 Q E0
  rw [List.append_nil]
  refine ⟨am, F1, rs, none, _, o1.fh, fun n z => (nomatch z), s1.to hK (fun _ => rfl), p1.2, fun r g' am' F' v H' pr l fn s => ?_⟩
  obtain ⟨o', s'⟩ := o1.back (g := none) (.inl rfl) l (hK ▸ fn) (hK ▸ s) pr.1
  exact kq r c1 F' v H' pr.2 (l1.trans l) o' s'
theorem de_callG (C : CalD X.prog X.w X.K X.mg X.base k x Pr) (hK : Δ.K = X.K) (hr : RoomG k X.A) (hg : Gl X x) (ha : PA X (e :: es) (tA Δ fr)) (hdb : (x == ("__debug__" : Str)) = false := by decide)
    (he : starEach (e :: es) X.env = (false, eval e X.env) :: starEach es X.env := by rfl) (hpl : (backTo pos (starEach es X.env)).any (·.1) = false := by rfl) :
    PE X (.Call (.Name x p) (e :: es) [] pos) (tE Δ (eCallG Pr fr)) := by
  obtain ⟨f, fd, ps, h1, h2, h3, h4⟩ := C.ex
  refine (pe_callX h1 hr hg h2 h3 h4 pass0 ha hdb he hpl).imp fun σ H Q ⟨am, F, c, P, XX, ok, hf, kq, kx⟩ => ?_
  refine ⟨am, F, c, _, XX, ok, hf, fun rs c1 F1 vs H1 p1 l1 o1 s1 => ?_, kx⟩
  show spD X.K Pr (vs ++ []) H1 Q E0
  rw [List.append_nil]
  refine ⟨am, F1, rs, c1.g, _, o1.fh, fun n z => (o1.gn n z).2, s1.to hK (fun _ => rfl), p1.2, fun r g' am' F' v H' pr l fn s => ?_⟩
  obtain ⟨o', s'⟩ := o1.back (g := c1.g) (.inr rfl) l (hK ▸ fn) (hK ▸ s) pr.1
  rw [if_pos p1.1] at o' s'
  exact kq r _ F' v H' pr.2 (l1.trans l) o' s'
end
end
/-! ### a def's body -/
def startC (n : Nat) (rs : List Rv) (g : Option Nat) : Cf := ⟨rs.map some ++ List.replicate (n - rs.length) none, g⟩
theorem Rss.length {Δ : Dx} {am : Addr} {F : Hp} : ∀ {rs : List Rv} {vs : List V}, Rss Δ am F rs vs → rs.length = vs.length
  | _, _, .nil => rfl
  | _, _, .d _ r => congrArg (· + 1) r.length
  | _, _, .gen r => congrArg (· + 1) r.length
  | _, _, .scr _ r => congrArg (· + 1) r.length
theorem Rss.get {Δ : Dx} {am : Addr} {F H : Hp} : ∀ {rs : List Rv} {vs : List V} {i : Nat} {r : Rv}, Rss Δ am F rs vs → rs[i]? = some r → ∃ v, vs[i]? = some v ∧ Sl Δ am F H r v ∧ ∀ xs, r ≠ .own xs
  | _, _, _, _, .nil, h => by simp at h
  | _, _, 0, _, .d a _, h => by simp at h; subst h; exact ⟨_, rfl, a, fun _ z => nomatch z⟩
  | _, _, 0, _, .gen _, h => by simp at h; subst h; exact ⟨_, rfl, rfl, fun _ z => nomatch z⟩
  | _, _, 0, _, .scr a _, h => by simp at h; subst h; exact ⟨_, rfl, ⟨_, rfl, a⟩, fun _ z => nomatch z⟩
  | _, _, i + 1, _, .d _ b, h => by
    obtain ⟨v, e, q⟩ := Rss.get (i := i) (H := H) b (by simpa using h)
    exact ⟨v, by simpa using e, q⟩
  | _, _, i + 1, _, .gen b, h => by
    obtain ⟨v, e, q⟩ := Rss.get (i := i) (H := H) b (by simpa using h)
    exact ⟨v, by simpa using e, q⟩
  | _, _, i + 1, _, .scr _ b, h => by
    obtain ⟨v, e, q⟩ := Rss.get (i := i) (H := H) b (by simpa using h)
    exact ⟨v, by simpa using e, q⟩
theorem start_get {n : Nat} {rs : List Rv} {g : Option Nat} {i : Nat} {r : Rv} (h : (startC n rs g).env[i]? = some (some r)) : rs[i]? = some r := by
  unfold startC at h
  by_cases hi : i < rs.length
  · rw [List.getElem?_append_left (by simpa using hi), List.getElem?_map] at h
    cases e : rs[i]? with
    | none => rw [e] at h; cases h
    | some x => rw [e] at h; cases h; rfl
  · rw [List.getElem?_append_right (by simpa using hi), List.getElem?_replicate] at h
    split at h <;> cases h
theorem start_ok {K : PySem.W.Frag} {am : Addr} {F H : Hp} {g : Option Nat} {rs : List Rv} {vs : List V} {N : List Str} (fh : Le F H) (gn : ∀ n, g = some n → F am = none ∧ GenAt F H am n) (s : Rss (dx0 K am g F H) am F rs vs) :
    Ok (dx0 K am g F H) am F (L2.start N vs) H (startC N.length rs g) where
  fh := fh
  f0 := Le.refl F
  fr := fun a h => .inl h
  pr := fun a o e _ => e
  al := fun a e => by
    cases g with
    | none => cases e
    | some n =>
      have e' : some am = some a := e
      cases e'
      exact ⟨(gn n rfl).2.sm, (gn n rfl).2.sm⟩
  gn := fun n e => by
    have e' : g = some n := e
    subst e'
    exact ⟨.inl rfl, gn n rfl⟩
  len := by
    unfold L2.start startC
    simp only [List.length_append, List.length_map, List.length_replicate, s.length]
  sv := fun i r e => by
    obtain ⟨v, h1, h2, _⟩ := s.get (H := H) (start_get e)
    refine ⟨v, ?_, h2⟩
    unfold L2.start
    have hi : i < vs.length := (List.getElem?_eq_some_iff.mp h1).1
    rw [List.getElem?_append_left (by simpa using hi), List.getElem?_map, h1]
    rfl
  di := fun i j xs ys _ e _ => by
    obtain ⟨v, _, _, h⟩ := s.get (H := H) (start_get e)
    exact absurd rfl (h xs)
def endP (P : Rv → Option Nat → Prop) : Fl → Prop := fun fl => match fl with
  | .nx c => P (.d .none) c.g
  | .rt r g => P r g
  | .bk _ => False
  | .ct _ => False
section
variable {P : Program} {w : World} {K : PySem.W.Frag} {mg : Str → Option Value} {base : Heap}
/-- THE RULE for a def -/
theorem def_ok {x qual : Str} {st : Stmt} {f : Addr} {fd : FuncData} {N ps : List Str} {k : Nat} {Pr : Cn} (nog : Bool) (F : FunD K x qual (defArgs st) (defBody st) (defScope st) [] [] f fd) (S : FnScope N ps (defScope st)) (hmg : mg x = some (.ref f)) (bi : Binds K fd ps [])
    (fw : WS) (len : ∀ rs g Q, Pr rs g Q → rs.length = ps.length) (hn : nog = true → ∀ rs g Q, Pr rs g Q → g = none) (spec : ∀ rs g Q, Pr rs g Q → fw (startC N.length rs g) (endP Q) fun _ _ => False)
    (hbody : ∀ (cdv : Value) (A : Around) (outer : List Env) (s : Shared) (H : Hp) (E : XK) (Δ : Dx), RoomG k (A.deeper (PyProof.Rows.envOfC qual (defScope st) s.heap.objs.size f cdv)) → Δ.K = K → (nog = true → Δ.a0 = none) →
      PSs (cxOf CX0 P w K mg base N qual (defScope st) f cdv A outer s H E).nox (defBody st) (tS Δ fw)) : CalD P w K mg base (k + 1) x Pr := by
  refine ⟨f, fd, ps, fnG_of F S (fun vs H Q E h => ?_) (fun cdv A outer s H vs Q E hr h => ?_), hmg, F.kp, bi⟩
  · obtain ⟨am, G, rs, g, q, _, _, h3, h4, _⟩ := h
    rw [← h3.length]
    exact len rs g q h4
  · obtain ⟨am, G, rs, g, q, h1, h2, h3, h4, h5⟩ := h
    refine ⟨_, PSs.nox (hbody cdv A outer s H E (dx0 K am g G H) hr rfl (fun z => by rw [hn z rs g q h4]; rfl)), am, G, _, _, _, start_ok h1 h2 h3, spec rs g q h4, ⟨fun c am' F' σ' H' p l o => ?_, fun _ _ _ _ _ z => z.elim, fun _ _ _ _ _ z => z.elim, fun r g' am' F' H' v p l fn s => ?_⟩, fun _ _ _ _ _ z => z.elim⟩
    · exact h5 _ _ am' F' _ H' p l o.fin .non
    · exact h5 r g' am' F' v H' p l fn s
end
end Dl

set_option Elab.async false
set_option maxRecDepth 100000
set_option linter.all false
set_option autoImplicit false
namespace Dl
open PySem L2
section
variable {X : Cx} {Δ : Dx} {a b e : Expr} {fa fb fc : WE} {pos : Pos} {es : List Expr} {fr : WA}

/-! ### what is gone through -/
/-- turn i over xs: its value stands over F, or is a new tuple -/
def YD (F : Hp) (xs : List Px) : Nat → Hp → V → Hp → Prop := fun i H v H' => ∃ x, xs[i]? = some x ∧
  ((H' = H ∧ Rp F v x) ∨ ∃ T vs ds, v = .ref T ∧ H T = none ∧ H' = upd H T (.tup vs) ∧ x = .tuple ds ∧ RpA F vs ds)
abbrev WalkX (J : It) (xs : List Px) (F : Hp) : Prop := L2.Walk J xs.length (fun H => Le F H) (YD F xs)
def tI (Δ : Dx) (f : WI) : TI := fun σ H R => ∃ am F c P X, Ok Δ am F σ H c ∧ f c P X ∧
  (∀ xs c' F' H' J, P xs c' → Le F F' → Ok Δ am F' σ H' c' → WalkX J xs F' → R J H') ∧ KX Δ am F X
def asL (r : Rv) (k : List Px → Prop) : Prop := asD r fun x => match x with
  | .list xs => k xs
  | _ => False
def asT (r : Rv) (k : List Px → Prop) : Prop := asD r fun x => match x with
  | .tuple xs => k xs
  | _ => False
def iLst (f : WE) : WI := fun c P X => f c (fun r c1 => asL r fun xs => P xs c1) X
def iTpl (f : WE) : WI := fun c P X => f c (fun r c1 => asT r fun xs => P xs c1) X
theorem asL_of {am : Addr} {F : Hp} {σ : St} {H : Hp} {c : Cf} {r : Rv} {v : V} {q : List Px → Prop} (o : Ok Δ am F σ H c) (s : Rs Δ am F σ H c r v) (h : asL r q) :
    ∃ a vs xs F', v = .ref a ∧ q xs ∧ Le F F' ∧ Ok Δ am F' σ H c ∧ F' a = some (.lst vs) ∧ RpA F' vs xs := by
  obtain ⟨x, F', hx, l, o', rp⟩ := s.data o h
  split at hx
  · cases rp with
    | lst e r1 => exact ⟨_, _, _, F', rfl, hx, l, o', e, r1⟩
  · exact hx.elim
theorem asT_of {am : Addr} {F : Hp} {σ : St} {H : Hp} {c : Cf} {r : Rv} {v : V} {q : List Px → Prop} (o : Ok Δ am F σ H c) (s : Rs Δ am F σ H c r v) (h : asT r q) :
    ∃ a vs xs F', v = .ref a ∧ q xs ∧ Le F F' ∧ Ok Δ am F' σ H c ∧ F' a = some (.tup vs) ∧ RpA F' vs xs := by
  obtain ⟨x, F', hx, l, o', rp⟩ := s.data o h
  split at hx
  · cases rp with
    | tup e r1 => exact ⟨_, _, _, F', rfl, hx, l, o', e, r1⟩
  · exact hx.elim
theorem y_at {F : Hp} {vs : List V} {xs : List Px} (r : RpA F vs xs) : ∀ (i : Nat) (H : Hp) (v : V) (H' : Hp), YAt vs i H v H' → YD F xs i H v H' := fun i H v H' ⟨e1, e2⟩ => by
  obtain ⟨x, h1, h2⟩ := r.getV e2
  exact ⟨x, h1, .inl ⟨e1, h2⟩⟩
theorem walk_l {K : PySem.W.Frag} {F : Hp} {a : Addr} {vs : List V} {xs : List Px} (e : F a = some (.lst vs)) (r : RpA F vs xs) : WalkX (Itl K a) xs F := by
  have w : L2.Walk (Itl K a) vs.length (fun H => SqL K H a vs) (YAt vs) := walk_list
  rw [r.length] at w
  exact w.mono (fun H h => SqL.of (h _ _ e)) fun i H v H' _ _ y => y_at r i H v H' y
theorem walk_t {K : PySem.W.Frag} {F : Hp} {a : Addr} {vs : List V} {xs : List Px} (e : F a = some (.tup vs)) (r : RpA F vs xs) : WalkX (Itt K a) xs F := by
  have w : L2.Walk (Itt K a) vs.length (fun H => SqT K H a vs) (YAt vs) := walk_tup
  rw [r.length] at w
  exact w.mono (fun H h => SqT.of (h _ _ e)) fun i H v H' _ _ y => y_at r i H v H' y
section
variable {tg : Expr}
theorem di_l (ha : PE X a (tE Δ fa)) : PI X tg a (tI Δ (iLst fa)) := by
  refine (pi_list ha).imp fun σ H R ⟨am, F, c, P, XX, ok, hf, kq, kx⟩ => ?_
  refine ⟨am, F, c, _, XX, ok, hf, fun r1 c1 F1 v1 H1 p1 l1 o1 s1 => ?_, kx⟩
  obtain ⟨b, vs, xs, F', e1, hx, l, o', e2, r⟩ := asL_of o1 s1 p1
  exact ⟨b, e1, ⟨vs, SqL.of (o'.fh _ _ e2)⟩, kq xs c1 F' H1 _ hx (l1.trans l) o' (walk_l e2 r)⟩
theorem di_t (ha : PE X a (tE Δ fa)) : PI X tg a (tI Δ (iTpl fa)) := by
  refine (pi_tup ha).imp fun σ H R ⟨am, F, c, P, XX, ok, hf, kq, kx⟩ => ?_
  refine ⟨am, F, c, _, XX, ok, hf, fun r1 c1 F1 v1 H1 p1 l1 o1 s1 => ?_, kx⟩
  obtain ⟨b, vs, xs, F', e1, hx, l, o', e2, r⟩ := asT_of o1 s1 p1
  exact ⟨b, e1, ⟨vs, SqT.of (o'.fh _ _ e2)⟩, kq xs c1 F' H1 _ hx (l1.trans l) o' (walk_t e2 r)⟩
/-- lo, lo + 1, .. -/
def rngX (lo : Int) : Nat → List Px
  | 0 => []
  | n + 1 => .int lo :: rngX (lo + 1) n
theorem rngX_length : ∀ (lo : Int) (n : Nat), (rngX lo n).length = n
  | _, 0 => rfl
  | lo, n + 1 => congrArg (· + 1) (rngX_length (lo + 1) n)
theorem rngX_get : ∀ (n : Nat) (lo : Int) (i : Nat), i < n → (rngX lo n)[i]? = some (.int (lo + i))
  | n + 1, lo, 0, _ => by simp [rngX]
  | n + 1, lo, i + 1, h => by
    show (rngX (lo + 1) n)[i]? = _
    rw [rngX_get n (lo + 1) i (by omega)]
    rw [show lo + 1 + (i : Int) = lo + ((i + 1 : Nat) : Int) by omega]
theorem walk_r {F : Hp} (lo : Int) (n : Nat) : WalkX (Itr lo n) (rngX lo n) F := by
  have w : L2.Walk (Itr lo n) n (fun _ => True) (YFn fun i => .int (lo + i)) := walk_range
  have w' := w.mono (G' := fun H => Le F H) (Y' := YD F (rngX lo n)) (fun _ _ => True.intro) fun i H v H' hi _ ⟨y1, y2⟩ => ⟨.int (lo + i), rngX_get n lo i hi, .inl ⟨y1, by rw [y2]; exact .int _⟩⟩
  have e := rngX_length lo n
  unfold WalkX
  rw [e]
  exact w'
def smI (i : Int) : Prop := -(2 ^ 62) ≤ i ∧ i < 2 ^ 62
def iRg1 (f : WA) : WI := fun c P X => f c (fun rs c1 => match rs with
  | [.d (.int j)] => smI j ∧ P (rngX 0 j.toNat) c1
  | _ => False) X
def iRg2 (f : WA) : WI := fun c P X => f c (fun rs c1 => match rs with
  | [.d (.int i), .d (.int j)] => smI i ∧ smI j ∧ P (rngX i (j - i).toNat) c1
  | _ => False) X
theorem di_r1 {p : Pos} (hg : Gl X "range") (hm : X.mg "range" = none) (ha : PA X [a] (tA Δ fr)) (hs : starEach [a] X.env = [(false, eval a X.env)] := by rfl) : PI X tg (.Call (.Name "range" p) [a] [] pos) (tI Δ (iRg1 fr)) := by
  refine (pi_range1 hg hm ha hs).imp fun σ H R ⟨am, F, c, P, XX, ok, hf, kq, kx⟩ => ?_
  refine ⟨am, F, c, _, XX, ok, hf, fun rs c1 F1 vs H1 p1 l1 o1 s1 => ?_, kx⟩
  split at p1
  · cases s1 with
    | d r s =>
      cases s
      cases r
      exact ⟨_, rfl, p1.1.1, p1.1.2, kq _ c1 F1 H1 _ p1.2 l1 o1 (walk_r 0 _)⟩
  · exact p1.elim
theorem di_r2 {p : Pos} (hg : Gl X "range") (hm : X.mg "range" = none) (ha : PA X [a, b] (tA Δ fr)) (hs : starEach [a, b] X.env = [(false, eval a X.env), (false, eval b X.env)] := by rfl) (hs2 : starEach [b] X.env = [(false, eval b X.env)] := by rfl) :
    PI X tg (.Call (.Name "range" p) [a, b] [] pos) (tI Δ (iRg2 fr)) := by
  refine (pi_range2 hg hm ha hs hs2).imp fun σ H R ⟨am, F, c, P, XX, ok, hf, kq, kx⟩ => ?_
  refine ⟨am, F, c, _, XX, ok, hf, fun rs c1 F1 vs H1 p1 l1 o1 s1 => ?_, kx⟩
  split at p1
  · cases s1 with
    | d r s =>
      cases s with
      | d r' s =>
        cases s
        cases r
        cases r'
        exact ⟨_, _, rfl, ⟨p1.1.1, p1.1.2, p1.2.1.1, p1.2.1.2⟩, kq _ c1 F1 H1 _ p1.2.2 l1 o1 (walk_r _ _)⟩
  · exact p1.elim
def enumX (n : Int) : List Px → List Px
  | [] => []
  | x :: xs => .tuple [.int n, x] :: enumX (n + 1) xs
theorem enumX_length : ∀ (n : Int) (xs : List Px), (enumX n xs).length = xs.length
  | _, [] => rfl
  | n, x :: xs => congrArg (· + 1) (enumX_length (n + 1) xs)
theorem enumX_get : ∀ (xs : List Px) (n : Int) (i : Nat) (x : Px), xs[i]? = some x → (enumX n xs)[i]? = some (.tuple [.int (n + i), x])
  | [], _, _, _, h => by simp at h
  | y :: xs, n, 0, x, h => by simp at h; subst h; simp [enumX]
  | y :: xs, n, i + 1, x, h => by
    show (enumX (n + 1) xs)[i]? = _
    rw [enumX_get xs (n + 1) i x (by simpa using h)]
    rw [show n + 1 + (i : Int) = n + ((i + 1 : Nat) : Int) by omega]
theorem walk_e {K : PySem.W.Frag} {F : Hp} {a : Addr} {vs : List V} {xs : List Px} (e : F a = some (.lst vs)) (r : RpA F vs xs) : WalkX (Ite K a) (enumX 0 xs) F := by
  have w : L2.Walk (Ite K a) vs.length (fun H => SqL K H a vs) (YPair (fun i => some (.int (i : Nat))) (fun i => vs[i]?)) := walk_enum
  have w' := w.mono (G' := fun H => Le F H) (Y' := YD F (enumX 0 xs)) (fun H h => SqL.of (h _ _ e)) fun i H v H' hi _ ⟨T, y, z, h1, h2, h3, h4, h5⟩ => by
    obtain ⟨x, q1, q2⟩ := r.getV h5
    have e4 := Option.some.inj h4
    subst e4
    refine ⟨_, enumX_get xs 0 i x q1, .inr ⟨T, _, _, h1, h2, h3, rfl, .cons ?_ (.one q2)⟩⟩
    rw [Int.zero_add]
    exact .int _
  have el := enumX_length 0 xs
  unfold WalkX
  rw [el, ← r.length]
  exact w'
def iEnm (f : WA) : WI := fun c P X => f c (fun rs c1 => match rs with
  | [.d (.list xs)] => P (enumX 0 xs) c1
  | _ => False) X
theorem di_en {p tpos : Pos} {elts : List Expr} {kk : Nat} (hK : Δ.K = X.K) (hg : Gl X "enumerate") (hm : X.mg "enumerate" = none) (ha : PA X [a] (tA Δ fr)) (hs : starEach [a] X.env = [(false, eval a X.env)] := by rfl) :
    PI X (.Tuple elts kk tpos) (.Call (.Name "enumerate" p) [a] [] pos) (tI Δ (iEnm fr)) := by
  refine (pi_enum hg hm ha hs).imp fun σ H R ⟨am, F, c, P, XX, ok, hf, kq, kx⟩ => ?_
  refine ⟨am, F, c, _, XX, ok, hf, fun rs c1 F1 vs H1 p1 l1 o1 s1 => ?_, kx⟩
  split at p1
  · cases s1 with
    | d r s =>
      cases s
      cases r with
      | lst e r1 => exact ⟨_, _, rfl, SqL.of (o1.fh _ _ e), kq _ c1 F1 H1 _ p1 l1 o1 (walk_e e r1)⟩
  · exact p1.elim
def zipX : List Px → List Px → List Px
  | x :: xs, y :: ys => .tuple [x, y] :: zipX xs ys
  | _, _ => []
theorem zipX_length : ∀ xs ys : List Px, (zipX xs ys).length = min xs.length ys.length
  | [], ys => by cases ys <;> simp [zipX]
  | x :: xs, [] => by simp [zipX]
  | x :: xs, y :: ys => by simp [zipX, zipX_length xs ys]
theorem zipX_get : ∀ (xs ys : List Px) (i : Nat) (x y : Px), xs[i]? = some x → ys[i]? = some y → (zipX xs ys)[i]? = some (.tuple [x, y])
  | [], _, _, _, _, h, _ => by simp at h
  | _ :: _, [], _, _, _, _, h => by simp at h
  | a :: xs, b :: ys, 0, x, y, h, h' => by simp at h h'; subst h h'; simp [zipX]
  | a :: xs, b :: ys, i + 1, x, y, h, h' => by
    show (zipX xs ys)[i]? = _
    exact zipX_get xs ys i x y (by simpa using h) (by simpa using h')
theorem walk_z {K : PySem.W.Frag} {F : Hp} {a b : Addr} {vs ws : List V} {xs ys : List Px} (e : F a = some (.lst vs)) (r : RpA F vs xs) (e' : F b = some (.lst ws)) (r' : RpA F ws ys) : WalkX (Itz K a b) (zipX xs ys) F := by
  have w : L2.Walk (Itz K a b) (min vs.length ws.length) (fun H => SqL K H a vs ∧ SqL K H b ws) (YPair (fun i => vs[i]?) (fun i => ws[i]?)) := walk_zip rfl
  have w' := w.mono (G' := fun H => Le F H) (Y' := YD F (zipX xs ys)) (fun H h => ⟨SqL.of (h _ _ e), SqL.of (h _ _ e')⟩) fun i H v H' hi _ ⟨T, y, z, h1, h2, h3, h4, h5⟩ => by
    obtain ⟨x, q1, q2⟩ := r.getV h4
    obtain ⟨x', q1', q2'⟩ := r'.getV h5
    exact ⟨_, zipX_get xs ys i x x' q1 q1', .inr ⟨T, _, _, h1, h2, h3, rfl, .cons q2 (.one q2')⟩⟩
  have el := zipX_length xs ys
  unfold WalkX
  rw [el, ← r.length, ← r'.length]
  exact w'
def iZp (f : WA) : WI := fun c P X => f c (fun rs c1 => match rs with
  | [.d (.list xs), .d (.list ys)] => P (zipX xs ys) c1
  | _ => False) X
theorem di_z {p tpos : Pos} {elts : List Expr} {kk : Nat} (hg : Gl X "zip") (hm : X.mg "zip" = none) (ha : PA X [a, b] (tA Δ fr)) (hs : starEach [a, b] X.env = (false, eval a X.env) :: starEach [b] X.env := by rfl) (hs2 : (backTo pos (starEach [b] X.env)).any (·.1) = false := by rfl) :
    PI X (.Tuple elts kk tpos) (.Call (.Name "zip" p) [a, b] [] pos) (tI Δ (iZp fr)) := by
  refine (pi_zip hg hm ha hs hs2).imp fun σ H R ⟨am, F, c, P, XX, ok, hf, kq, kx⟩ => ?_
  refine ⟨am, F, c, _, XX, ok, hf, fun rs c1 F1 vs H1 p1 l1 o1 s1 => ?_, kx⟩
  split at p1
  · cases s1 with
    | d r s =>
      cases s with
      | d r' s =>
        cases s
        cases r with
        | lst e r1 =>
          cases r' with
          | lst e' r1' => exact ⟨_, _, _, _, rfl, SqL.of (o1.fh _ _ e), SqL.of (o1.fh _ _ e'), kq _ c1 F1 H1 _ p1 l1 o1 (walk_z e r1 e' r1')⟩
  · exact p1.elim
end

/-! ### targets -/
/-- the result at name i -/
def gN (i : Nat) : WG := fun r c P => i < c.env.length ∧ P { c with env := c.env.set i (some r) }
theorem Ok.put {am : Addr} {F : Hp} {σ : St} {H : Hp} {c : Cf} (k : Ok Δ am F σ H c) {r : Rv} {v : V} (s : Rs Δ am F σ H c r v) (i : Nat) :
    Ok Δ am F (σ.set i (some v)) H { c with env := c.env.set i (some r) } := by
  have hl : ((σ.set i (some v)).length) = (c.env.set i (some r)).length := by simpa using k.len
  refine ⟨k.fh, k.f0, k.fr, k.pr, k.al, k.gn, hl, fun j q e => ?_, fun j l ys zs n p q => ?_⟩
  · rw [env_get] at e
    split at e
    · rename_i z
      cases e
      refine ⟨v, ?_, s.1⟩
      rw [St.set_get, if_pos ⟨z.1, by rw [k.len]; exact z.2⟩]
    · rename_i z
      obtain ⟨w, h1, h2⟩ := k.sv j q e
      refine ⟨w, ?_, h2⟩
      rw [St.set_get, if_neg (fun y => z ⟨y.1, by rw [← k.len]; exact y.2⟩)]
      exact h1
  · rw [env_get] at p q
    rw [St.set_get, St.set_get]
    have lw : σ.length = c.env.length := k.len
    by_cases hj : j = i ∧ i < c.env.length
    · by_cases hq : l = i ∧ i < c.env.length
      · exact absurd (hj.1.trans hq.1.symm) n
      · rw [if_pos hj] at p
        rw [if_neg hq] at q
        rw [if_pos (by rw [lw]; exact hj), if_neg (by rw [lw]; exact hq)]
        cases p
        exact (s.2 ys rfl l zs q).symm
    · by_cases hq : l = i ∧ i < c.env.length
      · rw [if_neg hj] at p
        rw [if_pos hq] at q
        rw [if_neg (by rw [lw]; exact hj), if_pos (by rw [lw]; exact hq)]
        cases q
        exact s.2 zs rfl j ys p
      · rw [if_neg hj] at p
        rw [if_neg hq] at q
        rw [if_neg (by rw [lw]; exact hj), if_neg (by rw [lw]; exact hq)]
        exact k.di j l ys zs n p q
theorem Tch.one (σ : St) (i : Nat) (o : Option V) : Tch [i] σ (σ.set i o) := ⟨List.length_set, fun j h => List.getElem?_set_ne (fun e => h (by rw [e]; exact List.mem_singleton.mpr rfl))⟩
theorem Tch.refl (σ : St) (ws : List Nat) : Tch ws σ σ := ⟨rfl, fun _ _ => rfl⟩
theorem Tch.app {ws us : List Nat} {σ σ' σ'' : St} (h : Tch ws σ σ') (k : Tch us σ' σ'') : Tch (ws ++ us) σ σ'' := ⟨k.1.trans h.1, fun i n => by
  simp only [List.mem_append, not_or] at n
  exact (k.2 i n.2).trans (h.2 i n.1)⟩
theorem dg_name (i : Nat) {x : Str} (hN : X.N.Nodup) (hi : X.N[i]? = some x := by rfl) (hx : Loc X.env.scope x := by first | exact Or.inl rfl | exact Or.inr rfl)
    (hf : X.fn x = true ∨ X.env.scope.names.lookup x = some .local := by first | exact .inl rfl | exact .inr rfl) : PG X (.Name x pos) (tG Δ [i] (gN i)) :=
  (pg_name hN hi hx hf).imp fun v σ H Q ⟨am, F, c, r, P, ok, s, h, kq⟩ => kq _ F _ H h.2 (Le.refl F) (ok.put s i) (.one σ i _)
abbrev WGs := List Px → Cf → (Cf → Prop) → Prop
def tGs (Δ : Dx) (ws : List Nat) (f : WGs) : TGs := fun vs σ H Q => ∃ am F c xs P, Ok Δ am F σ H c ∧ RpA F vs xs ∧ f xs c P ∧
  (∀ c' F' σ' H', P c' → Le F F' → Ok Δ am F' σ' H' c' → Tch ws σ σ' → Q σ' H')
theorem _root_.L2.PGs.imp {es : List Expr} {t t' : TGs} (h : PGs X es t) (w : ∀ v σ H Q, t' v σ H Q → t v σ H Q) : PGs X es t' :=
  ⟨fun pins s σ H v u Q I r q => h.run pins s σ H v u Q I r (w v σ H Q q)⟩
def gsNil : WGs := fun xs c P => match xs with
  | [] => P c
  | _ => False
def gsCons (g : WG) (gs : WGs) : WGs := fun xs c P => match xs with
  | x :: r => g (.d x) c fun c1 => gs r c1 P
  | _ => False
theorem dgs_nil : PGs X [] (tGs Δ [] gsNil) := pgs_nil.imp fun vs σ H Q ⟨am, F, c, xs, P, ok, r, h, kq⟩ => by
  unfold gsNil at h
  split at h
  · cases r
    exact ⟨rfl, kq c F σ H h (Le.refl F) ok (.refl σ [])⟩
  · exact h.elim
theorem dgs_cons {g : WG} {gs : WGs} {us vs : List Nat} (h1 : PG X e (tG Δ us g)) (h2 : PGs X es (tGs Δ vs gs)) (hs : (assignEach (e :: es) X.env).map (·.2) = assign e X.env :: (assignEach es X.env).map (·.2) := by rfl) : PGs X (e :: es) (tGs Δ (us ++ vs) (gsCons g gs)) :=
  (pgs_cons h1 h2 hs).imp fun vs σ H Q ⟨am, F, c, xs, P, ok, r, h, kq⟩ => by
    unfold gsCons at h
    split at h
    · cases r with
      | cons r1 r2 =>
        refine ⟨_, _, rfl, am, F, c, _, _, ok, .of r1, h, fun c1 F1 σ1 H1 p1 l1 o1 t1 => ?_⟩
        exact ⟨am, F1, c1, _, _, o1, r2.mono l1, p1, fun c2 F2 σ2 H2 p2 l2 o2 t2 => kq c2 F2 σ2 H2 p2 (l1.trans l2) o2 (t1.app t2)⟩
    · exact h.elim
/-- (a, b, ..) = a tuple of that length -/
def gT (n : Nat) (gs : WGs) : WG := fun r c P => match r with
  | .d (.tuple xs) => xs.length = n ∧ gs xs c P
  | _ => False
theorem dg_tup {k : Nat} {gs : WGs} {n : Nat} {us : List Nat} (hc : X.calm = true) (h : PGs X es (tGs Δ us gs)) (hn : (assignEach es X.env).length = n := by rfl) (hst : (assignEach es X.env).findIdx? (·.1) = none := by rfl) : PG X (.Tuple es k pos) (tG Δ us (gT n gs)) :=
  (pg_tup hc h hn hst).imp fun v σ H Q ⟨am, F, c, r, P, ok, s, h, kq⟩ => by
    unfold gT at h
    split at h
    · have h1 := s.1
      cases h1 with
      | tup e r1 => exact ⟨_, _, rfl, SqT.of (ok.fh _ _ e), by rw [r1.length]; exact h.1, am, F, c, _, P, ok, r1, h.2, kq⟩
    · exact h.elim
end
end Dl

set_option Elab.async false
set_option maxRecDepth 100000
set_option linter.all false
set_option autoImplicit false
namespace Dl
open PySem L2
section
variable {X : Cx} {Δ : Dx} {a b e : Expr} {fa fb fc : WE} {pos : Pos} {es : List Expr} {fr : WA} {st : Stmt} {rest sa sb : List Stmt} {ws wt : WS}

/-! ### blocks and small statements -/
def sNil : WS := fun c P _ => P (.nx c)
def sSeq (f g : WS) : WS := fun c P X => f c (fun fl => match fl with
  | .nx c1 => g c1 P X
  | o => P o) X
theorem dss_nil : PSs X [] (tS Δ sNil) := pss_nil.imp fun D σ H ⟨am, F, c, P, XX, ok, hf, kf, kx⟩ => kf.1 c am F σ H hf (Le.refl F) ok
theorem KF.le {am : Addr} {F G : Hp} {P : Fl → Prop} {D : Ends} (k : KF Δ am F P D) (l : Le F G) (am' : Addr) : KF Δ am' G P D :=
  ⟨fun c am' F' σ' H' p l' o => k.1 c am' F' σ' H' p (l.trans l') o, fun c am' F' σ' H' p l' o => k.2.1 c am' F' σ' H' p (l.trans l') o,
    fun c am' F' σ' H' p l' o => k.2.2.1 c am' F' σ' H' p (l.trans l') o, fun r g am' F' H' v p l' o s => k.2.2.2 r g am' F' H' v p (l.trans l') o s⟩
theorem dss_cons (h1 : PS X st (tS Δ ws)) (h2 : PSs X rest (tS Δ wt)) : PSs X (st :: rest) (tS Δ (sSeq ws wt)) := by
  refine (pss_cons h1 h2).imp fun D σ H ⟨am, F, c, P, XX, ok, hf, kf, kx⟩ => ?_
  refine ⟨am, F, c, _, XX, ok, hf, ⟨fun c1 am1 F1 σ1 H1 p1 l1 o1 => ?_, fun c1 am1 F1 σ1 H1 p1 l1 o1 => kf.2.1 c1 am1 F1 σ1 H1 p1 l1 o1, fun c1 am1 F1 σ1 H1 p1 l1 o1 => kf.2.2.1 c1 am1 F1 σ1 H1 p1 l1 o1,
    fun r g am1 F1 H1 v p1 l1 o1 s1 => kf.2.2.2 r g am1 F1 H1 v p1 l1 o1 s1⟩, kx⟩
  exact ⟨am1, F1, c1, P, XX, o1, p1, kf.le l1 am1, kx.le l1⟩
theorem dss_one (h1 : PS X st (tS Δ ws)) : PSs X [st] (tS Δ ws) := pss_one h1
def sBrk : WS := fun c P _ => P (.bk c)
def sCnt : WS := fun c P _ => P (.ct c)
theorem ds_pass : PS X (.Pass pos) (tS Δ sNil) := ps_pass.imp fun D σ H ⟨am, F, c, P, XX, ok, hf, kf, kx⟩ => kf.1 c am F σ H hf (Le.refl F) ok
theorem ds_break : PS X (.Break pos) (tS Δ sBrk) := ps_break.imp fun D σ H ⟨am, F, c, P, XX, ok, hf, kf, kx⟩ => kf.2.1 c am F σ H hf (Le.refl F) ok
theorem ds_continue : PS X (.Continue pos) (tS Δ sCnt) := ps_continue.imp fun D σ H ⟨am, F, c, P, XX, ok, hf, kf, kx⟩ => kf.2.2.1 c am F σ H hf (Le.refl F) ok
def sNo : WS := fun _ _ _ => False
theorem ds_never : PS X st (tS Δ sNo) := ps_never.imp fun D σ H ⟨am, F, c, P, XX, ok, hf, kf, kx⟩ => hf
def sExp (fa : WE) : WS := fun c P X => fa c (fun _ c1 => P (.nx c1)) X
theorem ds_expr (ha : PE X a (tE Δ fa)) (hs : swapsWith a none pos.line X.env = pure false := by rfl) : PS X (.Expr a pos) (tS Δ (sExp fa)) := by
  refine (ps_expr ha hs).imp fun D σ H ⟨am, F, c, P, XX, ok, hf, kf, kx⟩ => ?_
  exact ⟨am, F, c, _, XX, ok, hf, fun r c1 F1 v1 H1 p1 l1 o1 s1 => kf.1 c1 am F1 σ H1 p1 l1 o1, kx am⟩
def sRet (fa : WE) : WS := fun c P X => fa c (fun r c1 => P (.rt r c1.g)) X
theorem ds_ret (ha : PE X a (tE Δ fa)) : PS X (.Return (some a) pos) (tS Δ (sRet fa)) := by
  refine (ps_ret ha).imp fun D σ H ⟨am, F, c, P, XX, ok, hf, kf, kx⟩ => ?_
  exact ⟨am, F, c, _, XX, ok, hf, fun r c1 F1 v1 H1 p1 l1 o1 s1 => kf.2.2.2 r c1.g am F1 H1 v1 p1 l1 o1.fin s1.1, kx am⟩
def sIf (t : WT) (f g : WS) : WS := fun c P X => t c (fun b c1 => if b = true then f c1 P X else g c1 P X) X
theorem ds_if {cnd : Expr} {fA : WT} (hc : PT X cnd (tT Δ fA)) (ha : PSs X sa (tS Δ ws)) (hb : PSs X sb (tS Δ wt)) : PS X (.If cnd sa sb pos) (tS Δ (sIf fA ws wt)) := by
  refine (ps_if hc ha hb).imp fun D σ H ⟨am, F, c, P, XX, ok, hf, kf, kx⟩ => ?_
  refine ⟨am, F, c, _, XX, ok, hf, fun k c1 F1 H1 p1 l1 o1 => ?_, kx am⟩
  cases k with
  | true =>
    rw [if_pos rfl]
    rw [if_pos rfl] at p1
    exact ⟨am, F1, c1, P, XX, o1, p1, kf.le l1 am, kx.le l1⟩
  | false =>
    rw [if_neg Bool.false_ne_true]
    rw [if_neg Bool.false_ne_true] at p1
    exact ⟨am, F1, c1, P, XX, o1, p1, kf.le l1 am, kx.le l1⟩
/-- target = value -/
def sAsg (fa : WE) (g : WG) : WS := fun c P X => fa c (fun r c1 => g r c1 fun c2 => P (.nx c2)) X
theorem asg_of {te : TE} {tg : TG} {g : WG} {us : List Nat} (h1 : ∀ σ H Q, tE Δ fa σ H Q → te σ H Q) (h2 : ∀ v σ H Q, tG Δ us g v σ H Q → tg v σ H Q) (D : Ends) (σ : St) (H : Hp) (h : tS Δ (sAsg fa g) D σ H) : tAsg te tg D σ H := by
  obtain ⟨am, F, c, P, XX, ok, hf, kf, kx⟩ := h
  exact h1 σ H _ ⟨am, F, c, _, XX, ok, hf, fun r c1 F1 v1 H1 p1 l1 o1 s1 => h2 v1 σ H1 _ ⟨am, F1, c1, r, _, o1, s1, p1, fun c2 F2 σ2 H2 p2 l2 o2 _ => kf.1 c2 am F2 σ2 H2 p2 (l1.trans l2) o2⟩, kx am⟩
theorem ds_set (i : Nat) {x : Str} {pos' : Pos} (hN : X.N.Nodup) (ha : PE X a (tE Δ fa)) (hi : X.N[i]? = some x := by rfl) (hx : Loc X.env.scope x := by first | exact Or.inl rfl | exact Or.inr rfl)
    (hs : swapsWith a (some (.Name x pos')) pos.line X.env = pure false := by rfl) (hf : X.fn x = true ∨ X.env.scope.names.lookup x = some .local := by first | exact .inl rfl | exact .inr rfl) : PS X (.Assign [.Name x pos'] a pos) (tS Δ (sAsg fa (gN i))) :=
  (ps_set hN hi hx ha hs hf).imp fun D σ H h => asg_of (us := [i]) (fun _ _ _ h => h) (fun v σ H Q ⟨am, F, c, r, P, ok, s, h, kq⟩ => kq _ F _ H h.2 (Le.refl F) (ok.put s i) (.one σ i _)) D σ H h
theorem ds_asg {tg : Expr} {g : WG} {us : List Nat} (ha : PE X a (tE Δ fa)) (hg : PG X tg (tG Δ us g)) (hs : swapsWithSole [tg] a pos.line X.env = pure false := by rfl) (hw : swappedStores [tg] a X.env = pure none := by rfl)
    (h1 : (assignEach [tg] X.env).map (·.2) = [assign tg X.env] := by rfl) : PS X (.Assign [tg] a pos) (tS Δ (sAsg fa g)) :=
  (ps_asg ha hg hs hw h1).imp fun D σ H h => asg_of (fun _ _ _ h => h) (fun _ _ _ _ h => h) D σ H h

theorem Rs.arg' {am : Addr} {F : Hp} {σ : St} {H : Hp} {c : Cf} {r : Rv} {v : V} {k : Rv → Prop} (o : Ok Δ am F σ H c) (h : Rs Δ am F σ H c r v) (q : argR r k) :
    ∃ x F', k x ∧ Le F F' ∧ Ok Δ am F' σ H c ∧ ∀ G I σ' c', Le F' G → Rs Δ am G σ' I c' x v := by
  cases r with
  | d x => exact ⟨_, F, q, Le.refl F, o, fun G I σ' c' l => .of (Rp.mono l h.1)⟩
  | own xs =>
    obtain ⟨x, F', h1, l, o', rp⟩ := h.data (k := fun x => k (.d x)) o q
    exact ⟨_, F', h1, l, o', fun G I σ' c' l => .of (Rp.mono l rp)⟩
  | gen => exact ⟨_, F, q, Le.refl F, o, fun G I σ' c' l => ⟨h.1, fun _ z => nomatch z⟩⟩
  | scr ns =>
    obtain ⟨a, e, hq⟩ := h.1
    exact ⟨_, F, q, Le.refl F, o, fun G I σ' c' l => ⟨⟨a, e, sq_le l hq⟩, fun _ z => nomatch z⟩⟩

/-! ### an own list without a name, kept while something else runs -/
def Dx.hold (Δ : Dx) (a : Addr) (o : HO) : Dx := { Δ with H0 := upd Δ.H0 a o }
section
variable {am : Addr} {F : Hp} {σ : St} {H : Hp} {c : Cf} {p : Addr} {o : HO}
theorem unh0 {b : Addr} (h : (Δ.hold p o).H0 b = none) : Δ.H0 b = none ∧ b ≠ p := by
  have h : upd Δ.H0 p o b = none := h
  by_cases q : b = p
  · subst q
    rw [upd_same] at h
    cases h
  · rw [upd_ne q] at h
    exact ⟨h, q⟩
theorem Ok.holdO (k : Ok Δ am F σ H c) (h : H p = some o) (hg : ∀ n, c.g = some n → am ≠ p) (hf : F p = none) (h0 : Δ.H0 p = none) (no : ∀ (i : Nat) (xs : List Px), c.env[i]? = some (some (.own xs)) → σ[i]? ≠ some (some (.ref p))) :
    Ok (Δ.hold p o) am F σ H c where
  fh := k.fh
  f0 := k.f0
  fr := fun b e => by
    by_cases q : b = p
    · subst q
      exact absurd hf e
    · exact (k.fr b e).elim .inl fun z => .inr (by show upd Δ.H0 p _ b = none; rw [upd_ne q]; exact z)
  pr := fun b o' e n => by
    have e : upd Δ.H0 p o b = some o' := e
    by_cases q : b = p
    · subst q
      rw [upd_same] at e
      cases e
      exact h
    · rw [upd_ne q] at e
      exact k.pr b o' e n
  al := fun b e => ⟨(k.al b e).1, fun z => (k.al b e).2 (unh0 z).1⟩
  gn := fun n e => by
    obtain ⟨h1, h2, h3⟩ := k.gn n e
    refine ⟨h1.elim .inl fun z => .inr ⟨z.1, ?_⟩, h2, h3⟩
    show upd Δ.H0 p _ am = none
    rw [upd_ne (hg n e)]
    exact z.2
  len := k.len
  sv := fun i r e => by
    obtain ⟨v, h1, h2⟩ := k.sv i r e
    refine ⟨v, h1, ?_⟩
    cases r with
    | d x => exact h2
    | gen => exact h2
    | scr ns => exact h2
    | own xs =>
      obtain ⟨a, ws, e1, e2, e3, e4, e5⟩ := h2
      subst e1
      refine ⟨a, ws, rfl, e2, e3, ?_, e5⟩
      show upd Δ.H0 p _ a = none
      rw [upd_ne (show a ≠ p from fun z => no i xs e (by rw [h1, z]))]
      exact e4
  di := k.di
theorem Fin.unhold {g : Option Nat} (k : Fin (Δ.hold p o) am F H g) (h0 : Δ.H0 p = none) (hna : Δ.a0 ≠ some p) : Fin Δ am F H g :=
  ⟨k.fh, k.f0, fun b e => (k.fr b e).elim .inl fun z => .inr (unh0 z).1, fun b o' e n => k.pr b o' (by show upd Δ.H0 p _ b = some o'; rw [upd_ne (ne_of_none e h0)]; exact e) n, fun b e => ⟨(k.al b e).1, fun z => (k.al b e).2 (by show upd Δ.H0 p _ b = none; rw [upd_ne (show b ≠ p from fun q => hna (by rw [← q]; exact e))]; exact z)⟩,
    fun n e => ⟨(k.gn n e).1.elim .inl fun z => .inr ⟨z.1, (unh0 z.2).1⟩, (k.gn n e).2⟩⟩
theorem Ok.unhold (k : Ok (Δ.hold p o) am F σ H c) (h0 : Δ.H0 p = none) (f0 : Δ.F0 p = none) (na : Δ.a0 ≠ some p) :
    Ok Δ am F σ H c ∧ H p = some o ∧ F p = none ∧ ∀ (i : Nat) (xs : List Px), c.env[i]? = some (some (.own xs)) → σ[i]? ≠ some (some (.ref p)) := by
  have fn := k.fin.unhold h0 na
  refine ⟨⟨fn.fh, fn.f0, fn.fr, fn.pr, fn.al, fn.gn, k.len, fun i r e => ?_, k.di⟩, k.pr p _ upd_same na, ?_, fun i xs e z => ?_⟩
  · obtain ⟨v, h1, h2⟩ := k.sv i r e
    refine ⟨v, h1, ?_⟩
    cases r with
    | d x => exact h2
    | gen => exact h2
    | scr ns => exact h2
    | own xs =>
      obtain ⟨a, ws, e1, e2, e3, e4, e5⟩ := h2
      exact ⟨a, ws, e1, e2, e3, (unh0 e4).1, e5⟩
  · cases q : F p with
    | none => rfl
    | some u =>
      rcases k.fr p (by rw [q]; exact fun z => nomatch z) with z | z
      · exact absurd f0 z
      · exact absurd rfl (unh0 z).2
  · obtain ⟨v, h1, a, ws, e1, _, _, e4, _⟩ := k.sv i _ e
    subst e1
    rw [z] at h1
    cases h1
    exact (unh0 e4).2 rfl
theorem Ok.hold {vs : List V} (k : Ok Δ am F σ H c) (h : H p = some (.lst vs)) (hf : F p = none) (h0 : Δ.H0 p = none) (no : ∀ (i : Nat) (xs : List Px), c.env[i]? = some (some (.own xs)) → σ[i]? ≠ some (some (.ref p))) : Ok (Δ.hold p (.lst vs)) am F σ H c :=
  k.holdO h (fun n e => ((k.gn n e).2.2.ne h).symm) hf h0 no
end
/-- a result is kept while another expression runs -/
theorem keep_of {am : Addr} {F : Hp} {σ : St} {H : Hp} {c : Cf} {r : Rv} {v : V} {XX : XP} {P : Rv → Cf → Prop} {R : V → Hp → Prop} {tb : TE} (ok : Ok Δ am F σ H c) (s : Rs Δ am F σ H c r v)
    (hb : ∀ Δ' : Dx, Δ'.K = Δ.K → ∀ σ H Q, tE Δ' fb σ H Q → tb σ H Q) (hf : fb c P XX) (kx : KX Δ am F XX)
    (q : ∀ r2 c2 F' w H', P r2 c2 → Le F F' → Ok Δ am F' σ H' c2 → Rs Δ am F' σ H' c2 r2 w → Rs Δ am F' σ H' c2 r v → ((∃ xs, r = .own xs) → (∃ xs, r2 = .own xs) → v ≠ w) → R w H') : tb σ H R := by
  cases r with
  | d x => exact hb Δ rfl σ H R ⟨am, F, c, P, XX, ok, hf, fun r2 c2 F' w H' p l o s2 => q r2 c2 F' w H' p l o s2 (.of (Rp.mono l s.1)) fun z => (nomatch z), kx⟩
  | gen => exact hb Δ rfl σ H R ⟨am, F, c, P, XX, ok, hf, fun r2 c2 F' w H' p l o s2 => q r2 c2 F' w H' p l o s2 ⟨s.1, fun _ z => nomatch z⟩ fun z => (nomatch z), kx⟩
  | scr ns =>
    obtain ⟨a, e, hq⟩ := s.1
    exact hb Δ rfl σ H R ⟨am, F, c, P, XX, ok, hf, fun r2 c2 F' w H' p l o s2 => q r2 c2 F' w H' p l o s2 ⟨⟨a, e, sq_le l hq⟩, fun _ z => nomatch z⟩ fun z => (nomatch z), kx⟩
  | own xs =>
    obtain ⟨⟨p, vs, e1, e2, e3, e4, e5⟩, e6⟩ := s
    subst e1
    have na : Δ.a0 ≠ some p := fun z => (ok.al p z).2 e4
    have o' := ok.hold e2 e3 e4 fun i ys e z => e6 xs rfl i ys e z
    refine hb (Δ.hold p (.lst vs)) rfl σ H R ⟨am, F, c, P, XX, o', hf, fun r2 c2 F' w H' pp l o2 s2 => ?_, fun x g F' H' h l fn => kx x g F' H' h l (fn.unhold e4 na)⟩
    obtain ⟨o3, h1, h2, h3⟩ := o2.unhold e4 (ok.f0.nn e3) na
    have s2' : Rs Δ am F' σ H' c2 r2 w := by
      refine ⟨?_, s2.2⟩
      cases r2 with
      | d x => exact s2.1
      | gen => exact s2.1
      | scr ns => exact s2.1
      | own ys =>
        obtain ⟨a, ws, q1, q2, q3, q4, q5⟩ := s2.1
        exact ⟨a, ws, q1, q2, q3, (unh0 q4).1, q5⟩
    refine q r2 c2 F' w H' pp l o3 s2' ⟨⟨p, vs, rfl, h1, h2, e4, e5.mono l⟩, fun ys _ i zs e z => h3 i zs e z⟩ fun _ ⟨ys, hy⟩ => ?_
    subst hy
    obtain ⟨a, ws, q1, q2, q3, q4, q5⟩ := s2.1
    subst q1
    intro z
    cases z
    exact (unh0 q4).2 rfl
end
end Dl

set_option Elab.async false
set_option maxRecDepth 100000
set_option linter.all false
set_option autoImplicit false
namespace Dl
open PySem L2
section
variable {X : Cx} {Δ : Dx} {a b e : Expr} {fa fb fc : WE} {pos : Pos} {es : List Expr} {fr : WA} {st : Stmt} {rest sa sb : List Stmt} {ws wt : WS}
/-! ### a, b = x, y and a, b, c = x, y, z: no tuple is kept -/
def tPar3 (i j l : Nat) (ta : TA) : TS := fun D σ H => ta σ H fun vs H1 => ∃ v w u, vs = [v, w, u] ∧ D.nx (((σ.set l (some u)).set j (some w)).set i (some v)) H1
open PyProof.Rows in
theorem ps_par3 {i j l : Nat} {x y z : Str} {p q r : Expr} {ta : TA} {px py pz pt : Pos} {kt k2 : Nat} {pt2 : Pos} (calm : X.calm = true) (nd : X.N.Nodup)
    (hi : X.N[i]? = some x) (hj : X.N[j]? = some y) (hl : X.N[l]? = some z) (hx : X.env.scope.names.lookup x = some .local) (hy : X.env.scope.names.lookup y = some .local) (hz : X.env.scope.names.lookup z = some .local)
    (args : PA X [p, q, r] ta) (sw : swappedStores [.Tuple [.Name x px, .Name y py, .Name z pz] kt pt] (.Tuple [p, q, r] k2 pt2) X.env = pure (some [x, y, z]))
    (ns : swapsWithSole [.Tuple [.Name x px, .Name y py, .Name z pz] kt pt] (.Tuple [p, q, r] k2 pt2) pos.line X.env = pure false := by rfl) :
    PS X (.Assign [.Tuple [.Name x px, .Name y py, .Name z pz] kt pt] (.Tuple [p, q, r] k2 pt2) pos) (tPar3 i j l ta) := by
  constructor
  intro pins s σ H D J want
  rw [exec_Assign_arm]
  apply wpAny_bind
  apply wpAny_standAt
  rw [ns]
  apply wpAny_bind
  apply wpAny_pure
  rw [if_neg (by decide)]
  apply wpAny_bind
  apply Tuple_
  refine thn (args.run _ pins s σ H _ J want) ?_
  rintro us s1 ⟨vs, H1, J1, rv, v, w, u, hvs, fin⟩
  subst hvs
  cases rv with
  | cons r1 rv =>
  cases rv with
  | cons r2 rv =>
  cases rv with
  | cons r3 rv =>
  cases rv
  rename_i u1 u2 u3
  refine wpAny_newObj_type ?_ (show 3 ≤ sizeLine by decide)
  have J2 : Inv X pins σ H1 { s1 with heap := s1.heap.push { cls := .type "tuple", data := .seq [u1, u2, u3].toArray } } := J1.kept (t' := s1.toks) fun _ _ h => Heap.get?_push_of_some _ h
  rw [sw]
  apply wpAny_bind
  apply wpAny_pure
  show wpAny (model X.prog X.w) X.A (rule "assign.swapped-stores" >>= fun _ => unpackItems (.ref s1.heap.objs.size) 3 none >>= fun items => assignInOrder [bindName X.env z, bindName X.env y, bindName X.env x] items.reverse >>= fun _ => pure Flow.next) _ _ _
  apply wpAny_bind
  apply wpAny_rule
  apply wpAny_bind
  refine unpackItems_tuple (items := #[u1, u2, u3]) (J.ok.hd calm) (IsTup.new s1.heap _) ?_
  intro hp ext
  have J3 := J2.kept (h' := hp) (t' := s1.toks) fun b o h => ext b o (Nat.ne_of_lt (Heap.lt_size h)) h
  show wpAny _ _ (assignInOrder [bindName X.env z, bindName X.env y, bindName X.env x] [u3, u2, u1] >>= fun _ => pure Flow.next) _ _ _
  apply wpAny_bind
  refine assignInOrder_cons (wpAny_bindName (store_ok J3 nd hl (.inl hz) r3 (fun s4 J4 => ?_) (.inr hz)))
  refine assignInOrder_cons (wpAny_bindName (store_ok J4 nd hj (.inl hy) r2 (fun s5 J5 => ?_) (.inr hy)))
  refine assignInOrder_cons (wpAny_bindName (store_ok J5 nd hi (.inl hx) r1 (fun s6 J6 => ?_) (.inr hx)))
  exact assignInOrder_nil (wpAny_pure ⟨_, H1, J6, fin⟩)

def putE (c : Cf) (i : Nat) (r : Rv) : Cf := { c with env := c.env.set i (some r) }
def sPar2 (i j : Nat) (fa fb : WE) : WS := fun c P X => fa c (fun r1 c1 => fb c1 (fun r2 c2 => P (.nx (putE (putE c2 i r1) j r2))) X) X
def sPar3 (i j l : Nat) (fa fb fc : WE) : WS := fun c P X => fa c (fun r1 c1 => argR r1 fun x1 => fb c1 (fun r2 c2 => fc c2 (fun r3 c3 => P (.nx (putE (putE (putE c3 l r3) j r2) i x1))) X) X) X
/-- one result is stored, another one is still at hand -/
theorem Rs.put {am : Addr} {F : Hp} {σ : St} {H : Hp} {c : Cf} {r r' : Rv} {v v' : V} (s : Rs Δ am F σ H c r v) (hl : σ.length = c.env.length) (ne : (∃ xs, r = .own xs) → (∃ xs, r' = .own xs) → v ≠ v') (i : Nat) :
    Rs Δ am F (σ.set i (some v')) H (putE c i r') r v := by
  refine ⟨s.1, fun xs e j ys h z => ?_⟩
  have h : (c.env.set i (some r'))[j]? = some (some (.own ys)) := h
  rw [env_get] at h
  rw [St.set_get, hl] at z
  split at h
  · rename_i q
    rw [if_pos q] at z
    cases z
    cases h
    exact ne ⟨xs, e⟩ ⟨ys, rfl⟩ rfl
  · rename_i q
    rw [if_neg q] at z
    exact s.2 xs e j ys h z
theorem ds_par2 (i j : Nat) {x y : Str} {px py pt : Pos} {kt k2 : Nat} {pt2 : Pos} (hc : X.calm = true) (hN : X.N.Nodup) (ha : PE X a (tE Δ fa)) (hb : ∀ Δ' : Dx, Δ'.K = Δ.K → PE X b (tE Δ' fb))
    (hw : swappedStores [.Tuple [.Name x px, .Name y py] kt pt] (.Tuple [a, b] k2 pt2) X.env = pure (some [x, y])) (hi : X.N[i]? = some x := by rfl) (hj : X.N[j]? = some y := by rfl) (hij : i ≠ j := by decide)
    (hx : X.env.scope.names.lookup x = some .local := by rfl) (hy : X.env.scope.names.lookup y = some .local := by rfl) (hs1 : starEach (a :: [b]) X.env = (false, eval a X.env) :: starEach [b] X.env := by rfl) (hs2 : starEach (b :: []) X.env = (false, eval b X.env) :: starEach [] X.env := by rfl)
    (hs : swapsWithSole [.Tuple [.Name x px, .Name y py] kt pt] (.Tuple [a, b] k2 pt2) pos.line X.env = pure false := by rfl) :
    PS X (.Assign [.Tuple [.Name x px, .Name y py] kt pt] (.Tuple [a, b] k2 pt2) pos) (tS Δ (sPar2 i j fa fb)) := by
  -- b's reading, for whatever is kept
  let tb : TE := fun σ H Q => ∃ Δ' : Dx, Δ'.K = Δ.K ∧ tE Δ' fb σ H Q
  have hb' : PE X b tb := ⟨fun pins s σ H Q I ⟨Δ', e, h⟩ => (hb Δ' e).run pins s σ H Q I h⟩
  refine (ps_par hc hN hi hj hij hx hy (pa_cons ha (pa_cons hb' pa_nil hs2) hs1) hw hs).imp fun D σ H ⟨am, F, c, P, XX, ok, hf, kf, kx⟩ => ?_
  refine ⟨am, F, c, _, XX, ok, hf, fun r1 c1 F1 v1 H1 p1 l1 o1 s1 => ?_, kx am⟩
  refine keep_of (Δ := Δ) o1 s1 (fun Δ' e σ H Q h => ⟨Δ', e, h⟩) p1 ((kx am).le l1) fun r2 c2 F2 v2 H2 p2 l2 o2 s2 s1' ne => ?_
  refine ⟨v1, v2, rfl, kf.1 _ am F2 _ H2 p2 (l1.trans l2) ?_⟩
  have o3 := o2.put s1' i
  exact o3.put (s2.put o2.len (fun z1 z2 e => ne z2 z1 e.symm) i) j
theorem ds_par3 (i j l : Nat) {x y z : Str} {d : Expr} {px py pz pt : Pos} {kt k2 : Nat} {pt2 : Pos} (hc : X.calm = true) (hN : X.N.Nodup) (ha : PE X a (tE Δ fa)) (hb : ∀ Δ' : Dx, Δ'.K = Δ.K → PE X b (tE Δ' fb)) (hd : ∀ Δ' : Dx, Δ'.K = Δ.K → PE X d (tE Δ' fc))
    (hw : swappedStores [.Tuple [.Name x px, .Name y py, .Name z pz] kt pt] (.Tuple [a, b, d] k2 pt2) X.env = pure (some [x, y, z])) (hi : X.N[i]? = some x := by rfl) (hj : X.N[j]? = some y := by rfl) (hl : X.N[l]? = some z := by rfl)
    (hx : X.env.scope.names.lookup x = some .local := by rfl) (hy : X.env.scope.names.lookup y = some .local := by rfl) (hz : X.env.scope.names.lookup z = some .local := by rfl)
    (hs1 : starEach (a :: [b, d]) X.env = (false, eval a X.env) :: starEach [b, d] X.env := by rfl) (hs2 : starEach (b :: [d]) X.env = (false, eval b X.env) :: starEach [d] X.env := by rfl) (hs3 : starEach (d :: []) X.env = (false, eval d X.env) :: starEach [] X.env := by rfl)
    (hs : swapsWithSole [.Tuple [.Name x px, .Name y py, .Name z pz] kt pt] (.Tuple [a, b, d] k2 pt2) pos.line X.env = pure false := by rfl) :
    PS X (.Assign [.Tuple [.Name x px, .Name y py, .Name z pz] kt pt] (.Tuple [a, b, d] k2 pt2) pos) (tS Δ (sPar3 i j l fa fb fc)) := by
  let tb : TE := fun σ H Q => ∃ Δ' : Dx, Δ'.K = Δ.K ∧ tE Δ' fb σ H Q
  let td : TE := fun σ H Q => ∃ Δ' : Dx, Δ'.K = Δ.K ∧ tE Δ' fc σ H Q
  have hb' : PE X b tb := ⟨fun pins s σ H Q I ⟨Δ', e, h⟩ => (hb Δ' e).run pins s σ H Q I h⟩
  have hd' : PE X d td := ⟨fun pins s σ H Q I ⟨Δ', e, h⟩ => (hd Δ' e).run pins s σ H Q I h⟩
  refine (ps_par3 hc hN hi hj hl hx hy hz (pa_cons ha (pa_cons hb' (pa_cons hd' pa_nil hs3) hs2) hs1) hw hs).imp fun D σ H ⟨am, F, c, P, XX, ok, hf, kf, kx⟩ => ?_
  refine ⟨am, F, c, _, XX, ok, hf, fun r1 c1 F1 v1 H1 p1 l1 o1 s1 => ?_, kx am⟩
  obtain ⟨x1, F1', hx1, l1', o1', k1⟩ := Rs.arg' o1 s1 p1
  refine ⟨Δ, rfl, am, F1', c1, _, XX, o1', hx1, fun r2 c2 F2 v2 H2 p2 l2 o2 s2 => ?_, (kx am).le (l1.trans l1')⟩
  refine keep_of (Δ := Δ) o2 s2 (fun Δ' e σ H Q h => ⟨Δ', e, h⟩) p2 ((kx am).le ((l1.trans l1').trans l2)) fun r3 c3 F3 v3 H3 p3 l3 o3 s3 s2' ne => ?_
  refine ⟨v1, v2, v3, rfl, kf.1 _ am F3 _ H3 p3 (((l1.trans l1').trans l2).trans l3) ?_⟩
  have o4 := o3.put s3 l
  have o5 := o4.put (s2'.put o3.len ne l) j
  exact o5.put (k1 F3 H3 _ _ (l2.trans l3)) i

/-! ### comprehensions -/
def wipeE (env : List (Option Rv)) : List Nat → List (Option Rv)
  | [] => env
  | v :: vs => (wipeE env vs).set v none
/-- the items of xs, one after another: each at the target, then the test, then the element -/
def lcW (g : WG) (t : WT) (f : WE) (vs : List Nat) (env : List (Option Rv)) (X : XP) (P : Rv → Cf → Prop) : List Px → List Px → Option Nat → Prop
  | [], acc, gs => P (.own acc) ⟨env, gs⟩
  | x :: xs, acc, gs => g (.d x) ⟨wipeE env vs, gs⟩ fun c1 => wipeE c1.env vs = wipeE env vs ∧ t c1 (fun b c2 => c2.env = c1.env ∧ if b = true then f c2 (fun r c3 => c3.env = c1.env ∧ asD r fun y => acc.length < 1000000 ∧ lcW g t f vs env X P xs (acc ++ [y]) c3.g) X
      else lcW g t f vs env X P xs acc c2.g) X
def nown (env : List (Option Rv)) (vs : List Nat) : Prop := ∀ j ∈ vs, ∀ xs, env[j]? ≠ some (some (.own xs))
def eLc (it : WI) (g : WG) (t : WT) (f : WE) (vs : List Nat) : WE := fun c P X => it c (fun xs c1 => nown c1.env vs ∧ lcW g t f vs c1.env X P xs [] c1.g) X
theorem wipeE_length (env : List (Option Rv)) : ∀ vs : List Nat, (wipeE env vs).length = env.length
  | [] => rfl
  | v :: vs => by unfold wipeE; rw [List.length_set, wipeE_length env vs]
theorem wipeE_some {env : List (Option Rv)} {i : Nat} {r : Rv} : ∀ {vs : List Nat}, (wipeE env vs)[i]? = some (some r) → env[i]? = some (some r) ∧ i ∉ vs
  | [], h => ⟨h, by simp⟩
  | v :: vs, h => by
    unfold wipeE at h
    rw [env_get] at h
    split at h
    · cases h
    · rename_i z
      obtain ⟨h1, h2⟩ := wipeE_some h
      refine ⟨h1, ?_⟩
      have hl : v = i → False := fun e => z ⟨e.symm, by rw [e]; exact (List.getElem?_eq_some_iff.mp h).1⟩
      simp only [List.mem_cons, not_or]
      exact ⟨fun e => hl e.symm, h2⟩
theorem wipe_keep {σ : St} {i : Nat} : ∀ {vs : List Nat}, i ∉ vs → (wipe σ vs)[i]? = σ[i]?
  | [], _ => rfl
  | v :: vs, h => by
    unfold wipe
    simp only [List.mem_cons, not_or] at h
    rw [List.getElem?_set_ne (Ne.symm h.1), wipe_keep h.2]
theorem Ok.wiped {am : Addr} {F : Hp} {σ : St} {H : Hp} {c : Cf} (k : Ok Δ am F σ H c) (vs : List Nat) : Ok Δ am F (wipe σ vs) H { c with env := wipeE c.env vs } := by
  refine ⟨k.fh, k.f0, k.fr, k.pr, k.al, k.gn, by rw [wipe_length, k.len]; exact (wipeE_length _ _).symm, fun i r e => ?_, fun i j xs ys n p q => ?_⟩
  · obtain ⟨h1, h2⟩ := wipeE_some e
    obtain ⟨v, h3, h4⟩ := k.sv i r h1
    exact ⟨v, by rw [wipe_keep h2]; exact h3, h4⟩
  · obtain ⟨h1, h2⟩ := wipeE_some p
    obtain ⟨h3, h4⟩ := wipeE_some q
    rw [wipe_keep h2, wipe_keep h4]
    exact k.di i j xs ys n h1 h3

theorem wipe_set {σ : St} {i : Nat} : ∀ {vs : List Nat}, i ∈ vs → i < σ.length → (wipe σ vs)[i]? = some none
  | v :: vs, h, hl => by
    unfold wipe
    rw [St.set_get, wipe_length]
    by_cases e : i = v
    · rw [if_pos ⟨e, by rw [← e]; exact hl⟩]
    · rw [if_neg (fun z => e z.1)]
      exact wipe_set ((List.mem_cons.mp h).resolve_left e) hl
theorem wipe_idem (σ : St) (vs : List Nat) : wipe (wipe σ vs) vs = wipe σ vs := by
  apply List.ext_getElem?
  intro i
  by_cases q : i ∈ vs
  · by_cases hl : i < σ.length
    · rw [wipe_set q hl, wipe_set q (by rw [wipe_length]; exact hl)]
    · rw [List.getElem?_eq_none (by rw [wipe_length, wipe_length]; omega), List.getElem?_eq_none (by rw [wipe_length]; omega)]
  · rw [wipe_keep q]
theorem wipe_tch {σ σ' : St} {ws vs : List Nat} (h : Tch ws σ σ') (s : ∀ i ∈ ws, i ∈ vs) : wipe σ' vs = wipe σ vs := by
  apply List.ext_getElem?
  intro i
  by_cases q : i ∈ vs
  · by_cases hl : i < σ.length
    · rw [wipe_set q hl, wipe_set q (by rw [h.1]; exact hl)]
    · rw [List.getElem?_eq_none (by rw [wipe_length, h.1]; omega), List.getElem?_eq_none (by rw [wipe_length]; omega)]
  · rw [wipe_keep q, wipe_keep q]
    exact h.2 i fun z => q (s i z)
theorem wipeE_keep {env : List (Option Rv)} {i : Nat} : ∀ {vs : List Nat}, i ∉ vs → (wipeE env vs)[i]? = env[i]?
  | [], _ => rfl
  | v :: vs, h => by
    unfold wipeE
    simp only [List.mem_cons, not_or] at h
    rw [List.getElem?_set_ne (Ne.symm h.1), wipeE_keep h.2]
/-- behind a turn of a comprehension: the def's own slots again -/
theorem Ok.unwipe {am : Addr} {F F' : Hp} {σ σ2 : St} {H H' : Hp} {env env2 : List (Option Rv)} {g g2 : Option Nat} {ws vs : List Nat} (k : Ok Δ am F σ H ⟨env, g⟩) (k2 : Ok Δ am F' σ2 H' ⟨env2, g2⟩) (l : Le F F')
    (t : Tch ws (L2.wipe σ vs) σ2) (s : ∀ i ∈ ws, i ∈ vs) (e : wipeE env2 vs = wipeE env vs) (n : nown env vs) : Ok Δ am F' σ H' ⟨env, g2⟩ := by
  have hs : ∀ i, i ∉ vs → σ2[i]? = σ[i]? := fun i h => (t.2 i fun z => h (s i z)).trans (wipe_keep h)
  have he : ∀ i, i ∉ vs → env2[i]? = env[i]? := fun i h => by rw [← wipeE_keep (env := env2) h, e, wipeE_keep h]
  refine ⟨k2.fh, k2.f0, k2.fr, k2.pr, k2.al, k2.gn, k.len, fun i r q => ?_, fun i j xs ys ne q1 q2 => ?_⟩
  · by_cases hv : i ∈ vs
    · obtain ⟨v, h1, h2⟩ := k.sv i r q
      refine ⟨v, h1, ?_⟩
      cases r with
      | d x => exact Rp.mono l h2
      | gen => exact h2
      | scr ns =>
        obtain ⟨a, e1, e2⟩ := h2
        exact ⟨a, e1, sq_le l e2⟩
      | own xs => exact absurd q (n i hv xs)
    · obtain ⟨v, h1, h2⟩ := k2.sv i r ((he i hv).trans q)
      exact ⟨v, (hs i hv).symm.trans h1, h2⟩
  · have h1 : i ∉ vs := fun z => n i z xs q1
    have h2 : j ∉ vs := fun z => n j z ys q2
    have := k2.di i j xs ys ne ((he i h1).trans q1) ((he j h2).trans q2)
    rw [hs i h1, hs j h2] at this
    exact this
/-- an own list without a name, changed -/
theorem Ok.chg {am : Addr} {F : Hp} {σ : St} {H : Hp} {c : Cf} {p : Addr} {vs ws : List V} (k : Ok Δ am F σ H c) (h : H p = some (.lst vs)) (hf : F p = none) (h0 : Δ.H0 p = none) (no : ∀ (i : Nat) (xs : List Px), c.env[i]? = some (some (.own xs)) → σ[i]? ≠ some (some (.ref p))) :
    Ok Δ am F σ (upd H p (.lst ws)) c where
  fh := fun b o e => by rw [upd_ne (fun q => by rw [q, hf] at e; cases e)]; exact k.fh b o e
  f0 := k.f0
  fr := k.fr
  pr := fun b o e n => by rw [upd_ne (ne_of_none e h0)]; exact k.pr b o e n
  al := fun b e => by
    refine ⟨?_, (k.al b e).2⟩
    by_cases q : b = p
    · subst q
      rw [upd_same]
      exact fun z => nomatch z
    · rw [upd_ne q]
      exact (k.al b e).1
  gn := fun n e => by
    obtain ⟨h1, h2, h3⟩ := k.gn n e
    have ne := (h3.ne h).symm
    obtain ⟨l, s, sp, ac, ns, h4, h5⟩ := h3
    exact ⟨h1, h2, l, s, sp, ac, ns, by rw [upd_ne ne]; exact h4, h5⟩
  len := k.len
  sv := fun i r e => by
    obtain ⟨v, h1, h2⟩ := k.sv i r e
    refine ⟨v, h1, ?_⟩
    cases r with
    | d x => exact h2
    | gen => exact h2
    | scr ns => exact h2
    | own xs =>
      obtain ⟨a, us, e1, e2, e3⟩ := h2
      subst e1
      exact ⟨a, us, rfl, by rw [upd_ne (show a ≠ p from fun z => no i xs e (by rw [h1, z]))]; exact e2, e3⟩
  di := k.di
theorem lc_of {it : WI} {g : WG} {t : WT} {f : WE} {ws vs0 : List Nat} {tg' : TG} {tt' : TT} {te' : TE} (hg : ∀ Δ' : Dx, Δ'.K = Δ.K → ∀ v σ H Q, tG Δ' ws g v σ H Q → tg' v σ H Q) (ht : ∀ Δ' : Dx, Δ'.K = Δ.K → ∀ σ H Q, tT Δ' t σ H Q → tt' σ H Q)
    (he : ∀ Δ' : Dx, Δ'.K = Δ.K → ∀ σ H Q, tE Δ' f σ H Q → te' σ H Q) (hws : ∀ i ∈ ws, i ∈ vs0) (σ : St) (H : Hp) (Q : VK) (h : tE Δ (eLc it g t f vs0) σ H Q) : tLc (tI Δ it) tg' tt' te' vs0 σ H Q := by
  obtain ⟨am, F, c, P, XX, ok, hf, kq, kx⟩ := h
  refine ⟨am, F, c, _, XX, ok, hf, fun xs c1 F1 H1 J p1 l1 o1 wk => ?_, kx⟩
  intro D hD
  obtain ⟨nw, p1⟩ := p1
  refine lc_it wk (fun i H => ∃ F' acc vs gs, Le F1 F' ∧ Ok Δ am F' σ H ⟨c1.env, gs⟩ ∧ H D = some (.lst vs) ∧ F' D = none ∧ RpA F' vs acc ∧
    (∀ (i : Nat) (xs : List Px), c1.env[i]? = some (some (.own xs)) → σ[i]? ≠ some (some (.ref D))) ∧ lcW g t f vs0 c1.env XX P (xs.drop i) acc gs) ?_ ?_ ?_ ?_
  · obtain ⟨o2, r2⟩ := Rs.fresh o1 hD (vs := []) (xs := []) .nil
    refine ⟨F1, [], [], c1.g, Le.refl F1, o2, upd_same, o1.fh.nn hD, .nil, fun i ys e => r2.2 [] rfl i ys e, p1⟩
  · rintro i H' _ ⟨F', acc, vs, gs, l2, o2, _⟩
    exact l2.trans o2.fh
  · rintro i v H2 H3 hi ⟨F', acc, vs, gs, l2, o2, hd, fd, ra, no, hw⟩ ⟨x, hx, hy⟩
    have h0 : Δ.H0 D = none := o1.new hD
    have hdrop : xs.drop i = x :: xs.drop (i + 1) := by
      rw [List.drop_eq_getElem_cons hi]
      rw [List.getElem?_eq_getElem hi] at hx
      cases hx
      rfl
    rw [hdrop] at hw
    obtain ⟨F3, l3, o3, hd3, fd3, rx⟩ : ∃ F3, Le F' F3 ∧ Ok Δ am F3 σ H3 ⟨c1.env, gs⟩ ∧ H3 D = some (.lst vs) ∧ F3 D = none ∧ Rp F3 v x := by
      rcases hy with ⟨rfl, rx⟩ | ⟨T, us, ds, rfl, hT, rfl, rfl, rx⟩
      · exact ⟨F', Le.refl F', o2, hd, fd, rx.mono l2⟩
      · obtain ⟨o3, l3, rp⟩ := o2.tupN hT (rx.mono l2)
        have ne : D ≠ T := ne_of_none hd hT
        exact ⟨_, l3, o3, by rw [upd_ne ne]; exact hd, by rw [upd_ne ne]; exact fd, rp⟩
    have f00 : Δ.F0 D = none := o3.f0.nn fd3
    have na : Δ.a0 ≠ some D := fun z => (o3.al D z).2 h0
    have oh := o3.hold hd3 fd3 h0 no
    refine hg (Δ.hold D (.lst vs)) rfl _ _ _ _ ⟨am, F3, _, .d x, _, oh.wiped vs0, .of rx, hw, fun c2 F4 σ4 H4 p4 l4 o4 t4 => ?_⟩
    obtain ⟨e4, p4⟩ := p4
    refine ⟨?_, ?_⟩
    · rw [wipe_tch t4 hws]
      exact wipe_idem σ _
    have kxh : ∀ {G : Hp}, Le F G → KX (Δ.hold D (.lst vs)) am G XX := fun {G} lg x g F' H' h l fn => kx x g F' H' h (lg.trans l) (fn.unhold h0 na)
    have lF3 : Le F F3 := (l1.trans l2).trans l3
    refine ht (Δ.hold D (.lst vs)) rfl _ _ _ ⟨am, F4, c2, _, XX, o4, p4, fun b c3 F5 H5 p5 l5 o5 => ?_, kxh (lF3.trans l4)⟩
    obtain ⟨e5, p5⟩ := p5
    cases b with
    | true =>
      rw [if_pos rfl] at p5 ⊢
      refine he (Δ.hold D (.lst vs)) rfl _ _ _ ⟨am, F5, c3, _, XX, o5, p5, fun r c6 F6 v6 H6 p6 l6 o6 s6 => ?_, kxh ((lF3.trans l4).trans l5)⟩
      obtain ⟨e6, p6⟩ := p6
      obtain ⟨y, F7, hy, l7, o7, rp7⟩ := s6.data o6 p6
      obtain ⟨o8, hd8, fd8, no8⟩ := o7.unhold h0 f00 na
      obtain ⟨c6e, c6g⟩ := c6
      have e6 : c6e = c2.env := e6
      subst e6
      have ll : Le F' F7 := (((l3.trans l4).trans l5).trans l6).trans l7
      have o9 := o2.unwipe o8 ll t4 hws e4 nw
      refine ⟨vs, hd8, Nat.lt_of_lt_of_le (show vs.length < 1000000 by rw [ra.length]; exact hy.1) (line_of (Nat.le_refl _)), F7, acc ++ [y], vs ++ [v6], c6g, l2.trans ll, o9.chg hd8 fd8 h0 no, upd_same, fd8, (ra.mono ll).append (.one rp7), no, hy.2⟩
    | false =>
      rw [if_neg Bool.false_ne_true] at p5 ⊢
      obtain ⟨o8, hd8, fd8, no8⟩ := o5.unhold h0 f00 na
      obtain ⟨c3e, c3g⟩ := c3
      have e5 : c3e = c2.env := e5
      subst e5
      have ll : Le F' F5 := (l3.trans l4).trans l5
      have o9 := o2.unwipe o8 ll t4 hws e4 nw
      exact ⟨F5, acc, vs, c3g, l2.trans ll, o9, hd8, fd8, ra.mono ll, no, p5⟩
  · rintro H2 ⟨F', acc, vs, gs, l2, o2, hd, fd, ra, no, hw⟩
    rw [List.drop_length] at hw
    exact kq (.own acc) ⟨c1.env, gs⟩ F' (.ref D) H2 hw (l1.trans l2) o2 ⟨⟨D, vs, rfl, hd, fd, o1.new hD, ra⟩, fun _ _ i ys e => no i ys e⟩
theorem de_lc {elt tg iter : Expr} {ifs : List Expr} {scope : Scope} {own : List (Str × Nat)} {it : WI} {g : WG} {t : WT} {f : WE} {ws : List Nat} (hc : X.calm = true) (hN : X.N.Nodup) (hi : PI X tg iter (tI Δ it)) (bok : BlkOk X.N X.env.scope scope own)
    (hg : ∀ (s : Shared) (H : Hp) (C : Addr) (cl : List (Str × Addr)) (fp : List Addr) (Δ' : Dx), Δ'.K = Δ.K → PG (X.blk s H scope (compEnvC scope cl C X.env) fp) tg (tG Δ' ws g))
    (ht : ∀ (s : Shared) (H : Hp) (C : Addr) (cl : List (Str × Addr)) (fp : List Addr) (Δ' : Dx), Δ'.K = Δ.K → PTs (X.blk s H scope (compEnvC scope cl C X.env) fp) ifs (tT Δ' t))
    (he : ∀ (s : Shared) (H : Hp) (C : Addr) (cl : List (Str × Addr)) (fp : List Addr) (Δ' : Dx), Δ'.K = Δ.K → PE (X.blk s H scope (compEnvC scope cl C X.env) fp) elt (tE Δ' f))
    (hws : ∀ i ∈ ws, i ∈ own.map (·.2) := by decide) (hs : ∀ x, foldedSetIterable iter X.env x = pure x := by intro _; rfl) :
    PE X (.ListComp elt [⟨tg, iter, ifs, 0⟩] scope pos) (tE Δ (eLc it g t f (own.map (·.2)))) := by
  let tg' : TG := fun v σ H Q => ∃ Δ' : Dx, Δ'.K = Δ.K ∧ tG Δ' ws g v σ H Q
  let tt' : TT := fun σ H Q => ∃ Δ' : Dx, Δ'.K = Δ.K ∧ tT Δ' t σ H Q
  let te' : TE := fun σ H Q => ∃ Δ' : Dx, Δ'.K = Δ.K ∧ tE Δ' f σ H Q
  exact (pe_lc (g := tg') (tt := tt') (te := te') hc hN hi bok (fun s H C cl fp => ⟨fun pins s' σ H' v u Q I r ⟨Δ', e, h⟩ => (hg s H C cl fp Δ' e).run pins s' σ H' v u Q I r h⟩)
    (fun s H C cl fp => ⟨fun pins s' σ H' Q I ⟨Δ', e, h⟩ => (ht s H C cl fp Δ' e).run pins s' σ H' Q I h⟩) (fun s H C cl fp => ⟨fun pins s' σ H' Q I ⟨Δ', e, h⟩ => (he s H C cl fp Δ' e).run pins s' σ H' Q I h⟩) hs).imp
    fun σ H Q h => lc_of (fun Δ' e v σ H Q h => ⟨Δ', e, h⟩) (fun Δ' e σ H Q h => ⟨Δ', e, h⟩) (fun Δ' e σ H Q h => ⟨Δ', e, h⟩) hws σ H Q h
/-- name = [..] on one row, the name a local -/
theorem ds_setLc (i : Nat) {y : Str} {py spos : Pos} {elt tg iter : Expr} {ifs : List Expr} {scope : Scope} {own : List (Str × Nat)} {it : WI} {g : WG} {t : WT} {f : WE} {ws : List Nat} (hc : X.calm = true) (hy : X.N[i]? = some y) (hyl : X.env.scope.names.lookup y = some .local) (hsw : swapsWith (.ListComp elt [⟨tg, iter, ifs, 0⟩] scope pos) (some (.Name y py)) spos.line X.env = pure true) (hN : X.N.Nodup) (hi : PI X tg iter (tI Δ it)) (bok : BlkOk X.N X.env.scope scope own)
    (hg : ∀ (s : Shared) (H : Hp) (C : Addr) (cl : List (Str × Addr)) (fp : List Addr) (Δ' : Dx), Δ'.K = Δ.K → PG (X.blk s H scope (compEnvC scope cl C X.env) fp) tg (tG Δ' ws g))
    (ht : ∀ (s : Shared) (H : Hp) (C : Addr) (cl : List (Str × Addr)) (fp : List Addr) (Δ' : Dx), Δ'.K = Δ.K → PTs (X.blk s H scope (compEnvC scope cl C X.env) fp) ifs (tT Δ' t))
    (he : ∀ (s : Shared) (H : Hp) (C : Addr) (cl : List (Str × Addr)) (fp : List Addr) (Δ' : Dx), Δ'.K = Δ.K → PE (X.blk s H scope (compEnvC scope cl C X.env) fp) elt (tE Δ' f))
    (hws : ∀ i ∈ ws, i ∈ own.map (·.2) := by decide) (hs : ∀ x, foldedSetIterable iter X.env x = pure x := by intro _; rfl) :
    PS X (.Assign [.Name y py] (.ListComp elt [⟨tg, iter, ifs, 0⟩] scope pos) spos) (tS Δ (sAsg (eLc it g t f (own.map (·.2))) (gN i))) := by
  let tg' : TG := fun v σ H Q => ∃ Δ' : Dx, Δ'.K = Δ.K ∧ tG Δ' ws g v σ H Q
  let tt' : TT := fun σ H Q => ∃ Δ' : Dx, Δ'.K = Δ.K ∧ tT Δ' t σ H Q
  let te' : TE := fun σ H Q => ∃ Δ' : Dx, Δ'.K = Δ.K ∧ tE Δ' f σ H Q
  exact (ps_setLc (g := tg') (tt := tt') (te := te') hc hN hy hyl hsw hi bok (fun s H C cl fp => ⟨fun pins s' σ H' v u Q I r ⟨Δ', e, h⟩ => (hg s H C cl fp Δ' e).run pins s' σ H' v u Q I r h⟩)
    (fun s H C cl fp => ⟨fun pins s' σ H' Q I ⟨Δ', e, h⟩ => (ht s H C cl fp Δ' e).run pins s' σ H' Q I h⟩) (fun s H C cl fp => ⟨fun pins s' σ H' Q I ⟨Δ', e, h⟩ => (he s H C cl fp Δ' e).run pins s' σ H' Q I h⟩) hs).imp
    fun D σ H h => asg_of (us := [i]) (fun σ H Q h => lc_of (fun Δ' e v σ H Q h => ⟨Δ', e, h⟩) (fun Δ' e σ H Q h => ⟨Δ', e, h⟩) (fun Δ' e σ H Q h => ⟨Δ', e, h⟩) hws σ H Q h) (fun v σ H Q ⟨am, F, c, r, P, ok, s, h, kq⟩ => kq _ F _ H h.2 (Le.refl F) (ok.put s i) (.one σ i _)) D σ H h
end
end Dl

set_option Elab.async false
set_option maxRecDepth 100000
set_option linter.all false
set_option autoImplicit false
namespace Dl
open PySem L2
section
variable {X : Cx} {Δ : Dx} {a b e : Expr} {fa fb fc : WE} {pos : Pos} {es : List Expr} {fr : WA} {st : Stmt} {rest sa sb : List Stmt} {ws wt : WS}
/-! ### a name's own list, changed -/
def ownD (c : Cf) (i : Nat) (k : List Px → Prop) : Prop := match c.env[i]? with
  | some (some (.own xs)) => k xs
  | _ => False
def isOwn (c : Cf) (i : Nat) : Prop := ownD c i fun _ => True
theorem Ok.mine {am : Addr} {F : Hp} {σ : St} {H : Hp} {c : Cf} (k : Ok Δ am F σ H c) {i : Nat} {q : List Px → Prop} (h : ownD c i q) :
    ∃ a vs xs, q xs ∧ c.env[i]? = some (some (.own xs)) ∧ σ[i]? = some (some (.ref a)) ∧ H a = some (.lst vs) ∧ F a = none ∧ Δ.H0 a = none ∧ RpA F vs xs := by
  unfold ownD at h
  split at h
  · rename_i xs e
    obtain ⟨v, h1, a, vs, e1, e2, e3, e4, e5⟩ := k.sv i _ e
    subst e1
    exact ⟨a, vs, xs, h, e, h1, e2, e3, e4, e5⟩
  · exact h.elim
theorem set_self {α : Type} {l : List α} {i : Nat} {x : α} (h : l[i]? = some x) : l.set i x = l := by
  apply List.ext_getElem?
  intro j
  by_cases e : i = j
  · subst e
    rw [List.getElem?_set_self (List.getElem?_eq_some_iff.mp h).1, h]
  · rw [List.getElem?_set_ne e]
theorem Ok.mutate {am : Addr} {F : Hp} {σ : St} {H : Hp} {c : Cf} (k : Ok Δ am F σ H c) {i : Nat} {a : Addr} {vs us : List V} {xs ys : List Px} (e : c.env[i]? = some (some (.own xs))) (h1 : σ[i]? = some (some (.ref a))) (h2 : H a = some (.lst vs)) (h3 : F a = none) (h4 : Δ.H0 a = none) (r : RpA F us ys) :
    Ok Δ am F σ (upd H a (.lst us)) (putE c i (.own ys)) := by
  have no : ∀ (j : Nat) (zs : List Px), j ≠ i → c.env[j]? = some (some (.own zs)) → σ[j]? ≠ some (some (.ref a)) := fun j zs n p z => k.di j i zs xs n p e (z.trans h1.symm)
  have k1 : Ok Δ am F σ H { c with env := c.env.set i none } := ⟨k.fh, k.f0, k.fr, k.pr, k.al, k.gn, by simpa using k.len, fun j r e => by
      rw [env_get] at e
      split at e
      · cases e
      · exact k.sv j r e, fun j l ys zs n p q => by
      rw [env_get] at p q
      split at p
      · cases p
      · split at q
        · cases q
        · exact k.di j l ys zs n p q⟩
  have hi : i < c.env.length := (List.getElem?_eq_some_iff.mp e).1
  have no' : ∀ (j : Nat) (zs : List Px), (c.env.set i none)[j]? = some (some (.own zs)) → σ[j]? ≠ some (some (.ref a)) := fun j zs p => by
    rw [env_get] at p
    split at p
    · cases p
    · rename_i q
      exact no j zs (fun z => q ⟨z, hi⟩) p
  have k2 := (k1.chg (ws := us) h2 h3 h4 no').put (r := .own ys) (v := .ref a) ⟨⟨a, us, rfl, upd_same, h3, h4, r⟩, fun _ _ j zs p => no' j zs p⟩ i
  rw [set_self h1] at k2
  have : putE c i (.own ys) = { c with env := (c.env.set i none).set i (some (.own ys)) } := by
    unfold putE
    rw [List.set_set]
  rw [this]
  exact k2
def eApp (i : Nat) (fb : WE) : WE := fun c P X => isOwn c i ∧ fb c (fun r c1 => asD r fun y => ownD c1 i fun xs => xs.length < 1000000 ∧ P (.d .none) (putE c1 i (.own (xs ++ [y])))) X
def eExt (i : Nat) (fb : WE) : WE := fun c P X => isOwn c i ∧ fb c (fun r c1 => asL r fun ys => ownD c1 i fun xs => xs.length + ys.length ≤ 1000000 ∧ P (.d .none) (putE c1 i (.own (xs ++ ys)))) X
def ePop (i : Nat) : WE := fun c P _ => ownD c i fun xs => match xs[xs.length - 1]? with
  | some y => P (.d y) (putE c i (.own xs.dropLast))
  | none => False
section
variable {x : Str} {p p2 : Pos}
theorem de_app (i : Nat) (hb : PE X b (tE Δ fb)) (hN : X.N[i]? = some x := by rfl)
    (hv : Vis X.env.scope x := by first | exact Or.inl rfl | exact Or.inr (Or.inl rfl) | exact Or.inr (Or.inr rfl)) (hd : (x == ("__debug__" : Str)) = false := by decide)
    (hcd : (x == ("__classdict__" : Str)) = false := by decide) (hst : starEach (b :: []) X.env = (false, eval b X.env) :: starEach [] X.env := by rfl) (hln : (p2.endLine == pos.line) = true := by rfl)
    (hfw : ((backTo pos (starEach [b] X.env)).all (fun x => !x.1) && (backToKw pos (keywordEach [] X.env)).all (fun x => x.1.isSome) && decide ([b].length + ([] : List Keyword).length + (if ([] : List Keyword).isEmpty then 0 else 1) < 30)) = true := by rfl) : PE X (.Call (.Attribute (.Name x p) "append" p2) [b] [] pos) (tE Δ (eApp i fb)) := by
  refine (pe_bm PySem.F.plainAttrs_list PySem.F.slot_list_append PySem.F.type_list_append mt_append (pv i hN hv hd hcd) (pa_cons hb pa_nil hst) rfl hfw hln hst).imp fun σ H Q ⟨am, F, c, P, XX, ok, ⟨ho, hf⟩, kq, kx⟩ => ?_
  obtain ⟨a, vs, xs, _, e0, h1, h2, h3, h4, h5⟩ := ok.mine ho
  refine ⟨_, h1, Or.inl ⟨rfl, _, SqL.of h2⟩, am, F, c, _, XX, ok, hf, fun r c1 F1 v1 H1 p1 l1 o1 s1 => ?_, kx⟩
  obtain ⟨y, F2, hy, l2, o2, ry⟩ := s1.data o1 p1
  obtain ⟨a', us, ys, q, e1, g1, g2, g3, g4, g5⟩ := o2.mine hy
  rw [h1] at g1
  cases g1
  exact ⟨a, us, v1, rfl, rfl, g2, Nat.lt_of_lt_of_le (show us.length < 1000000 by rw [g5.length]; exact q.1) (line_of (Nat.le_refl _)), kq _ _ F2 _ _ q.2 (l1.trans l2) (o2.mutate e1 h1 g2 g3 g4 (g5.append (.one ry))) (.of .non)⟩
theorem de_ext (i : Nat) (hb : PE X b (tE Δ fb)) (hN : X.N[i]? = some x := by rfl)
    (hv : Vis X.env.scope x := by first | exact Or.inl rfl | exact Or.inr (Or.inl rfl) | exact Or.inr (Or.inr rfl)) (hd : (x == ("__debug__" : Str)) = false := by decide)
    (hcd : (x == ("__classdict__" : Str)) = false := by decide) (hst : starEach (b :: []) X.env = (false, eval b X.env) :: starEach [] X.env := by rfl) (hln : (p2.endLine == pos.line) = true := by rfl)
    (hfw : ((backTo pos (starEach [b] X.env)).all (fun x => !x.1) && (backToKw pos (keywordEach [] X.env)).all (fun x => x.1.isSome) && decide ([b].length + ([] : List Keyword).length + (if ([] : List Keyword).isEmpty then 0 else 1) < 30)) = true := by rfl) : PE X (.Call (.Attribute (.Name x p) "extend" p2) [b] [] pos) (tE Δ (eExt i fb)) := by
  refine (pe_bm PySem.F.plainAttrs_list PySem.F.slot_list_extend PySem.F.type_list_extend mt_extend (pv i hN hv hd hcd) (pa_cons hb pa_nil hst) rfl hfw hln hst).imp fun σ H Q ⟨am, F, c, P, XX, ok, ⟨ho, hf⟩, kq, kx⟩ => ?_
  obtain ⟨a, vs, xs, _, e0, h1, h2, h3, h4, h5⟩ := ok.mine ho
  refine ⟨_, h1, Or.inl ⟨rfl, _, SqL.of h2⟩, am, F, c, _, XX, ok, hf, fun r c1 F1 v1 H1 p1 l1 o1 s1 => ?_, kx⟩
  obtain ⟨b', zs, ws, F2, rfl, hy, l2, o2, q1, q2⟩ := asL_of o1 s1 p1
  obtain ⟨a', us, ys, q, e1, g1, g2, g3, g4, g5⟩ := o2.mine hy
  rw [h1] at g1
  cases g1
  exact ⟨a, b', us, zs, rfl, rfl, g2, o2.fh _ _ q1, line_of (by rw [g5.length, q2.length]; exact q.1), kq _ _ F2 _ _ q.2 (l1.trans l2) (o2.mutate e1 h1 g2 g3 g4 (g5.append q2)) (.of .non)⟩
theorem de_pop (i : Nat) (hN : X.N[i]? = some x := by rfl)
    (hv : Vis X.env.scope x := by first | exact Or.inl rfl | exact Or.inr (Or.inl rfl) | exact Or.inr (Or.inr rfl)) (hd : (x == ("__debug__" : Str)) = false := by decide)
    (hcd : (x == ("__classdict__" : Str)) = false := by decide) (hln : (p2.endLine == pos.line) = true := by rfl) : PE X (.Call (.Attribute (.Name x p) "pop" p2) [] [] pos) (tE Δ (ePop i)) := by
  refine (pe_bm0 PySem.F.plainAttrs_list PySem.F.slot_list_pop PySem.F.type_list_pop mt_pop (pv i hN hv hd hcd) rfl hln).imp fun σ H Q ⟨am, F, c, P, XX, ok, hf, kq, kx⟩ => ?_
  obtain ⟨a, vs, xs, q, e0, h1, h2, h3, h4, h5⟩ := ok.mine hf
  refine ⟨_, h1, Or.inl ⟨rfl, _, SqL.of h2⟩, ?_⟩
  split at q
  · rename_i y ey
    obtain ⟨v, ev, rv⟩ := h5.get ey
    refine ⟨a, vs, v, rfl, rfl, h2, (by rw [h5.length]; exact ev), kq _ _ F _ _ q (Le.refl F) (ok.mutate e0 h1 h2 h3 h4 h5.dropLast) (.of rv)⟩
  · exact q.elim
/-- name[k] = e -/
def sSetI (i : Nat) (fe fi : WE) : WS := fun c P X => isOwn c i ∧ fe c (fun r c1 => asD r fun y => isOwn c1 i ∧ fi c1 (fun r2 c2 => match r2 with
  | .d (.int k) => ownD c2 i fun xs => (match ixN xs.length k with
    | some j => P (.nx (putE c2 i (.own (xs.set j y))))
    | none => False)
  | _ => False) X) X
theorem ds_setI (i : Nat) (ha : PE X a (tE Δ fa)) (hb : PE X b (tE Δ fb)) (hN : X.N[i]? = some x := by rfl)
    (hv : Vis X.env.scope x := by first | exact Or.inl rfl | exact Or.inr (Or.inl rfl) | exact Or.inr (Or.inr rfl)) (hd : (x == ("__debug__" : Str)) = false := by decide)
    (hcd : (x == ("__classdict__" : Str)) = false := by decide)
    (ha' : ∀ v, assign (.Subscript (.Name x p) b p2) X.env v = (do let ov ← holding [v] (eval (.Name x p) X.env); let iv ← holding [v, ov] (eval b X.env); standAt p2; holding [v, ov, iv] (setItem ov iv v); release [v, ov, iv] []) := by intro _; rfl)
    (hs : swapsWithSole [.Subscript (.Name x p) b p2] a pos.line X.env = pure false := by rfl) (hw : swappedStores [.Subscript (.Name x p) b p2] a X.env = pure none := by rfl)
    (h1 : (assignEach [.Subscript (.Name x p) b p2] X.env).map (·.2) = [assign (.Subscript (.Name x p) b p2) X.env] := by rfl) : PS X (.Assign [.Subscript (.Name x p) b p2] a pos) (tS Δ (sSetI i fa fb)) := by
  refine (ps_asg ha (pg_sub (pv i hN hv hd hcd) hb set_list ha') hs hw h1).imp fun D σ H ⟨am, F, c, P, XX, ok, ⟨ho, hf⟩, kf, kx⟩ => ?_
  obtain ⟨a0, vs, xs, _, e0, g1, g2, _⟩ := ok.mine ho
  refine ⟨am, F, c, _, XX, ok, hf, fun r c1 F1 v1 H1 p1 l1 o1 s1 => ?_, kx am⟩
  obtain ⟨y, F2, hy, l2, o2, ry⟩ := s1.data o1 p1
  refine ⟨_, g1, am, F2, c1, _, XX, o2, hy.2, fun r3 c3 F3 v3 H3 p3 l3 o3 s3 => ?_, (kx am).le (l1.trans l2)⟩
  dsimp only at p3
  split at p3
  · have h3 := s3.1
    cases h3
    obtain ⟨a', us, ys, q, e1, k1, k2, k3, k4, k5⟩ := o3.mine p3
    rw [g1] at k1
    cases k1
    split at q
    · rename_i j ej
      refine ⟨a0, us, _, j, rfl, rfl, k2, (by rw [k5.length]; exact ej), kf.1 _ am F3 σ _ q ((l1.trans l2).trans l3) (o3.mutate e1 g1 k2 k3 k4 (k5.set (ry.mono l3) j))⟩
    · exact q.elim
  · exact p3.elim
/-- name op= e -/
def sAug (i : Nat) (o : OD) (fb : WE) : WS := fun c P X => hasD c i ∧ fb c (fun r c1 => asD r fun y => match c1.env[i]? with
  | some (some (.d x)) => o x y fun rr => P (.nx (putE c1 i rr))
  | _ => False) X
theorem ds_aug (i : Nat) {op : Operator} {o : OD} (hN : X.N.Nodup) (hb : PE X b (tE Δ fb)) (ho : OpD X Δ (inplaceOp op) o) (hi : X.N[i]? = some x := by rfl) (hx : Loc X.env.scope x := by first | exact Or.inl rfl | exact Or.inr rfl)
    (hf : X.fn x = true ∨ X.env.scope.names.lookup x = some .local := by first | exact .inl rfl | exact .inr rfl) : PS X (.AugAssign (.Name x p) op b pos) (tS Δ (sAug i o fb)) := by
  obtain ⟨r, h1, h2⟩ := ho.ex
  refine (ps_aug (ti := r) hN hi hx hb h1 hf).imp fun D σ H ⟨am, F, c, P, XX, ok, ⟨hd, hf⟩, kf, kx⟩ => ?_
  obtain ⟨_, v, _, hv, _⟩ := ok.look hd
  refine ⟨v, hv, am, F, c, _, XX, ok, hf, fun r2 c2 F2 v2 H2 p2 l2 o2 s2 => ?_, kx am⟩
  obtain ⟨y, F3, hy, l3, o3, ry⟩ := s2.data o2 p2
  split at hy
  · rename_i z ez
    obtain ⟨w, g1, g2⟩ := o3.sv i _ ez
    rw [hv] at g1
    cases g1
    exact h2 am F3 σ H2 c2 v v2 z y _ _ o3 g2 ry hy fun rr F4 v4 H4 p4 l4 o4 s4 => kf.1 _ am F4 _ H4 p4 ((l2.trans l3).trans l4) (o4.put s4 i)
  · exact hy.elim
end
theorem di_add : OpD X Δ (inplaceOp .Add) (iD (fun i j => .int (i + j)) fun _ _ => True) := op_iD0 iop_add fun _ _ _ => .int _
theorem di_sub : OpD X Δ (inplaceOp .Sub) (iD (fun i j => .int (i - j)) fun _ _ => True) := op_iD0 iop_sub fun _ _ _ => .int _
theorem CMul2.ok {i j : Int} (h : CMul2 i j) : PySem.IntMulOk i j := by
  rcases h with h | h | ⟨a, b, h1, h2, h3, h4, h5⟩
  · exact CMul.ok (.inl h)
  · exact CMul.ok (.inr h)
  · exact (wide_mul h1 h2 h3 h4 h5).ok
theorem di_mul : OpD X Δ (inplaceOp .Mult) (iD (fun i j => .int (i * j)) CMul2) :=
  op_iD (C' := CMul2) (opI fun _ _ _ _ _ _ _ hc q => PyProof.Rows.imul_int q hc.ok) (fun _ _ h => h) fun _ _ _ _ => .int _

/-! ### loops -/
def forW (g : WG) (f : WS) (X : XP) (P : Fl → Prop) : List Px → Cf → Prop
  | [], c => P (.nx c)
  | x :: xs, c => g (.d x) c fun c1 => f c1 (fun fl => match fl with
    | .nx c2 => forW g f X P xs c2
    | .ct c2 => forW g f X P xs c2
    | .bk c2 => P (.nx c2)
    | .rt r gs => P (.rt r gs)) X
def sFor (it : WI) (g : WG) (f : WS) : WS := fun c P X => it c (fun xs c1 => forW g f X P xs c1) X
theorem ds_for {tg iter : Expr} {body : List Stmt} {it : WI} {g : WG} {us : List Nat} (hp : PassesOwn (model X.prog X.w) X.A X.env X.xe) (hc : X.calm = true) (hi : PI X tg iter (tI Δ it)) (hg : PG X tg (tG Δ us g)) (hb : PSs X body (tS Δ ws))
    (hs : ∀ x, foldedSetIterable iter X.env x = pure x := by intro _; rfl) : PS X (.For tg iter body [] pos) (tS Δ (sFor it g ws)) := by
  refine (ps_for hp hc hi hg hb hs).imp fun D σ H ⟨am, F, c, P, XX, ok, hf, kf, kx⟩ => ?_
  refine ⟨am, F, c, _, XX, ok, hf, fun xs c1 F1 H1 J p1 l1 o1 wk => ?_, kx am⟩
  refine for_it wk (fun i σ H => ∃ am' F' c', Le F1 F' ∧ Ok Δ am' F' σ H c' ∧ forW g ws XX P (xs.drop i) c') ⟨am, F1, c1, Le.refl F1, o1, p1⟩ (fun i σ H _ ⟨am', F', c', l, o, _⟩ => l.trans o.fh) ?_ ?_
  · rintro i v σ2 H2 H3 hi ⟨am', F', c', l2, o2, hw⟩ ⟨x, hx, hy⟩
    have hdrop : xs.drop i = x :: xs.drop (i + 1) := by
      rw [List.drop_eq_getElem_cons hi]
      rw [List.getElem?_eq_getElem hi] at hx
      cases hx
      rfl
    rw [hdrop] at hw
    obtain ⟨F3, l3, o3, rx⟩ : ∃ F3, Le F' F3 ∧ Ok Δ am' F3 σ2 H3 c' ∧ Rp F3 v x := by
      rcases hy with ⟨rfl, rx⟩ | ⟨T, vs, ds, rfl, hT, rfl, rfl, rx⟩
      · exact ⟨F', Le.refl F', o2, rx.mono l2⟩
      · obtain ⟨o3, l3, rp⟩ := o2.tupN hT (rx.mono l2)
        exact ⟨_, l3, o3, rp⟩
    refine ⟨am', F3, c', .d x, _, o3, .of rx, hw, fun c4 F4 σ4 H4 p4 l4 o4 _ => ?_⟩
    have ll : Le F F4 := ((l1.trans l2).trans l3).trans l4
    have ll1 : Le F1 F4 := (l2.trans l3).trans l4
    exact ⟨am', F4, c4, _, XX, o4, p4, ⟨fun c5 am5 F5 σ5 H5 p5 l5 o5 => ⟨am5, F5, c5, ll1.trans l5, o5, p5⟩, fun c5 am5 F5 σ5 H5 p5 l5 o5 => kf.1 c5 am5 F5 σ5 H5 p5 (ll.trans l5) o5,
      fun c5 am5 F5 σ5 H5 p5 l5 o5 => ⟨am5, F5, c5, ll1.trans l5, o5, p5⟩, fun r gs am5 F5 H5 v5 p5 l5 o5 s5 => kf.2.2.2 r gs am5 F5 H5 v5 p5 (ll.trans l5) o5 s5⟩, kx.le ll⟩
  · rintro σ2 H2 ⟨am', F', c', l2, o2, hw⟩
    rw [List.drop_length] at hw
    exact kf.1 c' am' F' σ2 H2 hw (l1.trans l2) o2
def whW (t : WT) (f : WS) (X : XP) (P : Fl → Prop) : Nat → Cf → Prop
  | 0, _ => False
  | n + 1, c => t c (fun b c1 => if b = true then f c1 (fun fl => match fl with
      | .nx c2 => whW t f X P n c2
      | .ct c2 => whW t f X P n c2
      | .bk c2 => P (.nx c2)
      | .rt r gs => P (.rt r gs)) X else P (.nx c1)) X
def sWh (t : WT) (f : WS) : WS := fun c P X => ∃ n, whW t f X P n c
theorem ds_wh {cnd : Expr} {body : List Stmt} {fA : WT} (hp : PassesOwn (model X.prog X.w) X.A X.env X.xe) (hc : PT X cnd (tT Δ fA)) (hb : PSs X body (tS Δ ws)) : PS X (.While cnd body [] pos) (tS Δ (sWh fA ws)) := by
  refine (ps_while hp hc hb).imp fun D σ H ⟨am, F, c, P, XX, ok, ⟨n, hf⟩, kf, kx⟩ => ?_
  refine ⟨fun m σ H => ∃ am' F' c', Le F F' ∧ Ok Δ am' F' σ H c' ∧ whW fA ws XX P m c', ⟨n, am, F, c, Le.refl F, ok, hf⟩, ?_⟩
  rintro m σ2 H2 ⟨am', F', c', l2, o2, hw⟩
  cases m with
  | zero => exact hw.elim
  | succ m =>
    refine ⟨am', F', c', _, XX, o2, hw, fun b c3 F3 H3 p3 l3 o3 => ?_, (kx am').le l2⟩
    cases b with
    | true =>
      rw [if_pos rfl] at p3 ⊢
      refine ⟨fun σ H => ∃ am' F' c', Le F F' ∧ Ok Δ am' F' σ H c' ∧ whW fA ws XX P m c', fun σ' H' h => ⟨m, Nat.lt_succ_self m, h⟩, am', F3, c3, _, XX, o3, p3, ?_, kx.le (l2.trans l3)⟩
      have ll : Le F F3 := l2.trans l3
      exact ⟨fun c5 am5 F5 σ5 H5 p5 l5 o5 => ⟨am5, F5, c5, ll.trans l5, o5, p5⟩, fun c5 am5 F5 σ5 H5 p5 l5 o5 => kf.1 c5 am5 F5 σ5 H5 p5 (ll.trans l5) o5,
        fun c5 am5 F5 σ5 H5 p5 l5 o5 => ⟨am5, F5, c5, ll.trans l5, o5, p5⟩, fun r gs am5 F5 H5 v5 p5 l5 o5 s5 => kf.2.2.2 r gs am5 F5 H5 v5 p5 (ll.trans l5) o5 s5⟩
    | false =>
      rw [if_neg Bool.false_ne_true] at p3 ⊢
      exact kf.1 c3 am' F3 σ2 H3 p3 (l2.trans l3) o3
end
end Dl

set_option Elab.async false
set_option maxRecDepth 100000
set_option linter.all false
set_option autoImplicit false
namespace Dl
open PySem L2
/-! ### the drawing state: read, written, made -/
theorem k_ls : ¬ (Sum.inr ("left" : Str) : Key) = (Sum.inr ("seed" : Str) : Key) := by decide +kernel
theorem k_lc : ¬ (Sum.inr ("left" : Str) : Key) = (Sum.inr ("cells" : Str) : Key) := by decide +kernel
theorem k_lp : ¬ (Sum.inr ("left" : Str) : Key) = (Sum.inr ("spot" : Str) : Key) := by decide +kernel
theorem k_sc : ¬ (Sum.inr ("seed" : Str) : Key) = (Sum.inr ("cells" : Str) : Key) := by decide +kernel
theorem k_sp : ¬ (Sum.inr ("seed" : Str) : Key) = (Sum.inr ("spot" : Str) : Key) := by decide +kernel
theorem k_cp : ¬ (Sum.inr ("cells" : Str) : Key) = (Sum.inr ("spot" : Str) : Key) := by decide +kernel
def genKV (l s : Int) (ac : Addr) (p : Int) : List (Key × V) := [(.inr "left", .int l), (.inr "seed", .int s), (.inr "cells", .ref ac), (.inr "spot", .int p)]
theorem gv_left (l s : Int) (ac : Addr) (p : Int) : valV (genKV l s ac p) (Sum.inr ("left" : Str) : Key) = some (.int l) := valV_pos rfl
theorem gv_seed (l s : Int) (ac : Addr) (p : Int) : valV (genKV l s ac p) (Sum.inr ("seed" : Str) : Key) = some (.int s) := by
  unfold genKV
  rw [valV_neg k_ls, valV_pos rfl]
theorem gv_cells (l s : Int) (ac : Addr) (p : Int) : valV (genKV l s ac p) (Sum.inr ("cells" : Str) : Key) = some (.ref ac) := by
  unfold genKV
  rw [valV_neg k_lc, valV_neg k_sc, valV_pos rfl]
theorem gv_spot (l s : Int) (ac : Addr) (p : Int) : valV (genKV l s ac p) (Sum.inr ("spot" : Str) : Key) = some (.int p) := by
  unfold genKV
  rw [valV_neg k_lp, valV_neg k_sp, valV_neg k_cp, valV_pos rfl]
theorem gp_left (l s : Int) (ac : Addr) (p l' : Int) : putK (genKV l s ac p) (Sum.inr ("left" : Str) : Key) (.int l') = genKV l' s ac p := by
  unfold putK genKV
  simp only [List.any_cons, decide_true, Bool.true_or, if_true, List.map_cons, List.map_nil, if_neg (Ne.symm k_ls), if_neg (Ne.symm k_lc), if_neg (Ne.symm k_lp)]
theorem gp_spot (l s : Int) (ac : Addr) (p p' : Int) : putK (genKV l s ac p) (Sum.inr ("spot" : Str) : Key) (.int p') = genKV l s ac p' := by
  unfold putK genKV
  simp only [List.any_cons, decide_true, Bool.true_or, Bool.or_true, if_true, List.map_cons, List.map_nil, if_neg k_lp, if_neg k_sp, if_neg k_cp]
section
variable {X : Cx} {Δ : Dx} {a b e : Expr} {fa fb fc fd : WE} {pos : Pos} {x : Str} {p p2 p3 : Pos} {k : Nat}
/-- m['left'], .. -/
def eGL (i : Nat) : WE := fun c P _ => c.env[i]? = some (some .gen) ∧ c.g.isSome = true ∧ ∀ l : Int, 0 ≤ l → P (.d (.int l)) c
def eGS (i : Nat) : WE := fun c P _ => c.env[i]? = some (some .gen) ∧ c.g.isSome = true ∧ ∀ s : Int, 0 ≤ s → s < 2147483647 → P (.d (.int s)) c
def eGC (i : Nat) : WE := fun c P _ => c.env[i]? = some (some .gen) ∧ c.g.isSome = true ∧ ∀ ns : List Int, ns ≠ [] → ns.length ≤ 1000 → P (.d (.list (ns.map .int))) c
def eGP (i : Nat) : WE := fun c P _ => c.env[i]? = some (some .gen) ∧ ∃ n, c.g = some n ∧ n ≤ 2 ^ 40 ∧ ∀ s : Int, 0 ≤ s → s ≤ n → P (.d (.int s)) c
theorem Ok.gen {am : Addr} {F : Hp} {σ : St} {H : Hp} {c : Cf} (k : Ok Δ am F σ H c) {i : Nat} (h : c.env[i]? = some (some .gen)) : σ[i]? = some (some (.ref am)) := by
  obtain ⟨v, h1, h2⟩ := k.sv i _ h
  have e : v = .ref am := h2
  rw [h1, e]
theorem Ok.gen' {am : Addr} {F : Hp} {σ : St} {H : Hp} {c : Cf} (k : Ok Δ am F σ H c) (h : c.g.isSome = true) : ∃ n left seed spot ac ns, c.g = some n ∧ H am = some (.dK (genKV left seed ac spot)) ∧
    F ac = some (.lst (ns.map V.int)) ∧ ns ≠ [] ∧ ns.length ≤ 1000 ∧ 0 ≤ left ∧ 0 ≤ seed ∧ seed < 2147483647 ∧ 0 ≤ spot ∧ spot ≤ (n : Int) ∧ n ≤ 2 ^ 40 := by
  cases e : c.g with
  | none => rw [e] at h; cases h
  | some n =>
    obtain ⟨h1, h2, l, s, sp, ac, ns, h3⟩ := k.gn n e
    exact ⟨n, l, s, sp, ac, ns, rfl, h3⟩
section
variable (i : Nat) (hu : X.A.units + 1 < cLine) (hN : X.N[i]? = some x)
    (hv : Vis X.env.scope x) (hd : (x == ("__debug__" : Str)) = false) (hcd : (x == ("__classdict__" : Str)) = false)
include hu hN hv hd hcd
theorem de_gl : PE X (.Subscript (.Name x p) (.Constant (.str "left") k p2) pos) (tE Δ (eGL i)) := by
  refine (pe_dget hu (pv i hN hv hd hcd) (pe_str (x := "left")) (fun _ _ => rfl)).imp fun σ H Q ⟨am, F, c, P, XX, ok, ⟨h1, h2, h3⟩, kq, kx⟩ => ?_
  obtain ⟨n, left, seed, spot, ac, ns, q1, q2, q3⟩ := ok.gen' h2
  exact ⟨_, ok.gen h1, am, .int left, rfl, (gv_left left seed ac spot) ▸ DGet.k (k := (Sum.inr ("left" : Str) : Key)) q2, kq _ c F _ H (h3 left q3.2.2.2.1) (Le.refl F) ok (.of (.int _))⟩
theorem de_gs : PE X (.Subscript (.Name x p) (.Constant (.str "seed") k p2) pos) (tE Δ (eGS i)) := by
  refine (pe_dget hu (pv i hN hv hd hcd) (pe_str (x := "seed")) (fun _ _ => rfl)).imp fun σ H Q ⟨am, F, c, P, XX, ok, ⟨h1, h2, h3⟩, kq, kx⟩ => ?_
  obtain ⟨n, left, seed, spot, ac, ns, q1, q2, q3⟩ := ok.gen' h2
  exact ⟨_, ok.gen h1, am, .int seed, rfl, (gv_seed left seed ac spot) ▸ DGet.k (k := (Sum.inr ("seed" : Str) : Key)) q2, kq _ c F _ H (h3 seed q3.2.2.2.2.1 q3.2.2.2.2.2.1) (Le.refl F) ok (.of (.int _))⟩
theorem de_gp : PE X (.Subscript (.Name x p) (.Constant (.str "spot") k p2) pos) (tE Δ (eGP i)) := by
  refine (pe_dget hu (pv i hN hv hd hcd) (pe_str (x := "spot")) (fun _ _ => rfl)).imp fun σ H Q ⟨am, F, c, P, XX, ok, ⟨h1, n, h2, h2', h3⟩, kq, kx⟩ => ?_
  obtain ⟨m, left, seed, spot, ac, ns, q1, q2, q3⟩ := ok.gen' (by rw [h2]; rfl)
  rw [h2] at q1
  cases q1
  exact ⟨_, ok.gen h1, am, .int spot, rfl, (gv_spot left seed ac spot) ▸ DGet.k (k := (Sum.inr ("spot" : Str) : Key)) q2, kq _ c F _ H (h3 spot q3.2.2.2.2.2.2.1 q3.2.2.2.2.2.2.2.1) (Le.refl F) ok (.of (.int _))⟩
theorem de_gc : PE X (.Subscript (.Name x p) (.Constant (.str "cells") k p2) pos) (tE Δ (eGC i)) := by
  refine (pe_dget hu (pv i hN hv hd hcd) (pe_str (x := "cells")) (fun _ _ => rfl)).imp fun σ H Q ⟨am, F, c, P, XX, ok, ⟨h1, h2, h3⟩, kq, kx⟩ => ?_
  obtain ⟨n, left, seed, spot, ac, ns, q1, q2, q3⟩ := ok.gen' h2
  exact ⟨_, ok.gen h1, am, .ref ac, rfl, (gv_cells left seed ac spot) ▸ DGet.k (k := (Sum.inr ("cells" : Str) : Key)) q2, kq _ c F _ H (h3 ns q3.2.1 q3.2.2.1) (Le.refl F) ok (.of (.lst q3.1 (RpA.map_int ns)))⟩
/-- m['left'] = e, m['spot'] = e -/
def sGL (i : Nat) (fa : WE) : WS := fun c P X => fa c (fun r c1 => c1.env[i]? = some (some .gen) ∧ c1.g.isSome = true ∧ match r with
  | .d (.int l) => 0 ≤ l ∧ P (.nx c1)
  | _ => False) X
def sGP (i : Nat) (fa : WE) : WS := fun c P X => fa c (fun r c1 => c1.env[i]? = some (some .gen) ∧ c1.g.isSome = true ∧ match r with
  | .d (.int s) => 0 ≤ s ∧ ∃ n : Nat, s ≤ n ∧ n ≤ 2 ^ 40 ∧ P (.nx { c1 with g := some n })
  | _ => False) X
omit hu hN hv hd hcd in
theorem Ok.genSet {am : Addr} {F : Hp} {σ : St} {H : Hp} {c : Cf} (k : Ok Δ am F σ H c) (h : c.g.isSome = true) {o : HO} {m : Nat} (h2 : GenAt F (upd H am o) am m) : Ok Δ am F σ (upd H am o) { c with g := some m } := by
  obtain ⟨n, left, seed, spot, ac, ns, q1, q2, q3⟩ := k.gen' h
  obtain ⟨g1, g2, g3⟩ := k.gn n q1
  have ne : ∀ b u, F b = some u → b ≠ am := fun b u e z => by rw [z, g2] at e; cases e
  refine ⟨fun b u e => by rw [upd_ne (ne b u e)]; exact k.fh b u e, k.f0, k.fr, fun b u e n => ?_, fun b e => ⟨?_, (k.al b e).2⟩, fun n' e => ?_, k.len, fun i r e => ?_, k.di⟩
  · have : b ≠ am := by
      rintro rfl
      rcases g1 with z | z
      · exact n z
      · rw [z.2] at e; cases e
    rw [upd_ne this]
    exact k.pr b u e n
  · by_cases q : b = am
    · subst q
      rw [upd_same]
      exact fun z => nomatch z
    · rw [upd_ne q]
      exact (k.al b e).1
  · have e : some m = some n' := e
    cases e
    exact ⟨g1, g2, h2⟩
  · obtain ⟨v, h1, h2⟩ := k.sv i r e
    refine ⟨v, h1, ?_⟩
    cases r with
    | d x => exact h2
    | gen => exact h2
    | scr ns => exact h2
    | own xs =>
      obtain ⟨a, us, e1, e2, e3⟩ := h2
      exact ⟨a, us, e1, by rw [upd_ne (g3.ne e2)]; exact e2, e3⟩
theorem ds_gl (ha : PE X a (tE Δ fa)) (hs : swapsWith a (some (.Subscript (.Name x p) (.Constant (.str "left") k p2) p3)) pos.line X.env = pure false) : PS X (.Assign [.Subscript (.Name x p) (.Constant (.str "left") k p2) p3] a pos) (tS Δ (sGL i fa)) := by
  refine (ps_dput hu (pv i hN hv hd hcd) (pe_str (x := "left")) ha hs).imp fun D σ H ⟨am, F, c, P, XX, ok, hf, kf, kx⟩ => ?_
  refine ⟨am, F, c, _, XX, ok, hf, fun r c1 F1 v1 H1 p1 l1 o1 s1 => ?_, kx am⟩
  obtain ⟨h1, h2, p1⟩ := p1
  split at p1
  · rename_i l
    have h3 := s1.1
    cases h3
    obtain ⟨n, left, seed, spot, ac, ns, q1, q2, q3⟩ := o1.gen' h2
    have h4 := DPut.k (k := (Sum.inr ("left" : Str) : Key)) (v := V.int l) q2 (by show 4 < sizeLine; decide)
    rw [gp_left] at h4
    have g2 : GenAt F1 (upd H1 am (.dK (genKV l seed ac spot))) am n := ⟨l, seed, spot, ac, ns, upd_same, q3.1, q3.2.1, q3.2.2.1, p1.1, q3.2.2.2.2⟩
    have o2 := o1.genSet h2 g2
    have ec : { c1 with g := some n } = c1 := by
      obtain ⟨env, g⟩ := c1
      cases q1
      rfl
    rw [ec] at o2
    exact ⟨_, o1.gen h1, am, _, rfl, h4, kf.1 c1 am F1 σ _ p1.2 l1 o2⟩
  · exact p1.elim
theorem ds_gp (ha : PE X a (tE Δ fa)) (hs : swapsWith a (some (.Subscript (.Name x p) (.Constant (.str "spot") k p2) p3)) pos.line X.env = pure false) : PS X (.Assign [.Subscript (.Name x p) (.Constant (.str "spot") k p2) p3] a pos) (tS Δ (sGP i fa)) := by
  refine (ps_dput hu (pv i hN hv hd hcd) (pe_str (x := "spot")) ha hs).imp fun D σ H ⟨am, F, c, P, XX, ok, hf, kf, kx⟩ => ?_
  refine ⟨am, F, c, _, XX, ok, hf, fun r c1 F1 v1 H1 p1 l1 o1 s1 => ?_, kx am⟩
  obtain ⟨h1, h2, p1⟩ := p1
  split at p1
  · rename_i l
    have h3 := s1.1
    cases h3
    obtain ⟨n, left, seed, spot, ac, ns, q1, q2, q3⟩ := o1.gen' h2
    obtain ⟨p0, m, pm, pm2, p1⟩ := p1
    have h4 := DPut.k (k := (Sum.inr ("spot" : Str) : Key)) (v := V.int l) q2 (by show 4 < sizeLine; decide)
    rw [gp_spot] at h4
    have g2 : GenAt F1 (upd H1 am (.dK (genKV left seed ac l))) am m := ⟨left, seed, l, ac, ns, upd_same, q3.1, q3.2.1, q3.2.2.1, q3.2.2.2.1, q3.2.2.2.2.1, q3.2.2.2.2.2.1, p0, pm, pm2⟩
    exact ⟨_, o1.gen h1, am, _, rfl, h4, kf.1 _ am F1 σ _ p1 l1 (o1.genSet h2 g2)⟩
  · exact p1.elim
end
/-! the script -/
def scrD (c : Cf) (i : Nat) (k : List Int → Prop) : Prop := match c.env[i]? with
  | some (some (.scr ns)) => k ns
  | _ => False
theorem Ok.scr {am : Addr} {F : Hp} {σ : St} {H : Hp} {c : Cf} (k : Ok Δ am F σ H c) {i : Nat} {q : List Int → Prop} (h : scrD c i q) : ∃ a ns, q ns ∧ σ[i]? = some (some (.ref a)) ∧ SqL Δ.K F a (ns.map V.int) := by
  unfold scrD at h
  split at h
  · rename_i ns e
    obtain ⟨v, h1, a, e1, e2⟩ := k.sv i _ e
    subst e1
    exact ⟨a, ns, h, h1, e2⟩
  · exact h.elim
def iScr (i : Nat) : WI := fun c P _ => scrD c i fun ns => P (ns.map .int) c
section
variable (i : Nat) (hK : Δ.K = X.K) (hN : X.N[i]? = some x)
    (hv : Vis X.env.scope x) (hd : (x == ("__debug__" : Str)) = false) (hcd : (x == ("__classdict__" : Str)) = false)
include hK hN hv hd hcd
theorem di_scr {tg : Expr} : PI X tg (.Name x p) (tI Δ (iScr i)) := by
  refine (pi_list (pv i hN hv hd hcd)).imp fun σ H R ⟨am, F, c, P, XX, ok, hf, kq, kx⟩ => ?_
  obtain ⟨a, ns, h1, h2, h3⟩ := ok.scr hf
  rw [hK] at h3
  refine ⟨_, h2, a, rfl, ⟨_, sq_le ok.fh h3⟩, kq _ c F H _ h1 (Le.refl F) ok ?_⟩
  have w : L2.Walk (Itl X.K a) (ns.map V.int).length (fun H => SqL X.K H a (ns.map V.int)) (YAt (ns.map V.int)) := walk_list
  rw [(RpA.map_int (F := F) ns).length] at w
  exact w.mono (fun H h => sq_le h h3) fun i H v H' _ _ y => y_at (RpA.map_int ns) i H v H' y
def eSlS (i : Nat) (fl fh : WO) : WE := fun c P X => scrD c i (fun _ => True) ∧ fl c (fun lo c2 => fh c2 (fun hi c3 => scrD c3 i fun ns => P (.own ((cutX ns lo hi).map .int)) c3) X) X
omit hK hN hv hd hcd in
theorem cut_map {α β : Type} (f : α → β) (ns : List α) (lo hi : Option Int) : cutX (ns.map f) lo hi = (cutX ns lo hi).map f := by
  unfold cutX
  rw [List.length_map, List.map_take, List.map_drop]
theorem de_slS {lo hi : Option Expr} {fl fh : WO} (hl : PO X lo (tO Δ fl)) (hh : PO X hi (tO Δ fh)) : PE X (.Subscript (.Name x p) (.Slice lo hi none p2) pos) (tE Δ (eSlS i fl fh)) := by
  refine (pe_slice sl_list (pv i hN hv hd hcd) hl hh).imp fun σ H Q ⟨am, F, c, P, XX, ok, ⟨hd, hf⟩, kq, kx⟩ => ?_
  obtain ⟨a, ns, _, h2, _⟩ := ok.scr hd
  refine ⟨_, h2, am, F, c, _, XX, ok, hf, fun u c2 F2 H2 p2 l2 o2 => ?_, kx⟩
  refine ⟨am, F2, c2, _, XX, o2, p2, fun w c3 F3 H3 p3 l3 o3 => ?_, kx.le l2⟩
  obtain ⟨a', ms, h1, h4, h5⟩ := o3.scr p3
  rw [h2] at h4
  cases h4
  refine ⟨a, _, rfl, hK ▸ sq_le o3.fh h5, fun p hp => ?_⟩
  have r := (RpA.map_int (F := F3) ms).cut u w
  rw [cut_map] at r
  obtain ⟨o', rs⟩ := Rs.fresh o3 hp r
  exact kq _ c3 F3 _ _ h1 (l2.trans l3) o' rs
end

/-! ### the drawing state made and handed back -/
def sRetG (f1 f2 f3 f4 : WE) : WS := fun c P X => c.g = none ∧ f1 c (fun r1 c1 => match r1 with
  | .d (.int l) => 0 ≤ l ∧ f2 c1 (fun r2 c2 => match r2 with
    | .d (.int s) => 0 ≤ s ∧ s < 2147483647 ∧ f3 c2 (fun r3 c3 => asL r3 fun xs => ∃ ns : List Int, xs = ns.map .int ∧ ns ≠ [] ∧ ns.length ≤ 1000 ∧ f4 c3 (fun r4 c4 => match r4 with
      | .d (.int z) => z = 0 ∧ c4.g = none ∧ P (.rt .gen (some 0))
      | _ => False) X) X
    | _ => False) X
  | _ => False) X
theorem mg4 (l s : Int) (ac : Addr) (p : Int) : mergeK [] (genKV l s ac p) = genKV l s ac p := by
  unfold mergeK genKV
  simp only [List.foldl_cons, List.foldl_nil]
  have e1 : putK ([] : List (Key × V)) (Sum.inr ("left" : Str) : Key) (.int l) = [(Sum.inr ("left" : Str), V.int l)] := putK_new _ rfl
  have e2 : putK [((Sum.inr ("left" : Str) : Key), V.int l)] (Sum.inr ("seed" : Str) : Key) (.int s) = [((Sum.inr ("left" : Str) : Key), V.int l), (Sum.inr ("seed" : Str), V.int s)] := putK_new _ (by rw [valV_neg k_ls]; rfl)
  have e3 : putK [((Sum.inr ("left" : Str) : Key), V.int l), (Sum.inr ("seed" : Str), V.int s)] (Sum.inr ("cells" : Str) : Key) (.ref ac) = [((Sum.inr ("left" : Str) : Key), V.int l), (Sum.inr ("seed" : Str), V.int s), (Sum.inr ("cells" : Str), V.ref ac)] :=
    putK_new _ (by rw [valV_neg k_lc, valV_neg k_sc]; rfl)
  rw [e1, e2, e3]
  exact putK_new _ (by rw [valV_neg k_lp, valV_neg k_sp, valV_neg k_cp]; rfl)
section
variable {e1 e2 e3 e4 : Expr} {f1 f2 f3 f4 : WE} {q1 q2 q3 q4 : Pos} {k1 k2 k3 k4 : Nat}
theorem ds_retG (a0 : Δ.a0 = none) (h1 : ∀ Δ' : Dx, Δ'.K = Δ.K → PE X e1 (tE Δ' f1)) (h2 : ∀ Δ' : Dx, Δ'.K = Δ.K → PE X e2 (tE Δ' f2)) (h3 : ∀ Δ' : Dx, Δ'.K = Δ.K → PE X e3 (tE Δ' f3)) (h4 : ∀ Δ' : Dx, Δ'.K = Δ.K → PE X e4 (tE Δ' f4)) :
    PS X (.Return (some (.Dict [some (.Constant (.str "left") k1 q1), some (.Constant (.str "seed") k2 q2), some (.Constant (.str "cells") k3 q3), some (.Constant (.str "spot") k4 q4)] [e1, e2, e3, e4] p)) pos) (tS Δ (sRetG f1 f2 f3 f4)) := by
  let t1 : TE := fun σ H Q => ∃ Δ' : Dx, Δ'.K = Δ.K ∧ tE Δ' f1 σ H Q
  let t2 : TE := fun σ H Q => ∃ Δ' : Dx, Δ'.K = Δ.K ∧ tE Δ' f2 σ H Q
  let t3 : TE := fun σ H Q => ∃ Δ' : Dx, Δ'.K = Δ.K ∧ tE Δ' f3 σ H Q
  let t4 : TE := fun σ H Q => ∃ Δ' : Dx, Δ'.K = Δ.K ∧ tE Δ' f4 σ H Q
  have g1 : PE X e1 t1 := ⟨fun pins s σ H Q I ⟨Δ', e, h⟩ => (h1 Δ' e).run pins s σ H Q I h⟩
  have g2 : PE X e2 t2 := ⟨fun pins s σ H Q I ⟨Δ', e, h⟩ => (h2 Δ' e).run pins s σ H Q I h⟩
  have g3 : PE X e3 t3 := ⟨fun pins s σ H Q I ⟨Δ', e, h⟩ => (h3 Δ' e).run pins s σ H Q I h⟩
  have g4 : PE X e4 t4 := ⟨fun pins s σ H Q I ⟨Δ', e, h⟩ => (h4 Δ' e).run pins s σ H Q I h⟩
  refine (ps_ret (pe_disp (pps_cons (pe_str (x := "left")) g1 (pps_cons (pe_str (x := "seed")) g2 (pps_cons (pe_str (x := "cells")) g3 (pps_cons (pe_str (x := "spot")) g4 pps_nil)))) rfl rfl (fun z => nomatch z) (show 4 ≤ 15 by decide))).imp fun D σ H ⟨am, F, c, P, XX, ok, ⟨cg, hf⟩, kf, kx⟩ => ?_
  intro d hd
  have h0 : Δ.H0 d = none := ok.new hd
  have fd : F d = none := ok.fh.nn hd
  have f00 : Δ.F0 d = none := ok.f0.nn fd
  have na : Δ.a0 ≠ some d := fun z => (ok.al d z).2 h0
  have no : ∀ (i : Nat) (xs : List Px), c.env[i]? = some (some (.own xs)) → σ[i]? ≠ some (some (.ref d)) := fun i xs e z => by
    obtain ⟨v, w1, a, vs, w2, w3, _⟩ := ok.sv i _ e
    subst w2
    rw [z] at w1
    cases w1
    rw [hd] at w3; cases w3
  have oh := (ok.alloc hd (.dK [])).holdO (p := d) (o := .dK []) upd_same (fun n e => by rw [cg] at e; cases e) fd h0 no
  have kxh : ∀ {G : Hp}, Le F G → KX (Δ.hold d (.dK [])) am G XX := fun {G} lg x g F' H' h l fn => kx am x g F' H' h (lg.trans l) (fn.unhold h0 na)
  refine ⟨Δ.hold d (.dK []), rfl, am, F, c, _, XX, oh, hf, fun r1 c1 F1 v1 H1 p1 l1 o1 s1 => ?_, kxh (Le.refl F)⟩
  dsimp only at p1
  split at p1
  case h_2 => exact p1.elim
  rename_i lft
  have w1 := s1.1
  cases w1
  refine ⟨Δ.hold d (.dK []), rfl, am, F1, c1, _, XX, o1, p1.2, fun r2 c2 F2 v2 H2 p2 l2 o2 s2 => ?_, kxh l1⟩
  dsimp only at p2
  split at p2
  case h_2 => exact p2.elim
  rename_i sd
  have w2 := s2.1
  cases w2
  refine ⟨Δ.hold d (.dK []), rfl, am, F2, c2, _, XX, o2, p2.2.2, fun r3 c3 F3 v3 H3 p3 l3 o3 s3 => ?_, kxh (l1.trans l2)⟩
  obtain ⟨ac, vs, xs, F3', rfl, ⟨ns, rfl, hn, hl, p3⟩, l3', o3', ea, ra⟩ := asL_of o3 s3 p3
  have := ra.ints
  subst this
  refine ⟨Δ.hold d (.dK []), rfl, am, F3', c3, _, XX, o3', p3, fun r4 c4 F4 v4 H4 p4 l4 o4 s4 => ?_, kxh (((l1.trans l2).trans l3).trans l3')⟩
  dsimp only at p4
  split at p4
  case h_2 => exact p4.elim
  obtain ⟨rfl, cg4, p4⟩ := p4
  have w4 := s4.1
  cases w4
  obtain ⟨o5, hd5, fd5, no5⟩ := o4.unhold h0 f00 na
  refine ⟨hd5, genKV lft sd ac 0, rfl, (by show 4 ≤ 15; decide), ?_⟩
  rw [mg4]
  have ll : Le F F4 := ((((l1.trans l2).trans l3).trans l3').trans l4)
  refine kf.2.2.2 .gen (some 0) d F4 _ (.ref d) p4 ll ⟨fun b u e => ?_, o5.f0, o5.fr, fun b u e n => ?_, fun b e => ?_, fun n e => ?_⟩ rfl
  · rw [upd_ne (fun z => by rw [z, fd5] at e; cases e)]
    exact o5.fh b u e
  · rw [upd_ne (ne_of_none e h0)]
    exact o5.pr b u e n
  · rw [a0] at e; cases e
  · cases e
    exact ⟨.inr ⟨a0, h0⟩, fd5, lft, sd, 0, ac, ns, upd_same, l4 _ _ ea, hn, hl, p1.1, p2.1, p2.2.1, by decide, by decide, by decide⟩
end
/-- name = f(..) where f makes the drawing state -/
def sSetG (i : Nat) (Pr : Cn) (fr : WA) : WS := fun c P X => fr c (fun rs c1 => Rv.gen ∉ rs ∧ i < c1.env.length ∧ (∀ j, j ≠ i → c1.env[j]? ≠ some (some .gen)) ∧ Pr rs none fun r g' => r = .gen ∧ ∃ n, g' = some n ∧ P (.nx (putE { c1 with g := some n } i .gen))) X
theorem ds_setG (i : Nat) {Pr : Cn} {fr : WA} {f : Str} {es : List Expr} {kk : Nat} (a0 : Δ.a0 = none) (C : CalD X.prog X.w X.K X.mg X.base kk f Pr) (hK : Δ.K = X.K) (hr : RoomG kk X.A) (hg : Gl X f) (hN : X.N.Nodup) (ha : PA X (e :: es) (tA Δ fr)) (hi : X.N[i]? = some x := by rfl) (hx : Loc X.env.scope x := by first | exact Or.inl rfl | exact Or.inr rfl)
    (hs : swapsWith (.Call (.Name f p2) (e :: es) [] p3) (some (.Name x p)) pos.line X.env = pure false := by rfl) (hf : X.fn x = true ∨ X.env.scope.names.lookup x = some .local := by first | exact .inl rfl | exact .inr rfl)
    (hdb : (f == ("__debug__" : Str)) = false := by decide) (he : starEach (e :: es) X.env = (false, eval e X.env) :: starEach es X.env := by rfl) (hpl : (backTo p3 (starEach es X.env)).any (·.1) = false := by rfl) :
    PS X (.Assign [.Name x p] (.Call (.Name f p2) (e :: es) [] p3) pos) (tS Δ (sSetG i Pr fr)) := by
  obtain ⟨fa, fd, ps, w1, w2, w3, w4⟩ := C.ex
  refine (ps_set hN hi hx (pe_callX w1 hr hg w2 w3 w4 pass0 ha hdb he hpl) hs hf).imp fun D σ H ⟨am, F, c, P, XX, ok, hf, kf, kx⟩ => ?_
  refine ⟨am, F, c, _, XX, ok, hf, fun rs c1 F1 vs H1 p1 l1 o1 s1 => ?_, kx am⟩
  obtain ⟨ng, hi1, hno, p1⟩ := p1
  show spD X.K Pr (vs ++ []) H1 _ E0
  rw [List.append_nil]
  refine ⟨am, F1, rs, none, _, o1.fh, fun n z => (nomatch z), s1.to hK (fun _ => rfl), p1, fun r g' am' F' v H' pr l fn s => ?_⟩
  obtain ⟨rfl, n, rfl, pr⟩ := pr
  have ev : v = .ref am' := s
  subst ev
  obtain ⟨g1, g2, g3⟩ := fn.gn n rfl
  have hnew : H1 am' = none := by
    rcases g1 with z | z
    · cases z
    · exact z.2
  have prs : ∀ b o, H1 b = some o → H' b = some o := fun b o e => fn.pr b o e fun z => nomatch z
  refine kf.1 _ am' F' _ H' pr (l1.trans l) ?_
  have nf : ∀ b o, H1 b = some o → F1 b = none → F' b = none := fun b o e n => by
    cases q : F' b with
    | none => rfl
    | some u =>
      rcases fn.fr b (by rw [q]; exact fun z => nomatch z) with z | z
      · exact absurd n z
      · have z : H1 b = none := z
        rw [e] at z; cases z
  refine ⟨fn.fh, o1.f0.trans l, fun b e => (fn.fr b e).elim (fun z => o1.fr b z) fun z => .inr (o1.new z), fun b o e n => prs b o (o1.pr b o e n), fun b e => (by rw [a0] at e; cases e),
    fun n' e => ?_, ?_, fun j r e => ?_, fun j l xs ys n q1 q2 => ?_⟩
  · have e : some n = some n' := e
    cases e
    exact ⟨.inr ⟨a0, o1.new hnew⟩, g2, g3⟩
  · show (σ.set i _).length = (c1.env.set i _).length
    rw [List.length_set, List.length_set, o1.len]
  · have e : (c1.env.set i (some .gen))[j]? = some (some r) := e
    rw [env_get] at e
    rw [St.set_get]
    split at e
    · rename_i q
      cases e
      refine ⟨.ref am', ?_, rfl⟩
      rw [if_pos ⟨q.1, by rw [o1.len]; exact q.2⟩]
    · rename_i q
      have hj : j ≠ i := fun z => q ⟨z, hi1⟩
      obtain ⟨w, h1, h2⟩ := o1.sv j r e
      refine ⟨w, ?_, ?_⟩
      · rw [if_neg (fun y => hj y.1)]
        exact h1
      · cases r with
        | d x => exact Rp.mono l h2
        | gen => exact absurd e (hno j hj)
        | scr ns =>
          obtain ⟨a, e1, e2⟩ := h2
          exact ⟨a, e1, sq_le l e2⟩
        | own xs =>
          obtain ⟨a, us, e1, e2, e3, e4, e5⟩ := h2
          exact ⟨a, us, e1, prs a _ e2, nf a _ e2 e3, e4, e5.mono l⟩
  · have q1 : (c1.env.set i (some .gen))[j]? = some (some (.own xs)) := q1
    have q2 : (c1.env.set i (some .gen))[l]? = some (some (.own ys)) := q2
    rw [env_get] at q1 q2
    rw [St.set_get, St.set_get]
    split at q1
    · cases q1
    · rename_i z1
      split at q2
      · cases q2
      · rename_i z2
        rw [if_neg (fun y => z1 ⟨y.1, hi1⟩), if_neg (fun y => z2 ⟨y.1, hi1⟩)]
        exact o1.di j l xs ys n q1 q2
end
end Dl

set_option Elab.async false
set_option maxRecDepth 100000
set_option linter.all false
set_option autoImplicit false
namespace Dl
open PySem L2
section
variable {X : Cx} {Δ : Dx}
def subD : OD := iD (fun i j => .int (i - j)) fun _ _ => True
def mulD : OD := iD (fun i j => .int (i * j)) CMul2
def fdivD : OD := iD (fun i j => .int (i.fdiv j)) CDiv2
def modD : OD := iD (fun i j => .int (i.fmod j)) fun _ j => j ≠ 0
def powD : OD := iD (fun i j => .int (i ^ j.toNat)) fun i j => 0 ≤ j ∧ (Builtin.Int.intBits i : Int) * j ≤ 2 ^ 27
def iaddD : OD := iD (fun i j => .int (i + j)) fun _ _ => True
theorem do_pow : OpD X Δ (binaryOp .Pow) powD :=
  op_iD (C' := fun i j => 0 ≤ j ∧ (Builtin.Int.intBits i : Int) * j ≤ 2 ^ 27) (opI fun _ _ _ _ _ _ _ hc q => PyProof.Rows.pow_int hc.1 hc.2 q) (fun _ _ h => h) fun _ _ _ _ => .int _
theorem do_sub' : OpD X Δ (binaryOp .Sub) subD := do_sub
theorem do_mul' : OpD X Δ (binaryOp .Mult) mulD := do_mul
theorem do_fdiv' : OpD X Δ (binaryOp .FloorDiv) fdivD := do_fdiv
theorem do_mod' : OpD X Δ (binaryOp .Mod) modD := do_mod
theorem di_add' : OpD X Δ (inplaceOp .Add) iaddD := di_add
theorem di_sub' : OpD X Δ (inplaceOp .Sub) subD := di_sub
theorem di_mul' : OpD X Δ (inplaceOp .Mult) mulD := di_mul
def wYes : WT := fun c P _ => P true c
theorem dts_nil : PTs X [] (tT Δ wYes) := ⟨fun pins s σ H Q I ⟨am, F, c, P, XX, ok, hf, kq, kx⟩ => pts_nil.run pins s σ H Q I (kq true c F H hf (Le.refl F) ok)⟩
/-- f() -/
theorem de_callP0 {k : Nat} {x : Str} {p pos : Pos} {Pr : Cn} (C : CalD X.prog X.w X.K X.mg X.base k x Pr) (hK : Δ.K = X.K) (hr : RoomG k X.A) (hg : Gl X x) (hdb : (x == ("__debug__" : Str)) = false := by decide) : PE X (.Call (.Name x p) [] [] pos) (tE Δ (eCallP Pr aNil)) := by
  obtain ⟨f, fd, ps, h1, h2, h3, h4⟩ := C.ex
  refine (pe_callX0 h1 hr hg h2 h3 h4 pass0 hdb).imp fun σ H Q ⟨am, F, c, P, XX, ok, hf, kq, kx⟩ => ?_
  show spD X.K Pr ([] ++ []) H Q E0
  refine ⟨am, F, [], none, _, ok.fh, fun n z => (nomatch z), .nil, hf.2, fun r g' am' F' v H' pr l fn s => ?_⟩
  obtain ⟨o', s'⟩ := ok.back (g := none) (.inl rfl) l (hK ▸ fn) (hK ▸ s) pr.1
  exact kq r c F' v H' pr.2 l o' s'
end
end Dl

set_option Elab.async false
set_option maxRecDepth 100000
set_option linter.all false
set_option autoImplicit false
namespace Dl
open PySem L2
/-! ### running a reading: equations -/
section
variable {k : Px → Prop} {a b d e f : Px} {l xs ys : List Px}
theorem ixt0 : ixD (.tuple (a :: l)) (.int 0) k = k a := by simp [ixD, atI, ixN]
theorem ixt1 : ixD (.tuple (a :: b :: l)) (.int 1) k = k b := by
  simp only [ixD, atI, ixN, List.length_cons]
  rw [if_pos (by omega), if_pos (by omega)]; rfl
theorem ixt2 : ixD (.tuple (a :: b :: d :: l)) (.int 2) k = k d := by
  simp only [ixD, atI, ixN, List.length_cons]
  rw [if_pos (by omega), if_pos (by omega)]; rfl
theorem ixt3 : ixD (.tuple (a :: b :: d :: e :: l)) (.int 3) k = k e := by
  simp only [ixD, atI, ixN, List.length_cons]
  rw [if_pos (by omega), if_pos (by omega)]; rfl
theorem ixl0 : ixD (.list (a :: l)) (.int 0) k = k a := by simp [ixD, atI, ixN]
theorem ixl1 : ixD (.list (a :: b :: l)) (.int 1) k = k b := by
  simp only [ixD, atI, ixN, List.length_cons]
  rw [if_pos (by omega), if_pos (by omega)]; rfl
theorem ixtn {i : Nat} (h : xs[i]? = some a) : ixD (.tuple xs) (.int (i : Int)) k = k a := by simp only [ixD, atI_nat h]
theorem ixln {i : Nat} (h : xs[i]? = some a) : ixD (.list xs) (.int (i : Int)) k = k a := by simp only [ixD, atI_nat h]
theorem ixtl : ixD (.tuple (xs ++ [a])) (.int (-1)) k = k a := by simp only [ixD, atI_last]
theorem ixll : ixD (.list (xs ++ [a])) (.int (-1)) k = k a := by simp only [ixD, atI_last]
end
theorem asD_d {x : Px} {k : Px → Prop} : asD (.d x) k = k x := rfl
theorem asD_own {x : List Px} {k : Px → Prop} : asD (.own x) k = k (.list x) := rfl
theorem argR_d {x : Px} {k : Rv → Prop} : argR (.d x) k = k (.d x) := rfl
theorem argR_own {x : List Px} {k : Rv → Prop} : argR (.own x) k = k (.d (.list x)) := rfl
theorem argR_gen {k : Rv → Prop} : argR .gen k = k .gen := rfl
theorem argR_scr {ns : List Int} {k : Rv → Prop} : argR (.scr ns) k = k (.scr ns) := rfl
theorem asL_own {x : List Px} {k : List Px → Prop} : asL (.own x) k = k x := rfl
theorem asL_d {x : List Px} {k : List Px → Prop} : asL (.d (.list x)) k = k x := rfl
theorem asT_d {x : List Px} {k : List Px → Prop} : asT (.d (.tuple x)) k = k x := rfl
theorem asB_d {b : Bool} {k : Bool → Prop} : asB (.d (.bool b)) k = k b := rfl
theorem iD_i {f : Int → Int → Px} {C : Int → Int → Prop} {i j : Int} {P : Rv → Prop} : iD f C (.int i) (.int j) P = (C i j ∧ P (.d (f i j))) := rfl
theorem sub_i {i j : Int} {P : Rv → Prop} : subD (.int i) (.int j) P = (True ∧ P (.d (.int (i - j)))) := rfl
theorem iadd_i {i j : Int} {P : Rv → Prop} : iaddD (.int i) (.int j) P = (True ∧ P (.d (.int (i + j)))) := rfl
theorem mul_i {i j : Int} {P : Rv → Prop} : mulD (.int i) (.int j) P = (CMul2 i j ∧ P (.d (.int (i * j)))) := rfl
theorem fdiv_i {i j : Int} {P : Rv → Prop} : fdivD (.int i) (.int j) P = (CDiv2 i j ∧ P (.d (.int (i.fdiv j)))) := rfl
theorem mod_i {i j : Int} {P : Rv → Prop} : modD (.int i) (.int j) P = (j ≠ 0 ∧ P (.d (.int (i.fmod j)))) := rfl
theorem pow_i {i j : Int} {P : Rv → Prop} : powD (.int i) (.int j) P = ((0 ≤ j ∧ (Builtin.Int.intBits i : Int) * j ≤ 2 ^ 27) ∧ P (.d (.int (i ^ j.toNat)))) := rfl
theorem lt_i {i j : Int} {P : Rv → Prop} : ltD (.int i) (.int j) P = (True ∧ P (.d (.bool (decide (i < j))))) := rfl
theorem le_i {i j : Int} {P : Rv → Prop} : leD (.int i) (.int j) P = (True ∧ P (.d (.bool (decide (i ≤ j))))) := rfl
theorem gt_i {i j : Int} {P : Rv → Prop} : gtD (.int i) (.int j) P = (True ∧ P (.d (.bool (decide (j < i))))) := rfl
theorem ge_i {i j : Int} {P : Rv → Prop} : geD (.int i) (.int j) P = (True ∧ P (.d (.bool (decide (j ≤ i))))) := rfl
theorem add_i {i j : Int} {P : Rv → Prop} : addD (.int i) (.int j) P = P (.d (.int (i + j))) := rfl
theorem add_l {x y : List Px} {P : Rv → Prop} : addD (.list x) (.list y) P = (x.length + y.length ≤ 1000000 ∧ P (.own (x ++ y))) := rfl
theorem add_t {x y : List Px} {P : Rv → Prop} : addD (.tuple x) (.tuple y) P = (x.length + y.length ≤ 1000000 ∧ P (.d (.tuple (x ++ y)))) := rfl
theorem cat_i {i j : Int} {P : Rv → Prop} : catD (.int i) (.int j) P = P (.d (.int (i + j))) := rfl
theorem cat_l {x y : List Px} {P : Rv → Prop} : catD (.list x) (.list y) P = (x.length + y.length ≤ 1000000 ∧ P (.own (x ++ y))) := rfl
theorem cat_t {x y : List Px} {P : Rv → Prop} : catD (.tuple x) (.tuple y) P = (x.length + y.length ≤ 1000000 ∧ P (.d (.tuple (x ++ y)))) := rfl
theorem neg_i {i : Int} {P : Rv → Prop} : negD (.int i) P = P (.d (.int (-i))) := rfl
theorem sh_int {i : Int} : SeqAt.shaped (.int i) = true := by simp [SeqAt.shaped, PyData.canLay0, PyData.depth]
theorem sh_bool {i : Bool} : SeqAt.shaped (.bool i) = true := by simp [SeqAt.shaped, PyData.canLay0, PyData.depth]
theorem sh_none : SeqAt.shaped .none = true := by simp [SeqAt.shaped, PyData.canLay0, PyData.depth]
theorem eqf_i {i j : Int} {P : Rv → Prop} : eqD false (.int i) (.int j) P = (True ∧ True ∧ P (.d (.bool (i == j)))) := by simp only [eqD, sh_int]; rfl
theorem eqt_i {i j : Int} {P : Rv → Prop} : eqD true (.int i) (.int j) P = (True ∧ True ∧ P (.d (.bool (!(i == j))))) := by simp only [eqD, sh_int]; rfl
theorem lenC_l {x : List Px} {P : Rv → Prop} : lenC [.d (.list x)] P = P (.d (.int x.length)) := rfl
theorem lenC_t {x : List Px} {P : Rv → Prop} : lenC [.d (.tuple x)] P = P (.d (.int x.length)) := rfl
theorem absC_i {i : Int} {P : Rv → Prop} : absC [.d (.int i)] P = P (.d (.int i.natAbs)) := rfl
theorem intC_i {i : Int} {P : Rv → Prop} : intC [.d (.int i)] P = P (.d (.int i)) := rfl
theorem tupC_l {x : List Px} {P : Rv → Prop} : tupC [.d (.list x)] P = P (.d (.tuple x)) := rfl
theorem tupC_t {x : List Px} {P : Rv → Prop} : tupC [.d (.tuple x)] P = P (.d (.tuple x)) := rfl
theorem max2C_i {i j : Int} {P : Rv → Prop} : max2C [.d (.int i), .d (.int j)] P = P (.d (.int (if i < j then j else i))) := rfl
theorem max3C_i {i j l : Int} {P : Rv → Prop} : max3C [.d (.int i), .d (.int j), .d (.int l)] P = P (.d (.int (max2 (max2 i j) l))) := rfl
theorem gT_d {n : Nat} {gs : WGs} {xs : List Px} {c : Cf} {P : Cf → Prop} : gT n gs (.d (.tuple xs)) c P = (xs.length = n ∧ gs xs c P) := rfl
theorem gsC {g : WG} {gs : WGs} {x : Px} {r : List Px} {c : Cf} {P : Cf → Prop} : gsCons g gs (x :: r) c P = g (.d x) c fun c1 => gs r c1 P := rfl
theorem gsN {c : Cf} {P : Cf → Prop} : gsNil [] c P = P c := rfl
/-- plain data, not deep -/
def Shp (n : Nat) (x : Px) : Prop := x.canLay0 = true ∧ x.depth ≤ n
theorem Shp.sh {n : Nat} {x : Px} (h : Shp n x) (hn : n ≤ 64 := by decide) : SeqAt.shaped x = true := by
  simp only [SeqAt.shaped, h.1, Bool.true_and, decide_eq_true_eq]
  exact Nat.le_trans h.2 hn
theorem Shp.int {n : Nat} (i : Int) : Shp n (.int i) := ⟨by simp [PyData.canLay0], by simp [PyData.depth]⟩
theorem Shp.all {n : Nat} : ∀ {xs : List Px}, (∀ x ∈ xs, Shp n x) → PyData.canLayAll0 xs = true ∧ PyData.depthAll xs ≤ n
  | [], _ => ⟨by simp [PyData.canLayAll0], by simp [PyData.depthAll]⟩
  | x :: xs, h => by
    have h1 := h x List.mem_cons_self
    have h2 := Shp.all fun y hy => h y (List.mem_cons_of_mem _ hy)
    refine ⟨by simp only [PyData.canLayAll0, h1.1, h2.1, Bool.and_self], ?_⟩
    simp only [PyData.depthAll]
    exact Nat.max_le.mpr ⟨h1.2, h2.2⟩
theorem Shp.tup {n : Nat} {xs : List Px} (h : ∀ x ∈ xs, Shp n x) : Shp (n + 1) (.tuple xs) := by
  have := Shp.all h
  exact ⟨by simp only [PyData.canLay0]; exact this.1, by simp only [PyData.depth]; omega⟩
theorem Shp.lst {n : Nat} {xs : List Px} (h : ∀ x ∈ xs, Shp n x) : Shp (n + 1) (.list xs) := by
  have := Shp.all h
  exact ⟨by simp only [PyData.canLay0]; exact this.1, by simp only [PyData.depth]; omega⟩
theorem Shp.ints (ns : List Int) : Shp 1 (.tuple (ns.map .int)) := .tup fun x hx => by
  obtain ⟨i, _, rfl⟩ := List.mem_map.mp hx
  exact .int i
theorem eqv_nil {xs : List Px} : PyData.eqv (.list xs) (.list []) = xs.isEmpty := by cases xs <;> simp [PyData.eqv, PyData.eqvAll]

/-! the readings of names, stuck where the slot isn't known -/
def slotE (o : Option (Option Rv)) (i : Nat) (c : Cf) (P : Rv → Cf → Prop) : Prop := match o with
  | some (some (.d x)) => P (.d x) c
  | some (some .gen) => P .gen c
  | some (some (.scr ns)) => P (.scr ns) c
  | some (some (.own xs)) => P (.d (.list xs)) { c with env := c.env.set i (some (.d (.list xs))) }
  | _ => False
theorem eName_eq {i : Nat} {c : Cf} {P : Rv → Cf → Prop} {X : XP} : eName i c P X = slotE c.env[i]? i c P := rfl
theorem slotE_d {x : Px} {i : Nat} {c : Cf} {P : Rv → Cf → Prop} : slotE (some (some (.d x))) i c P = P (.d x) c := rfl
theorem slotE_gen {i : Nat} {c : Cf} {P : Rv → Cf → Prop} : slotE (some (some .gen)) i c P = P .gen c := rfl
theorem slotE_scr {ns : List Int} {i : Nat} {c : Cf} {P : Rv → Cf → Prop} : slotE (some (some (.scr ns))) i c P = P (.scr ns) c := rfl
theorem slotE_own {xs : List Px} {i : Nat} {c : Cf} {P : Rv → Cf → Prop} : slotE (some (some (.own xs))) i c P = P (.d (.list xs)) { c with env := c.env.set i (some (.d (.list xs))) } := rfl
def slotK (o : Option (Option Rv)) (k : Px → Prop) : Prop := match o with
  | some (some (.d x)) => k x
  | some (some (.own xs)) => k (.list xs)
  | _ => False
theorem slotD_eq {c : Cf} {i : Nat} {k : Px → Prop} : slotD c i k = slotK c.env[i]? k := rfl
theorem slotK_d {x : Px} {k : Px → Prop} : slotK (some (some (.d x))) k = k x := rfl
theorem slotK_own {xs : List Px} {k : Px → Prop} : slotK (some (some (.own xs))) k = k (.list xs) := rfl
def slotO (o : Option (Option Rv)) (k : List Px → Prop) : Prop := match o with
  | some (some (.own xs)) => k xs
  | _ => False
theorem ownD_eq {c : Cf} {i : Nat} {k : List Px → Prop} : ownD c i k = slotO c.env[i]? k := rfl
theorem slotO_own {xs : List Px} {k : List Px → Prop} : slotO (some (some (.own xs))) k = k xs := rfl
theorem wB_eq {f : WE} {c : Cf} {P : Bool → Cf → Prop} {X : XP} : wB f c P X = f c (fun r c1 => asB r fun b => P b c1) X := rfl
def asI (r : Rv) (k : Int → Prop) : Prop := match r with
  | .d (.int i) => k i
  | _ => False
theorem asI_i {i : Int} {k : Int → Prop} : asI (.d (.int i)) k = k i := rfl
theorem oSome_eq {f : WE} {c : Cf} {P : Option Int → Cf → Prop} {X : XP} : oSome f c P X = f c (fun r c1 => asI r fun i => P (some i) c1) X := rfl
theorem sSetI_eq {i : Nat} {fe fi : WE} {c : Cf} {P : Fl → Prop} {X : XP} : sSetI i fe fi c P X = (isOwn c i ∧ fe c (fun r c1 => asD r fun y => isOwn c1 i ∧ fi c1 (fun r2 c2 => asI r2 fun k => ownD c2 i fun xs => ∃ j, ixN xs.length k = some j ∧ P (.nx (putE c2 i (.own (xs.set j y))))) X) X) := by
  unfold sSetI
  congr 2
  funext r c1
  congr 1
  funext y
  congr 2
  funext r2 c2
  cases r2 with
  | d x =>
    cases x with
    | int k =>
      show (ownD c2 i fun xs => _) = asI (.d (.int k)) _
      rw [asI_i]
      congr 1
      funext xs
      cases ixN xs.length k <;> simp
    | _ => rfl
  | _ => rfl
def slotA (o : Option (Option Rv)) (k : Px → Prop) : Prop := match o with
  | some (some (.d x)) => k x
  | _ => False
theorem slotA_d {x : Px} {k : Px → Prop} : slotA (some (some (.d x))) k = k x := rfl
theorem sAug_eq {i : Nat} {o : OD} {fb : WE} {c : Cf} {P : Fl → Prop} {X : XP} : sAug i o fb c P X = (hasD c i ∧ fb c (fun r c1 => asD r fun y => slotA c1.env[i]? fun x => o x y fun rr => P (.nx (putE c1 i rr))) X) := rfl
end Dl

set_option Elab.async false
set_option maxRecDepth 100000
set_option linter.all false
set_option autoImplicit false
namespace Dl
open PySem L2
/-! ### loops and comprehensions by induction -/
section
variable {g : WG} {t : WT} {f : WE} {vs : List Nat} {env : List (Option Rv)} {X : XP} {P : Rv → Cf → Prop}
/-- one turn of a comprehension -/
def Turn1 (g : WG) (t : WT) (f : WE) (vs : List Nat) (env : List (Option Rv)) (X : XP) (x : Px) (gs : Option Nat) (R : Px → Option Nat → Prop) (S : Option Nat → Prop) : Prop :=
  g (.d x) ⟨wipeE env vs, gs⟩ fun c1 => wipeE c1.env vs = wipeE env vs ∧ t c1 (fun b c2 => c2.env = c1.env ∧ if b = true then f c2 (fun r c3 => c3.env = c1.env ∧ asD r fun y => R y c3.g) X else S c2.g) X
theorem lcW_fm (h : Px → Option Px) {gs : Option Nat} : ∀ (xs acc : List Px), (∀ x ∈ xs, ∀ (R : Px → Option Nat → Prop) (S : Option Nat → Prop), (∀ y, h x = some y → R y gs) → (h x = none → S gs) → Turn1 g t f vs env X x gs R S) →
    acc.length + xs.length ≤ 1000000 → P (.own (acc ++ xs.filterMap h)) ⟨env, gs⟩ → lcW g t f vs env X P xs acc gs
  | [], acc, _, _, q => by
    simp only [List.filterMap_nil, List.append_nil] at q
    exact q
  | x :: xs, acc, ht, hl, q => by
    simp only [List.length_cons] at hl
    refine ht x List.mem_cons_self (fun y g' => acc.length < 1000000 ∧ lcW g t f vs env X P xs (acc ++ [y]) g') (fun g' => lcW g t f vs env X P xs acc g') (fun y hy => ⟨by omega, ?_⟩) fun hy => ?_
    · refine lcW_fm h xs (acc ++ [y]) (fun z hz => ht z (List.mem_cons_of_mem _ hz)) (by simp only [List.length_append, List.length_cons, List.length_nil]; omega) ?_
      rw [List.filterMap_cons_some hy] at q
      rw [List.append_assoc]
      exact q
    · refine lcW_fm h xs acc (fun z hz => ht z (List.mem_cons_of_mem _ hz)) (by omega) ?_
      rw [List.filterMap_cons_none hy] at q
      exact q
theorem lcW_map (h : Px → Px) {gs : Option Nat} (xs : List Px) (ht : ∀ x ∈ xs, ∀ (R : Px → Option Nat → Prop) (S : Option Nat → Prop), R (h x) gs → Turn1 g t f vs env X x gs R S)
    (hl : xs.length ≤ 1000000) (q : P (.own (xs.map h)) ⟨env, gs⟩) : lcW g t f vs env X P xs [] gs := by
  refine lcW_fm (fun x => some (h x)) xs [] (fun x hx R S hR _ => ht x hx R S (hR _ rfl)) (by simpa using hl) ?_
  rw [List.nil_append, show xs.filterMap (fun x => some (h x)) = xs.map h by simp [List.filterMap_eq_map']]
  exact q
end
theorem forW_ind {g : WG} {f : WS} {X : XP} {P : Fl → Prop} (xs : List Px) (I : Nat → Cf → Prop) (hs : ∀ (i : Nat) (x : Px) (c : Cf), xs[i]? = some x → I i c → ∀ R : Cf → Prop, (∀ c', I (i + 1) c' → R c') →
      g (.d x) c fun c1 => f c1 (fun fl => match fl with
        | .nx c2 => R c2
        | .ct c2 => R c2
        | .bk c2 => P (.nx c2)
        | .rt r gs => P (.rt r gs)) X) (hd : ∀ c, I xs.length c → P (.nx c)) : ∀ c, I 0 c → forW g f X P xs c := by
  have key : ∀ (ys : List Px) (i : Nat) (c : Cf), (∀ j x, ys[j]? = some x → xs[i + j]? = some x) → i + ys.length = xs.length → I i c → forW g f X P ys c := by
    intro ys
    induction ys with
    | nil =>
      intro i c _ hl hI
      simp only [List.length_nil, Nat.add_zero] at hl
      subst hl
      exact hd c hI
    | cons y ys ih =>
      intro i c hg hl hI
      refine hs i y c (by simpa using hg 0 y rfl) hI (fun c' => forW g f X P ys c') fun c' hI' => ih (i + 1) c' (fun j x hx => ?_) (by simp only [List.length_cons] at hl; omega) hI'
      have := hg (j + 1) x (by simpa using hx)
      rw [show i + 1 + j = i + (j + 1) by omega]
      exact this
  intro c hI
  exact key xs 0 c (fun j x h => by simpa using h) (by simp) hI
theorem rng_at {lo : Int} {n i : Nat} {x : Px} (h : (rngX lo n)[i]? = some x) : i < n ∧ x = .int (lo + i) := by
  have hi : i < n := by
    have := (List.getElem?_eq_some_iff.mp h).1
    rwa [rngX_length] at this
  rw [rngX_get n lo i hi] at h
  exact ⟨hi, (Option.some.inj h).symm⟩
theorem map_at {α : Type} {f : α → Px} {l : List α} {i : Nat} {x : Px} (h : (l.map f)[i]? = some x) : ∃ a, l[i]? = some a ∧ x = f a := by
  rw [List.getElem?_map] at h
  cases e : l[i]? with
  | none => rw [e] at h; cases h
  | some a => rw [e] at h; exact ⟨a, rfl, (Option.some.inj h).symm⟩
theorem map_of {α : Type} (f : α → Px) {l : List α} {i : Nat} {a : α} (h : l[i]? = some a) : (l.map f)[i]? = some (f a) := by
  rw [List.getElem?_map, h]; rfl
/-- an item at an int that is in bounds -/
theorem int_ix {n : Nat} {j : Int} (h0 : 0 ≤ j) (h1 : j < n) : ∃ i : Nat, j = (i : Int) ∧ i < n := ⟨j.toNat, by omega, by omega⟩
theorem ixl_of {xs : List Px} {j : Int} {k : Px → Prop} (h0 : 0 ≤ j) (h1 : j < xs.length) (h : ∀ x ∈ xs, k x) : ixD (.list xs) (.int j) k := by
  obtain ⟨i, rfl, hi⟩ := int_ix h0 h1
  rw [ixln (a := xs[i]) (by simp [hi])]
  exact h _ (List.getElem_mem hi)
theorem ixt_of {xs : List Px} {j : Int} {k : Px → Prop} (h0 : 0 ≤ j) (h1 : j < xs.length) (h : ∀ x ∈ xs, k x) : ixD (.tuple xs) (.int j) k := by
  obtain ⟨i, rfl, hi⟩ := int_ix h0 h1
  rw [ixtn (a := xs[i]) (by simp [hi])]
  exact h _ (List.getElem_mem hi)
theorem fmod_b {i b : Int} (hb : 0 < b) : 0 ≤ i.fmod b ∧ i.fmod b < b := by
  rw [Int.fmod_eq_emod_of_nonneg i (by omega)]
  exact ⟨Int.emod_nonneg _ (by omega), Int.emod_lt_of_pos _ hb⟩
theorem fdiv_nn {i b : Int} (hi : 0 ≤ i) (hb : 0 < b) : 0 ≤ i.fdiv b := by
  rw [Int.fdiv_eq_ediv_of_nonneg i (by omega)]
  exact Int.ediv_nonneg hi (by omega)
theorem CMul2.l {i j : Int} (h1 : -1000000000000000000 < i) (h2 : i < 1000000000000000000) : CMul2 i j := .inl ⟨by omega, by omega⟩
theorem CMul2.r {i j : Int} (h1 : -1000000000000000000 < j) (h2 : j < 1000000000000000000) : CMul2 i j := .inr (.inl ⟨by omega, by omega⟩)
theorem CDiv2.s {i j : Int} (h : j ≠ 0) (h1 : -1000000000 < j) (h2 : j < 1000000000) : CDiv2 i j := .inl ⟨h, by omega⟩
theorem CDiv2.g {i j : Int} (h : 0 < j) {b : Nat} (h1 : j.natAbs < 2 ^ b) (h2 : b ≤ 9000 := by decide) (h3 : 0 < b := by decide) : CDiv2 i j := .inr ⟨h, b, h1, h3, h2⟩
theorem mem_split {xs : List Px} (h : xs ≠ []) : ∃ ys z, xs = ys ++ [z] := ⟨xs.dropLast, xs.getLast h, (List.dropLast_concat_getLast h).symm⟩
end Dl

set_option Elab.async false
set_option maxRecDepth 100000
set_option linter.all false
set_option autoImplicit false
namespace Dl
open PySem L2
section
variable {X : Cx} {Δ : Dx} {pos : Pos} {es : List Expr}
/-- a, b, .. = a list of that length -/
def gL (n : Nat) (gs : WGs) : WG := fun r c P => asL r fun xs => xs.length = n ∧ gs xs c P
theorem dg_lst {k : Nat} {gs : WGs} {n : Nat} {us : List Nat} (hc : X.calm = true) (h : PGs X es (tGs Δ us gs)) (hn : (assignEach es X.env).length = n := by rfl) (hst : (assignEach es X.env).findIdx? (·.1) = none := by rfl) : PG X (.Tuple es k pos) (tG Δ us (gL n gs)) :=
  (pg_lst hc h hn hst).imp fun v σ H Q ⟨am, F, c, r, P, ok, s, h, kq⟩ => by
    obtain ⟨a, vs, xs, F', e1, hx, l, o', e2, r1⟩ := asL_of ok s h
    exact ⟨a, vs, e1, SqL.of (o'.fh _ _ e2), by rw [r1.length]; exact hx.1, am, F', c, xs, P, o', r1, hx.2, fun c' F2 σ' H' p l2 o t => kq c' F2 σ' H' p (l.trans l2) o t⟩
end
theorem gL_own {n : Nat} {gs : WGs} {xs : List Px} {c : Cf} {P : Cf → Prop} : gL n gs (.own xs) c P = (xs.length = n ∧ gs xs c P) := rfl
theorem gL_d {n : Nat} {gs : WGs} {xs : List Px} {c : Cf} {P : Cf → Prop} : gL n gs (.d (.list xs)) c P = (xs.length = n ∧ gs xs c P) := rfl
end Dl

set_option Elab.async false
set_option maxRecDepth 100000
set_option linter.all false
set_option autoImplicit false
namespace Dl
open PySem L2
section
variable {g : WG} {t : WT} {f : WE} {vs : List Nat} {env : List (Option Rv)} {X : XP} {P : Rv → Cf → Prop}
theorem lcW_fma {α : Type} (e : α → Px) (h : α → Option Px) {gs : Option Nat} : ∀ (l : List α) (acc : List Px), (∀ x ∈ l, ∀ (R : Px → Option Nat → Prop) (S : Option Nat → Prop), (∀ y, h x = some y → R y gs) → (h x = none → S gs) → Turn1 g t f vs env X (e x) gs R S) →
    acc.length + l.length ≤ 1000000 → P (.own (acc ++ l.filterMap h)) ⟨env, gs⟩ → lcW g t f vs env X P (l.map e) acc gs
  | [], acc, _, _, q => by
    simp only [List.filterMap_nil, List.append_nil] at q
    exact q
  | x :: xs, acc, ht, hl, q => by
    simp only [List.length_cons] at hl
    refine ht x List.mem_cons_self (fun y g' => acc.length < 1000000 ∧ lcW g t f vs env X P (xs.map e) (acc ++ [y]) g') (fun g' => lcW g t f vs env X P (xs.map e) acc g') (fun y hy => ⟨by omega, ?_⟩) fun hy => ?_
    · refine lcW_fma e h xs (acc ++ [y]) (fun z hz => ht z (List.mem_cons_of_mem _ hz)) (by simp only [List.length_append, List.length_cons, List.length_nil]; omega) ?_
      rw [List.filterMap_cons_some hy] at q
      rw [List.append_assoc]
      exact q
    · refine lcW_fma e h xs acc (fun z hz => ht z (List.mem_cons_of_mem _ hz)) (by omega) ?_
      rw [List.filterMap_cons_none hy] at q
      exact q
/-- a comprehension that keeps every item -/
theorem lcW_mpa {α : Type} (e h : α → Px) {gs : Option Nat} (l : List α) (ht : ∀ x ∈ l, ∀ (R : Px → Option Nat → Prop) (S : Option Nat → Prop), R (h x) gs → Turn1 g t f vs env X (e x) gs R S)
    (hl : l.length ≤ 1000000) (q : P (.own (l.map h)) ⟨env, gs⟩) : lcW g t f vs env X P (l.map e) [] gs := by
  refine lcW_fma e (fun x => some (h x)) l [] (fun x hx R S hR _ => ht x hx R S (hR _ rfl)) (by simpa using hl) ?_
  rw [List.nil_append, show l.filterMap (fun x => some (h x)) = l.map h by simp [List.filterMap_eq_map']]
  exact q
end
theorem rngX_map (lo : Int) (n : Nat) : rngX lo n = (List.range n).map fun i : Nat => PyData.int (lo + i) := by
  apply List.ext_getElem?
  intro i
  by_cases h : i < n
  · rw [rngX_get n lo i h]
    simp [h]
  · rw [List.getElem?_eq_none (by rw [rngX_length]; omega), List.getElem?_eq_none (by simp; omega)]
theorem ixN_nat {n j : Nat} (h : j < n) : ixN n (j : Int) = some j := by
  unfold ixN
  rw [if_pos (by omega), if_pos (by omega)]
  rfl
theorem cut_hd {α : Type} (xs : List α) {i : Nat} (h : i ≤ xs.length) : cutX xs none (some (i : Int)) = xs.take i := by
  unfold cutX
  rw [HT.sIx_none, HT.sIx_nat, Nat.min_eq_left h]
  simp
theorem cut_tl {α : Type} (xs : List α) {i : Nat} (h : i ≤ xs.length) : cutX xs (some (i : Int)) none = xs.drop i := by
  unfold cutX
  rw [HT.sIx_none, HT.sIx_nat, Nat.min_eq_left h]
  rw [List.take_of_length_le (by simp)]
theorem cut_last {α : Type} (xs : List α) (a : α) : cutX (xs ++ [a]) none (some (-1)) = xs := by
  unfold cutX
  have e : HT.sIx (xs ++ [a]).length (xs ++ [a]).length (some (-1)) = xs.length := by
    unfold HT.sIx
    simp only [List.length_append, List.length_cons, List.length_nil]
    rw [if_pos (by decide)]
    omega
  rw [HT.sIx_none, e]
  simp
theorem eqt_nil {xs : List Px} {P : Rv → Prop} (h : ∀ x ∈ xs, Shp 60 x) : eqD true (.list xs) (.list []) P = P (.d (.bool (!xs.isEmpty))) := by
  have h1 : SeqAt.shaped (.list xs) = true := (Shp.lst h).sh
  have h2 : SeqAt.shaped (.list []) = true := (Shp.lst (n := 60) (xs := []) (by simp)).sh
  simp only [eqD, h1, h2, eqv_nil, true_and, if_true]
theorem slD_l {xs : List Px} {lo hi : Option Int} {k : Rv → Prop} : slD (.list xs) lo hi k = k (.own (cutX xs lo hi)) := rfl
theorem nat_of {j : Int} (h : 0 ≤ j) : ∃ i : Nat, j = (i : Int) := ⟨j.toNat, by omega⟩
/-! ### powers of constants -/
theorem powc {i j v : Int} (h1 : 0 ≤ j) (h2 : (Builtin.Int.intBits i : Int) * j ≤ 2 ^ 27) (h3 : i ^ j.toNat = v) : eOp powD (eC (.int i)) (eC (.int j)) = eC (.int v) := by
  funext c P X
  show ((0 ≤ j ∧ (Builtin.Int.intBits i : Int) * j ≤ 2 ^ 27) ∧ P (.d (.int (i ^ j.toNat))) c) = P (.d (.int v)) c
  rw [h3]
  exact propext ⟨fun h => h.2, fun h => ⟨⟨h1, h2⟩, h⟩⟩
theorem b10 : Builtin.Int.intBits 10 = 4 := by decide
theorem pow12 : eOp powD (eC (.int 10)) (eC (.int 12)) = eC (.int 1000000000000) := powc (by decide) (by rw [b10]; decide) (by decide)
theorem pow18 : eOp powD (eC (.int 10)) (eC (.int 18)) = eC (.int 1000000000000000000) := powc (by decide) (by rw [b10]; decide) (by decide)
/-- the bound on numbers of turns -/
def top60 : Int := 1000000000000000000000000000000000000000000000000000000000000
def top300 : Int := 1000000000000000000000000000000000000000000000000000000000000000000000000000000000000000000000000000000000000000000000000000000000000000000000000000000000000000000000000000000000000000000000000000000000000000000000000000000000000000000000000000000000000000000000000000000000000000000000000000000000000
theorem pow60 : eOp powD (eC (.int 10)) (eC (.int 60)) = eC (.int top60) := powc (by decide) (by rw [b10]; decide) (by decide)
theorem b60 : Builtin.Int.intBits top60 = 200 := by decide +kernel
theorem pow300 : eOp powD (eC (.int top60)) (eC (.int 5)) = eC (.int top300) := powc (by decide) (by rw [b60]; decide) (by decide +kernel)
theorem top300_pos : 1000000000000 < top300 := by decide +kernel
theorem top300_big : top300.natAbs < 2 ^ 9000 := by decide +kernel
/-! ### what comes behind a call, a loop, a comprehension: held back till its turn -/
inductive Tag {α : Type} (a : α) : Type
  | mk
abbrev Hold (C : Cn) (rs : List Rv) (g : Option Nat) (Q : Rv → Option Nat → Prop) (_ : Tag Q) : Prop := C rs g Q
theorem eCallP_eq {Pr : Cn} {f : WA} {c : Cf} {P : Rv → Cf → Prop} {X : XP} : eCallP Pr f c P X = f c (fun rs c1 => Rv.gen ∉ rs ∧ Hold Pr rs none (fun r _ => r ≠ .gen ∧ P r c1) .mk) X := rfl
theorem eCallG_eq {Pr : Cn} {f : WA} {c : Cf} {P : Rv → Cf → Prop} {X : XP} : eCallG Pr f c P X = f c (fun rs c1 => c1.g.isSome = true ∧ Hold Pr rs c1.g (fun r g' => r ≠ .gen ∧ P r { c1 with g := g' }) .mk) X := rfl
theorem sSetG_eq {i : Nat} {Pr : Cn} {fr : WA} {c : Cf} {P : Fl → Prop} {X : XP} : sSetG i Pr fr c P X = fr c (fun rs c1 => Rv.gen ∉ rs ∧ i < c1.env.length ∧ (∀ j, j ≠ i → c1.env[j]? ≠ some (some .gen)) ∧ Hold Pr rs none (fun r g' => r = .gen ∧ ∃ n, g' = some n ∧ P (.nx (putE { c1 with g := some n } i .gen))) .mk) X := rfl
abbrev forH (g : WG) (f : WS) (X : XP) (P : Fl → Prop) (_ : Tag P) (xs : List Px) (c : Cf) : Prop := forW g f X P xs c
theorem sFor_eq {it : WI} {g : WG} {f : WS} {c : Cf} {P : Fl → Prop} {X : XP} : sFor it g f c P X = it c (fun xs c1 => forH g f X P .mk xs c1) X := rfl
abbrev lcH (g : WG) (t : WT) (f : WE) (vs : List Nat) (env : List (Option Rv)) (X : XP) (P : Rv → Cf → Prop) (_ : Tag P) (xs acc : List Px) (gs : Option Nat) : Prop := lcW g t f vs env X P xs acc gs
theorem eLc_eq {it : WI} {g : WG} {t : WT} {f : WE} {vs : List Nat} {c : Cf} {P : Rv → Cf → Prop} {X : XP} : eLc it g t f vs c P X = it c (fun xs c1 => nown c1.env vs ∧ lcH g t f vs c1.env X P .mk xs [] c1.g) X := rfl
end Dl

set_option Elab.async false
set_option maxRecDepth 100000
set_option linter.all false
set_option autoImplicit false
namespace Dl
open PySem PySem.Spec PyProof.Rows L2
section
variable {X : Cx} {Δ : Dx}
theorem cr_repr_bool : CallR X (.builtin "repr") (fun xs H Q => ∃ b, xs = [.bl b] ∧ Q (.str (if b then "True" else "False")) H) := by
  intro pins s σ H xs us Q I r h
  obtain ⟨i, rfl, q⟩ := h
  obtain ⟨u, rfl, e⟩ := vals1 r
  cases e
  exact PySem.P.repr_of_bool ⟨.str _, H, I.tok _, ⟨_, rfl⟩, q⟩
def reprC : CD := fun rs P => match rs with
  | [.d (.bool b)] => P (.d (.str (if b then "True" else "False")))
  | [.d (.int i)] => i.natAbs.log2 < 1920 ∧ P (.d (.str (toString i)))
  | _ => False
theorem cl_repr : ClD X Δ (.builtin "repr") reprC :=
  ⟨_, CallR.or cr_repr_bool SkE.call_repr_int, fun am F σ H c vs rs P Q ok rx ho k => by
    unfold reprC at ho
    split at ho
    · cases rx with
      | d r1 r2 =>
        cases r1
        cases r2
        exact .inl ⟨_, rfl, k _ F _ H ho (Le.refl F) ok (.of (.str _))⟩
    · cases rx with
      | d r1 r2 =>
        cases r1
        cases r2
        exact .inr ⟨_, rfl, ho.1, k _ F _ H ho.2 (Le.refl F) ok (.of (.str _))⟩
    · exact ho.elim⟩
end
end Dl

set_option Elab.async false
set_option maxRecDepth 100000
set_option linter.all false
set_option autoImplicit false
/-! enumerate over a tuple, with one argument -/
namespace Dl
open PySem L2 PySem.Spec PyProof.Rows
abbrev enO (a : Addr) : Obj := { cls := .type "enumerate", data := .fields #[.none, .bool false, .ref a, rawInt 0, .none, .none] }
abbrev ttO (t : Addr) : Obj := { cls := .type "tuple_iterator", data := .fields #[.ref t, .int 0 0] }
set_option maxHeartbeats 1000000 in
theorem meets_enT {v : Value} {o : Obj} {G : Heap → Prop} (B : Begins v o G) : Meets (Builtin.«enumerate.__new__» ⟨[.type "enumerate", v], []⟩) (fun _ R s => G s.heap ∧ R (.ok (.ret (.ref (s.heap.push o).objs.size))) { s with heap := (s.heap.push o).push (enO s.heap.objs.size) }) :=
  .of_wp fun prog w A R s ⟨h1, h⟩ => by
    have su := sub_enumerate
    obtain ⟨hp, gg, dd, tk, os⟩ := s
    have q : ∀ {A' : Around} {E : Value → Shared → Prop} {Q : Value → Shared → Prop}, Q (.ref hp.objs.size) ⟨hp.push o, gg, dd, tk, os⟩ → wpAny (model prog w) A' (pyIter v) Q E ⟨hp, gg, dd, tk, os⟩ := fun z => B.iter prog w _ _ ⟨hp, gg, dd, tk, os⟩ _ h1 z
    wp_walk using q
    refine wpAny_stack_any fun fr => wpAny_pure ?_
    split
    · rename_i cc _ _ _ _ _
      cases (cc == Value.type "enumerate") <;> (wp_walk using q; exact ⟨_, rfl, h⟩)
    · wp_walk using q; exact ⟨_, rfl, h⟩
theorem call_enT {prog : Program} {w : World} {A : Around} {E : Value → Shared → Prop} {s : Shared} {t : Addr} {its : Array Value} {Q : Value → Shared → Prop} (hT : s.heap.IsTuple t its)
    (h : ∀ h', IsEnum h' (s.heap.objs.size + 1) s.heap.objs.size 0 .none → h'.IsTupleIter s.heap.objs.size t 0 → (∀ b o, s.heap.get? b = some o → h'.get? b = some o) → Q (.ref (s.heap.objs.size + 1)) { s with heap := h' }) :
    wpAny (model prog w) A (call (.type "enumerate") [.ref t]) Q E s := by
  refine callType_new F.called_enumerate (by decide) (F.typeCall_enumerate_1 _) (F.newCall_enumerate_1 _) (fun x => F.args_object_init_2 x _) F.entry_enumerate_new (meets_enT (begins_tuple t its)) ⟨hT, ?_⟩
  have hz : (s.heap.push (ttO t)).objs.size = s.heap.objs.size + 1 := Heap.size_push ..
  have he : IsEnum ((s.heap.push (ttO t)).push (enO s.heap.objs.size)) (s.heap.objs.size + 1) s.heap.objs.size 0 .none := by
    have z := Heap.get?_push_size (s.heap.push (ttO t)) (o := enO s.heap.objs.size) rfl
    rw [hz] at z
    exact z
  show _ ∧ _
  rw [hz]
  exact ⟨⟨_, he, rfl⟩, h _ he ⟨_, Heap.get?_push_of_some _ (Heap.get?_push_size _ rfl), rfl, rfl⟩ fun b o x => Heap.get?_push_of_some _ (Heap.get?_push_of_some _ x)⟩
/-- the tuple at a: each item with its number in a new pair -/
def Iet (K : PySem.W.Frag) (a : Addr) : It :=
  ⟨fun i H => ∃ (xs : List V) (x : V), SqT K H a xs ∧ xs[i]? = some x,
   fun i H v H' => ∃ T x, v = .ref T ∧ H T = none ∧ H' = upd H T (.tup [.int (i : Nat), x]) ∧ ∀ xs, SqT K H a xs → xs[i]? = some x,
   fun i H => ∃ xs : List V, SqT K H a xs ∧ xs.length ≤ i⟩
theorem turn_enT {P : Program} {w : World} {K : PySem.W.Frag} {elts : List Expr} {kk : Nat} {tpos : Pos} (a e it : Addr) :
    Turn P w K (.Tuple elts kk tpos) (Iet K a) [e, it] e (fun i h => (∃ old, IsEnum h e it ((i : Nat) : Int) old) ∧ h.IsTupleIter it a i ∧ e ≠ it) where
  mem := by simp
  obj := fun i h st b hb => by
    obtain ⟨⟨u, he⟩, ⟨o, ho, _, hd⟩, _⟩ := st
    rcases (by simpa using hb : b = e ∨ b = it) with rfl | rfl
    · exact ⟨_, he, fun v q => nomatch q⟩
    · exact ⟨o, ho, fun v q => by rw [hd] at q; cases q⟩
  keep := fun i h h' ⟨⟨u, he⟩, hi, hne⟩ k => ⟨⟨u, k e (by simp) _ he⟩, hi.at fun o q => k it (by simp) o q, hne⟩
  item := by
    intro X hP hw hK hc i pins s σ H E I hf st hg
    subst hP hw hK
    obtain ⟨⟨u, he⟩, hit, hne⟩ := st
    obtain ⟨xs, x, hq, hx⟩ := hg
    obtain ⟨its, rv, p, hz⟩ := I.tuple hq
    obtain ⟨y, hy, ry⟩ := rv.get hx
    have hel : e < s.heap.objs.size := Heap.lt_size he
    have hil : it < s.heap.objs.size := by obtain ⟨_, q, _⟩ := hit; exact Heap.lt_size q
    have hT : s.heap.IsTuple a its.toArray := p
    have hd : X.A.in1.handled = none := I.ok.hd hc
    have hae : e ≠ a := fun z => by
      subst z
      obtain ⟨o, q, c1, _⟩ := hT
      rw [he] at q
      cases q
      revert c1
      simp
    have hai : a ≠ it := fun z => by
      subst z
      obtain ⟨o, q, c1, _⟩ := hT
      obtain ⟨o', q', c2, _⟩ := hit
      rw [q] at q'
      cases q'
      rw [c1] at c2
      revert c2
      simp
    have hlt : i < its.toArray.size := by
      have := (List.getElem?_eq_some_iff.mp hy).1
      simpa using this
    refine wpAny_pyNext_enum_itemD (Draws.tuple hd it a hai its.toArray) he ⟨hit, hT⟩ hlt hne (by simp [hne, hae]) fun z h' tk hz' ho st' hN hsz hk => ?_
    have ez : z = y := by
      have q : its[i]? = some z := by simpa using hz'
      rw [hy] at q
      exact (Option.some.inj q).symm
    subst ez
    refine ⟨_, rfl, wpAny_letOwnedTupleGo_enum (s := { s with heap := h', toks := tk + 1 }) ho fun h'' he' sb => ?_⟩
    have hN2 : h''.get? s.heap.objs.size = some { cls := .type "tuple", data := .seq #[.int i tk, z] } := (sb.2 _ (Nat.ne_of_gt hel)).trans hN
    have new : ObjOk X.prog X.w (upd H s.heap.objs.size (.tup [.int (i : Nat), x])) h'' s.heap.objs.size (.tup [.int (i : Nat), x]) := ⟨by show 2 ≤ sizeLine; decide, [.int i tk, z], .cons ⟨_, rfl⟩ (.cons ry .nil), ⟨_, hN2, rfl, _, rfl⟩⟩
    have I1 : Inv X pins σ (upd H s.heap.objs.size (.tup [.int (i : Nat), x])) { s with heap := h'', toks := tk + 1 } :=
      I.turnedNew (ch := [e, it]) (fun b ob hb q => (sb.2 b (fun z => hb (by simp [z]))).trans (hk b ob (fun z => hb (by simp [z])) (fun z => hb (by simp [z])) q)) hf (Nat.le_refl _) new
    refine ⟨.ref s.heap.objs.size, _, I1, rfl, ⟨_, x, rfl, I.hok.fresh (Nat.le_refl _), rfl, fun ys hy => by rw [I.tuple_inj hy hq]; exact hx⟩, ⟨⟨z, ?_⟩, st'.1.at fun o q => (sb.2 it (Ne.symm hne)).trans q, hne⟩, fun b hb => ?_⟩
    · rw [show ((i + 1 : Nat) : Int) = (i : Int) + 1 by omega]
      exact he'
    · have hb' : b < s.heap.objs.size := by
        rcases (by simpa using hb : b = e ∨ b = it) with rfl | rfl
        · exact hel
        · exact hil
      rw [upd_ne (Nat.ne_of_lt hb')]
      exact (hf b hb).1
  done := by
    intro X hP hw hK hc i pins s σ H E I hf st hg
    subst hP hw hK
    obtain ⟨⟨u, he⟩, hit, hne⟩ := st
    obtain ⟨xs, hq, hx⟩ := hg
    obtain ⟨its, rv, p, hz⟩ := I.tuple hq
    obtain ⟨f0, f1, f2, f3, f4, f5⟩ := hf it (by simp)
    have hl := rv.length
    have hT : s.heap.IsTuple a its.toArray := p
    have hd : X.A.in1.handled = none := I.ok.hd hc
    have D : Draws X.prog X.w X.A.in1 it [it, a] i (fun _ _ => True) (fun j h => j = i ∧ h.IsTupleIter it a i ∧ h.IsTuple a its.toArray) :=
      { live := fun _ _ ⟨_, ⟨o, ho, _⟩, _⟩ => ⟨o, ho⟩
        frame := fun _ _ _ ⟨z, u1, u2⟩ k => ⟨z, u1.at fun o q => k it (by simp) o q, u2.at fun o q => k a (by simp) o q⟩
        item := fun j _ _ _ lt ⟨z, _⟩ => absurd lt (by omega)
        done := fun s Q E ⟨_, u1, u2⟩ k => wpAny_nextOf_tuple_end hd u1 u2 (by simp; omega) k }
    exact wpAny_pyNext_enum_endD D he ⟨rfl, hit, hT⟩ fun h' eb => ⟨rfl, I.turned (t' := s.toks) (fun b o hb q => eb b o hb q) f0 f1 f3 f4 f5⟩
  self := fun A i s Q E ⟨⟨_, he⟩, _⟩ h => wpAny_pyIter_enum he h
def iEnT (K : PySem.W.Frag) (ta : TA) : TI := fun σ H R => ta σ H fun vs H1 => ∃ a xs, vs = [.ref a] ∧ SqT K H1 a xs ∧ R (Iet K a) H1
theorem pi_enT {X : Cx} {e : Expr} {ta : TA} {p pos tpos : Pos} {elts : List Expr} {kk : Nat} (hg : Gl X "enumerate") (hm : X.mg "enumerate" = none) (ha : PA X [e] ta) (hs : starEach [e] X.env = [(false, eval e X.env)] := by rfl) :
    PI X (.Tuple elts kk tpos) (.Call (.Name "enumerate" p) [e] [] pos) (iEnT X.K ta) := by
  refine ⟨fun pins s σ H R I h => Call_ (ld_blt I hg hm boot_enumerate (PyProof.Rows.callWith_type1 (thn (ha.run pos pins s σ H _ I h) fun us s1 ⟨vs, H1, I1, r1, a, xs, ex, hq, q⟩ => ?_) hs rfl))⟩
  subst ex
  cases r1 with
  | cons r rr =>
    cases rr
    cases r
    obtain ⟨its, rv, p', hz⟩ := I1.tuple hq
    refine call_enT (show s1.heap.IsTuple a its.toArray from p') fun h' he hit hk => wpAny_pyIter_enum he ?_
    have I2 : Inv X pins σ H1 { s1 with heap := h' } := I1.kept (t' := s1.toks) hk
    refine ⟨s1.heap.objs.size + 1, [s1.heap.objs.size + 1, s1.heap.objs.size], _, _, H1, rfl, I2, turn_enT a (s1.heap.objs.size + 1) s1.heap.objs.size, ⟨⟨.none, he⟩, hit, Nat.succ_ne_self _⟩, fun b hb => ?_, q⟩
    have le : s1.heap.objs.size ≤ b := by
      rcases (by simpa using hb : b = s1.heap.objs.size + 1 ∨ b = s1.heap.objs.size) with z | z <;> rw [z]
      exact Nat.le_succ _
      exact Nat.le_refl _
    exact I1.fpOk le (I1.hok.fresh le)
theorem walk_enT {K : PySem.W.Frag} {a : Addr} {xs : List V} : L2.Walk (Iet K a) xs.length (fun H => SqT K H a xs) (YPair (fun i => some (.int (i : Nat))) (fun i => xs[i]?)) :=
  ⟨fun i _ hi q => ⟨xs, xs[i], q, by simp [hi]⟩, fun _ q => ⟨xs, q, Nat.le_refl _⟩, fun i H v H' _ q ⟨T, x, h1, h2, h3, h4⟩ => ⟨T, .int (i : Nat), x, h1, h2, h3, rfl, h4 xs q⟩⟩
section
variable {X : Cx} {Δ : Dx} {a b e : Expr} {fa fb fc : WE} {pos : Pos} {es : List Expr} {fr : WA}
theorem walk_eT {K : PySem.W.Frag} {F : Hp} {a : Addr} {vs : List V} {xs : List Px} (e : F a = some (.tup vs)) (r : RpA F vs xs) : WalkX (Iet K a) (enumX 0 xs) F := by
  have w' := (walk_enT (K := K) (a := a) (xs := vs)).mono (G' := fun H => Le F H) (Y' := YD F (enumX 0 xs)) (fun H h => SqT.of (h _ _ e)) fun i H v H' hi _ ⟨T, y, z, h1, h2, h3, h4, h5⟩ => by
    obtain ⟨x, q1, q2⟩ := r.getV h5
    cases Option.some.inj h4
    refine ⟨_, enumX_get xs 0 i x q1, .inr ⟨T, _, _, h1, h2, h3, rfl, .cons ?_ (.one q2)⟩⟩
    rw [Int.zero_add]
    exact .int _
  unfold WalkX
  rw [enumX_length 0 xs, ← r.length]
  exact w'
def iEnmT (f : WA) : WI := fun c P X => f c (fun rs c1 => match rs with
  | [.d (.tuple xs)] => P (enumX 0 xs) c1
  | _ => False) X
theorem di_enT {p tpos : Pos} {elts : List Expr} {kk : Nat} (hK : Δ.K = X.K) (hg : Gl X "enumerate") (hm : X.mg "enumerate" = none) (ha : PA X [a] (tA Δ fr)) (hs : starEach [a] X.env = [(false, eval a X.env)] := by rfl) :
    PI X (.Tuple elts kk tpos) (.Call (.Name "enumerate" p) [a] [] pos) (tI Δ (iEnmT fr)) := by
  refine (pi_enT hg hm ha hs).imp fun σ H R ⟨am, F, c, P, XX, ok, hf, kq, kx⟩ => ⟨am, F, c, _, XX, ok, hf, fun rs c1 F1 vs H1 p1 l1 o1 s1 => ?_, kx⟩
  split at p1
  · cases s1 with
    | d r s =>
      cases s
      cases r with
      | tup e r1 => exact ⟨_, _, rfl, SqT.of (o1.fh _ _ e), kq _ c1 F1 H1 _ p1 l1 o1 (walk_eT e r1)⟩
  · exact p1.elim
end
section
variable {X : Cx} {Δ : Dx} {pos : Pos}
theorem de_glob {x : Str} {i : Int} (hm : ∃ t, X.mg x = some (.int i t)) (hg : Gl X x := by rfl) (hd : (x == ("__debug__" : Str)) = false := by decide) : PE X (.Name x pos) (tE Δ (eC (.int i))) := by
  obtain ⟨t, h⟩ := hm
  exact (pe_glob (v := .int i) hg h ⟨t, rfl⟩ hd).imp fun σ H Q ⟨am, F, c, P, XX, ok, hf, kq, kx⟩ => kq _ c F _ H hf (Le.refl F) ok (.of (.int _))
end
theorem min2C_i {i j : Int} {P : Rv → Prop} : min2C [.d (.int i), .d (.int j)] P = P (.d (.int (if j < i then j else i))) := rfl
theorem lenC_s {ns : List Int} {P : Rv → Prop} : lenC [.scr ns] P = P (.d (.int ns.length)) := rfl
theorem strOk_of (s : String) : PyData.strOk (Str.ofString s) = true := by
  rw [Str.ofString_eq_toList]
  simp only [PyData.strOk, List.all_toArray, List.all_map, List.all_eq_true, Function.comp, decide_eq_true_eq]
  intro c _
  have := c.valid
  unfold UInt32.isValidChar Nat.isValidChar at this
  unfold Char.toNat
  omega
def rb (b : Bool) : Str := if b then "True" else "False"
def ri (i : Int) : Str := toString i
theorem rb_ok (b : Bool) : PyData.strOk (rb b) = true := by cases b <;> exact strOk_of _
theorem ri_ok (i : Int) : PyData.strOk (ri i) = true := strOk_of _
theorem reprC_b {b : Bool} {P : Rv → Prop} : reprC [.d (.bool b)] P = P (.d (.str (rb b))) := rfl
theorem reprC_i {i : Int} {P : Rv → Prop} : reprC [.d (.int i)] P = (i.natAbs.log2 < 1920 ∧ P (.d (.str (ri i)))) := rfl
theorem sh_str {s : Str} (h : PyData.strOk s = true) : SeqAt.shaped (.str s) = true := by simp [SeqAt.shaped, PyData.canLay0, PyData.depth, h]
theorem eqv_rb (b c : Bool) : PyData.eqv (.str (rb b)) (.str (rb c)) = (b == c) := by
  cases b <;> cases c <;> decide +kernel
theorem eqt_rb {b c : Bool} {P : Rv → Prop} : eqD true (.str (rb b)) (.str (rb c)) P = P (.d (.bool (!(b == c)))) := by simp only [eqD, sh_str (rb_ok _), eqv_rb, true_and]; rfl
theorem eqf_rb {b c : Bool} {P : Rv → Prop} : eqD false (.str (rb b)) (.str (rb c)) P = P (.d (.bool (b == c))) := by simp only [eqD, sh_str (rb_ok _), eqv_rb, true_and]; rfl
theorem eqt_ri {i : Int} {P : Rv → Prop} : eqD true (.str (ri i)) (.str (ri i)) P = P (.d (.bool false)) := by
  have e : PyData.eqv (.str (ri i)) (.str (ri i)) = true := by simp [PyData.eqv]
  simp only [eqD, sh_str (ri_ok _), e, true_and]; rfl
theorem slD_t {xs : List Px} {lo hi : Option Int} {k : Rv → Prop} : slD (.tuple xs) lo hi k = k (.d (.tuple (cutX xs lo hi))) := rfl
theorem cut_mem {α : Type} {xs : List α} {lo hi : Option Int} {x : α} (h : x ∈ cutX xs lo hi) : x ∈ xs := List.mem_of_mem_drop (List.mem_of_mem_take h)
theorem cut_le {α : Type} (xs : List α) (lo hi : Option Int) : (cutX xs lo hi).length ≤ xs.length := by
  unfold cutX
  rw [List.length_take, List.length_drop]
  omega
end Dl

set_option Elab.async false
set_option maxRecDepth 100000
set_option linter.all false
set_option autoImplicit false
/-! repr of tuples of plain data, where no repr is under way -/
namespace Dl
open PySem PySem.Spec PyProof.Rows L2
theorem ok_app (a b : Str) : PyData.strOk (a ++ b) = (PyData.strOk a && PyData.strOk b) := by
  show ((a.cps ++ b.cps).all fun c => decide (c < 0x110000)) = _
  rw [Array.all_append]
  rfl
theorem ok_join : ∀ {ts : List Str}, (∀ t ∈ ts, PyData.strOk t = true) → PyData.strOk (Str.join ", " ts) = true
  | [], _ => strOk_of ""
  | [x], h => h x (by simp)
  | x :: y :: r, h => by
    show PyData.strOk (x ++ ", " ++ Str.join ", " (y :: r)) = true
    rw [ok_app, ok_app, h x (by simp), ok_join fun t ht => h t (by simp only [List.mem_cons] at ht ⊢; exact .inr ht)]
    have : PyData.strOk (", " : Str) = true := strOk_of ", "
    rw [this]
    rfl
theorem ok_tuple {ts : List Str} (h : ∀ t ∈ ts, PyData.strOk t = true) : PyData.strOk (tupleText ts) = true := by
  unfold tupleText
  rw [ok_app, ok_app, ok_join h]
  have h1 : PyData.strOk ("(" : Str) = true := strOk_of "("
  have h2 : ∀ b : Bool, PyData.strOk (if b = true then ",)" else ")" : String) = true := fun b => by cases b <;> exact strOk_of _
  rw [h1, h2]
  rfl
/-- e: how deep, b: how long its text is at most -/
structure Sho (e b : Nat) (d : Px) : Prop where
  sh : d.showable = true
  nd : d.hasDict = false
  dp : d.depth ≤ e
  ln : d.shown.length ≤ b
  ok : PyData.strOk d.shown = true
theorem Sho.int {e : Nat} {i : Int} (h : i.natAbs.log2 < 1920) : Sho e 1921 (.int i) := ⟨by simp [PyData.showable, h], rfl, Nat.zero_le _, int_text_len_1921 h, ri_ok i⟩
theorem Sho.mono {e b e' b' : Nat} {d : Px} (h : Sho e b d) (h1 : e ≤ e') (h2 : b ≤ b') : Sho e' b' d := ⟨h.sh, h.nd, Nat.le_trans h.dp h1, Nat.le_trans h.ln h2, h.ok⟩
theorem sho_all {e b : Nat} : ∀ {xs : List Px}, (∀ x ∈ xs, Sho e b x) → PyData.showableAll xs = true ∧ PyData.hasDictAll xs = false ∧ PyData.depthAll xs ≤ e ∧ ((PyData.shownAll xs).map (·.length)).sum ≤ xs.length * b ∧ (PyData.shownAll xs).length = xs.length ∧ ∀ t ∈ PyData.shownAll xs, PyData.strOk t = true
  | [], _ => ⟨rfl, rfl, Nat.zero_le _, by simp [PyData.shownAll], rfl, fun t h => by cases h⟩
  | x :: xs, h => by
    obtain ⟨h1, h2, h3, h4, h5, h6⟩ := sho_all (xs := xs) fun y hy => h y (List.mem_cons_of_mem _ hy)
    have hx := h x List.mem_cons_self
    refine ⟨by simp [PyData.showableAll, hx.sh, h1], by simp [PyData.hasDictAll, hx.nd, h2], ?_, ?_, by simp [PyData.shownAll, h5], fun t ht => ?_⟩
    · have := hx.dp
      simp only [PyData.depthAll]
      omega
    · have := hx.ln
      simp only [PyData.shownAll, List.map_cons, List.sum_cons, List.length_cons, Nat.succ_mul]
      omega
    · rcases List.mem_cons.mp ht with rfl | ht
      · exact hx.ok
      · exact h6 t ht
theorem Sho.tup {e b n : Nat} {xs : List Px} (h : ∀ x ∈ xs, Sho e b x) (hl : xs.length ≤ n) : Sho (e + 1) (n * b + 2 * n + 3) (.tuple xs) := by
  obtain ⟨h1, h2, h3, h4, h5, h6⟩ := sho_all h
  refine ⟨by simpa [PyData.showable] using h1, by simpa [PyData.hasDict] using h2, ?_, ?_, ok_tuple h6⟩
  · simp only [PyData.depth]
    omega
  · have t := tupleText_len_le (PyData.shownAll xs)
    have m : xs.length * b ≤ n * b := Nat.mul_le_mul_right b hl
    show (tupleText (PyData.shownAll xs)).length ≤ _
    omega
section
variable {X : Cx} {Δ : Dx}
theorem cr_repr_tup (hg : X.A.guards = some []) (hu : X.A.units + 64 < cLine) : CallR X (.builtin "repr") (fun vs H Q => ∃ v xs, vs = [v] ∧ Dp X.K H v (.tuple xs) ∧ Sho 40 1000000 (.tuple xs) ∧ Q (.str (PyData.shown (.tuple xs))) H) := by
  intro pins s σ H vs us Q I r h
  obtain ⟨v, xs, rfl, hd, hs, q⟩ := h
  cases r with
  | cons r rr =>
    cases rr
    obtain ⟨as, rd⟩ := Dp.reads I _ _ _ hd r
    have hd' := hd
    cases hd' with
    | tup e1 e2 =>
      cases r
      refine repr_of_reads' rd hs.sh (fun z => by rw [hs.nd] at z; cases z) hg (by have := hs.dp; omega) (fun _ _ e => e) (fun h' u tk k => ?_) (Nat.le_trans hs.ln (by rw [sizeLine_eq]; decide))
      exact ⟨.str _, H, I.kept (t' := tk) k, ⟨_, rfl⟩, q⟩
def reprA : CD := fun rs P => match rs with
  | [.d (.bool b)] => P (.d (.str (rb b)))
  | [.d (.int i)] => i.natAbs.log2 < 1920 ∧ P (.d (.str (ri i)))
  | [.d (.tuple xs)] => Sho 40 1000000 (.tuple xs) ∧ P (.d (.str (PyData.shown (.tuple xs))))
  | _ => False
theorem cl_reprA {k : Nat} (hr : RoomG k X.A) (hK : Δ.K = X.K) : ClD X Δ (.builtin "repr") reprA :=
  ⟨_, CallR.or (CallR.or cr_repr_bool SkE.call_repr_int) (cr_repr_tup hr.gd hr.units), fun am F σ H c vs rs P Q ok rx ho k => by
    unfold reprA at ho
    split at ho
    · cases rx with
      | d r1 r2 =>
        cases r1
        cases r2
        exact .inl (.inl ⟨_, rfl, k _ F _ H ho (Le.refl F) ok (.of (.str _))⟩)
    · cases rx with
      | d r1 r2 =>
        cases r1
        cases r2
        exact .inl (.inr ⟨_, rfl, ho.1, k _ F _ H ho.2 (Le.refl F) ok (.of (.str _))⟩)
    · cases rx with
      | d r1 r2 =>
        cases r2
        exact .inr ⟨_, _, rfl, r1.dp ok.fh, ho.1, k _ F _ H ho.2 (Le.refl F) ok (.of (.str _))⟩
    · exact ho.elim⟩
end
theorem reprA_b {b : Bool} {P : Rv → Prop} : reprA [.d (.bool b)] P = P (.d (.str (rb b))) := rfl
theorem reprA_i {i : Int} {P : Rv → Prop} : reprA [.d (.int i)] P = (i.natAbs.log2 < 1920 ∧ P (.d (.str (ri i)))) := rfl
theorem reprA_t {xs : List Px} {P : Rv → Prop} : reprA [.d (.tuple xs)] P = (Sho 40 1000000 (.tuple xs) ∧ P (.d (.str (PyData.shown (.tuple xs))))) := rfl
theorem eqt_sh {d : Px} {e b : Nat} (h : Sho e b d) {P : Rv → Prop} : eqD true (.str (PyData.shown d)) (.str (PyData.shown d)) P = P (.d (.bool false)) := by
  have e : PyData.eqv (.str (PyData.shown d)) (.str (PyData.shown d)) = true := by simp [PyData.eqv]
  simp only [eqD, sh_str h.ok, e, true_and]
  rfl
end Dl

set_option Elab.async false
set_option maxRecDepth 100000
set_option linter.all false
set_option autoImplicit false
/-! sorted: ints, and tuples of ints -/
namespace Dl
open PySem PySem.Spec PyProof.Rows L2
section
variable {X : Cx} {Δ : Dx}
theorem RpA.of_ints {F : Hp} : ∀ ns : List Int, RpA F (ns.map V.int) (ns.map .int)
  | [] => .nil
  | n :: ns => .cons (.int n) (RpA.of_ints ns)
def sortIC : CD := fun rs P => match rs with
  | [.d (.list xs)] => ∃ ns : List Int, xs = ns.map .int ∧ ∀ ms : List Int, ms.Perm ns → ms.Pairwise (· ≤ ·) → P (.own (ms.map .int))
  | _ => False
theorem cl_sortI (hK : Δ.K = X.K) : ClD X Δ (.builtin "sorted") sortIC :=
  ⟨_, cr_sortedI, fun am F σ H c vs rs P Q ok rx ho k => by
    unfold sortIC at ho
    split at ho
    · obtain ⟨ns, rfl, ho⟩ := ho
      cases rx with
      | d r s =>
        cases s
        cases r with
        | lst e r1 =>
          have z := r1.ints
          subst z
          refine ⟨_, ns, rfl, SqL.of (ok.fh _ _ e), fun ms p h1 h2 hp => ?_⟩
          obtain ⟨o', rs⟩ := Rs.fresh ok hp (RpA.of_ints ms)
          exact k _ F _ _ (ho ms h1 h2) (Le.refl F) o' rs
    · exact ho.elim⟩
end
/-! tuples of ints -/
abbrev shI : Nat → Bool := fun _ => false
theorem keys_ints : ∀ {ns : List Int} {us : List Value} (i : Nat), Vals (ns.map V.int) us → tupItems shI i us = some (ns.map Sum.inl)
  | [], _, _, .nil => rfl
  | n :: ns, _, i, .cons r t => by
    obtain ⟨k, rfl⟩ := r
    show (tupItems shI (i + 1) _).map (Sum.inl n :: ·) = _
    rw [keys_ints (i + 1) t]
    rfl
structure TV (H : Hp) (k : V → List Int) (y : V) : Prop where
  ne : k y ≠ []
  at_ : ∃ t, y = .ref t ∧ H t = some (.tup ((k y).map V.int))
abbrev hd0 (l : List Int) : Int := l.headD 0
theorem lex_head {a b : List Int} (ha : a ≠ []) (hb : b ≠ []) (h : lexLt itemOrd (b.map Sum.inl) (a.map Sum.inl) = false) : hd0 a ≤ hd0 b := by
  match a, b, ha, hb with
  | x :: a, y :: b, _, _ =>
    simp only [List.map_cons] at h
    rw [lex_cons] at h
    have h1 := (Bool.or_eq_false_iff.mp h).1
    have h2 : decide (y < x) = false := h1
    have := of_decide_eq_false h2
    show x ≤ y
    omega
section
variable {X : Cx} {Δ : Dx}
theorem cr_sortT : CallR X (.builtin "sorted") (fun vs H Q => ∃ (a : Addr) (ys : List V) (k : V → List Int), vs = [.ref a] ∧ SqL X.K H a ys ∧ (∀ y ∈ ys, TV H k y) ∧
    ∀ (zs : List V) (p : Addr), zs.Perm ys → zs.Pairwise (fun x y => hd0 (k x) ≤ hd0 (k y)) → H p = none → Q (.ref p) (upd H p (.lst zs))) := by
  intro pins s σ H vs us Q I r h
  obtain ⟨a, ys, k, rfl, hs, hy, q⟩ := h
  obtain ⟨its, rv, hl, hz⟩ := I.list hs
  obtain ⟨u, rfl, ru⟩ := vals1 r
  obtain rfl : u = Value.ref a := ru
  obtain ⟨e1, e2⟩ := refs_back rv fun x m => by
    obtain ⟨t, e, _⟩ := (hy x m).at_
    exact ⟨t, e⟩
  have at_of : ∀ v ∈ its, k (backV v) ≠ [] ∧ ∃ t o n us, v = .ref t ∧ s.heap.get? t = some o ∧ o.cls = .type "tuple" ∧ o.data = .seq us n ∧ Vals ((k (backV v)).map V.int) us.toList := fun v hv => by
    obtain ⟨t, rfl⟩ := e2 v hv
    have hm : V.ref t ∈ ys := by rw [e1]; exact List.mem_map.mpr ⟨_, hv, rfl⟩
    obtain ⟨ne, t', e, ht⟩ := hy _ hm
    cases e
    obtain ⟨_, its2, r2, o, ho, hc, n, hd⟩ := I.hok _ _ ht
    exact ⟨ne, t, o, n, its2.toArray, rfl, ho, hc, hd, by rw [List.toList_toArray]; exact r2⟩
  have key_of : ∀ v ∈ its, G.tupKeyC s.heap shI v = some ((k (backV v)).map Sum.inl) := fun v hv => by
    obtain ⟨ne, t, o, n, us, rfl, ho, hc, hd, r2⟩ := at_of v hv
    exact G.tupKeyC_of ho hc hd (keys_ints 0 r2)
  have tups : ∀ l : List Value, (∀ v ∈ l, v ∈ its) → ∃ fs, TupsOf s.heap shI l fs := fun l => by
    induction l with
    | nil => exact fun _ => ⟨[], .nil⟩
    | cons v l ih =>
      intro hv
      obtain ⟨fs, hf⟩ := ih fun w hw => hv w (List.mem_cons_of_mem _ hw)
      obtain ⟨ne, t, o, n, us, rfl, ho, hc, hd, r2⟩ := at_of v (hv v List.mem_cons_self)
      generalize k (backV (Value.ref t)) = ks at ne r2
      match ks, ne with
      | x :: ks, _ =>
        obtain ⟨l⟩ := us
        cases r2 with
        | cons r3 r4 =>
          obtain ⟨tk, rfl⟩ := r3
          exact ⟨_, .cons ⟨t, o, _, n, rfl, ho, hc, hd, rfl, fun _ => ⟨_, _, rfl⟩, fun z => by cases z⟩ hf⟩
  obtain ⟨fs, hf⟩ := tups its fun v h => h
  have hlen := rv.length
  refine G.sorted_tups hl.isList hf (fun v hv => ⟨_, key_of v hv⟩) (by rw [← hlen]; exact hz) fun st' hp hsort _ => ?_
  have hl2 : (arrOf st').toList.Perm (its.zip its) := by
    have z := hp.toList
    rw [pairsOf_toList] at z
    exact z
  have zip_mem : ∀ (l : List Value) (p : Keyed), p ∈ l.zip l → p.1 = p.2 ∧ p.2 ∈ l := fun l => by
    induction l with
    | nil => intro p h; cases h
    | cons v l ih =>
      intro p h
      rcases List.mem_cons.mp h with rfl | h
      · exact ⟨rfl, List.mem_cons_self⟩
      · exact ⟨(ih p h).1, List.mem_cons_of_mem _ (ih p h).2⟩
  have zip_snd : ∀ l : List Value, (l.zip l).map (·.2) = l := fun l => by
    induction l with
    | nil => rfl
    | cons v l ih =>
      show v :: (l.zip l).map (·.2) = _
      rw [ih]
  have same : ∀ p ∈ (arrOf st').toList, p.1 = p.2 ∧ p.2 ∈ its := fun p h => zip_mem its p (hl2.mem_iff.mp h)
  have ho : ((arrOf st').map (·.2)).toList.Perm its := by
    rw [Array.toList_map]
    have z := hl2.map (·.2)
    rw [zip_snd] at z
    exact z
  obtain ⟨ep, he⟩ := sortedAll_at s.heap its ((arrOf st').map (·.2))
  have hall : ∀ u ∈ ((arrOf st').map (·.2)).toList, ∃ a, u = Value.ref a := fun u hu => e2 u (ho.mem_iff.mp hu)
  refine ⟨.ref _, upd H (s.heap.objs.size + 1) (.lst (((arrOf st').map (·.2)).toList.map backV)), I.laid (t' := s.toks) (fun _ _ => sortedAll_old) (Nat.le_succ _) ⟨?_, _, ep, vals_back hall, he⟩, rfl, q _ _ ?_ ?_ (I.hok.fresh (Nat.le_succ _))⟩
  · rw [List.length_map, ho.length_eq, ← hlen]
    exact hz
  · rw [e1]
    exact ho.map backV
  · rw [Array.toList_map, List.map_map, List.pairwise_map, List.pairwise_iff_getElem]
    intro i j hi hj hij
    have mi := same _ (List.getElem_mem hi)
    have mj := same _ (List.getElem_mem hj)
    have sz : (pairsOf its).size = (arrOf st').toList.length := by rw [pairsOf_size, hl2.length_eq]; simp
    have kk := hsort i j (Nat.le_of_lt hij) (by rw [sz]; exact hj)
    have ki : ∀ (i : Nat) (hi : i < (arrOf st').toList.length), KK (G.tupKindC s.heap shI) (arrOf st') i = (k (backV (arrOf st').toList[i].2)).map Sum.inl := fun i hi => by
      have m := same _ (List.getElem_mem hi)
      have e : (arrOf st')[i]? = some (arrOf st').toList[i] := by simp
      unfold KK
      rw [e]
      show (G.tupKeyC s.heap shI (arrOf st').toList[i].1).getD [] = _
      rw [m.1, key_of _ m.2]
      rfl
    rw [ki i hi, ki j hj] at kk
    exact lex_head (at_of _ mi.2).1 (at_of _ mj.2).1 kk
end
def tupI (l : List Int) : Px := .tuple (l.map .int)
def vInt : V → Int
  | .int i => i
  | _ => 0
theorem vInt_map : ∀ l : List Int, (l.map V.int).map vInt = l
  | [] => rfl
  | x :: l => congrArg (x :: ·) (vInt_map l)
/-- the ints of the tuple that v names -/
def kV (F : Hp) : V → List Int
  | .ref t => (match F t with
    | some (.tup ws) => ws.map vInt
    | _ => [])
  | _ => []
theorem kV_of {F : Hp} {v : V} {l : List Int} (r : Rp F v (tupI l)) : kV F v = l ∧ ∃ t, v = .ref t ∧ F t = some (.tup (l.map V.int)) := by
  unfold tupI at r
  cases r with
  | tup e r1 =>
    have z := r1.ints
    subst z
    refine ⟨?_, _, rfl, e⟩
    unfold kV
    simp only [e]
    exact vInt_map l
theorem kV_all {F : Hp} : ∀ {ls : List (List Int)} {vs : List V}, RpA F vs (ls.map tupI) → vs.map (kV F) = ls ∧ ∀ v ∈ vs, Rp F v (tupI (kV F v))
  | [], _, .nil => ⟨rfl, fun v h => by cases h⟩
  | l :: ls, _, .cons r t => by
    obtain ⟨h1, h2⟩ := kV_all t
    have e := (kV_of r).1
    refine ⟨by rw [List.map_cons, h1, e], fun v hv => ?_⟩
    rcases List.mem_cons.mp hv with rfl | hv
    · rw [e]
      exact r
    · exact h2 v hv
theorem RpA.of_kV {F : Hp} : ∀ {vs : List V}, (∀ v ∈ vs, Rp F v (tupI (kV F v))) → RpA F vs ((vs.map (kV F)).map tupI)
  | [], _ => .nil
  | v :: vs, h => .cons (h v List.mem_cons_self) (RpA.of_kV fun w hw => h w (List.mem_cons_of_mem _ hw))
def sortTC : CD := fun rs P => match rs with
  | [.d (.list xs)] => ∃ ls : List (List Int), xs = ls.map tupI ∧ (∀ l ∈ ls, l ≠ []) ∧ ∀ ms : List (List Int), ms.Perm ls → ms.Pairwise (fun x y => hd0 x ≤ hd0 y) → P (.own (ms.map tupI))
  | _ => False
section
variable {X : Cx} {Δ : Dx}
theorem cl_sortT (hK : Δ.K = X.K) : ClD X Δ (.builtin "sorted") sortTC :=
  ⟨_, cr_sortT, fun am F σ H c vs rs P Q ok rx ho k => by
    unfold sortTC at ho
    split at ho
    · obtain ⟨ls, rfl, hne, ho⟩ := ho
      cases rx with
      | d r s =>
        cases s
        cases r with
        | lst e r1 =>
          obtain ⟨h1, h2⟩ := kV_all r1
          refine ⟨_, _, kV F, rfl, SqL.of (ok.fh _ _ e), fun y hy => ?_, fun zs p hp hs hn => ?_⟩
          · obtain ⟨_, t, e1, e2⟩ := kV_of (h2 y hy)
            refine ⟨?_, t, e1, ok.fh _ _ e2⟩
            refine hne _ ?_
            rw [← h1]
            exact List.mem_map.mpr ⟨y, hy, rfl⟩
          · obtain ⟨o', rs⟩ := Rs.fresh ok hn (RpA.of_kV fun v hv => h2 v (hp.mem_iff.mp hv))
            refine k _ F _ _ (ho (zs.map (kV F)) ?_ (List.pairwise_map.mpr hs)) (Le.refl F) o' rs
            rw [← h1]
            exact hp.map _
    · exact ho.elim⟩
end
end Dl

set_option Elab.async false
set_option maxRecDepth 100000
set_option linter.all false
set_option autoImplicit false
namespace Dl
open PySem L2
section
variable {t : WT} {f : WS} {X : XP} {P : Fl → Prop}
/-- a while loop: I holds ahead of each turn, μ gets less -/
theorem whW_ind (I : Cf → Prop) (μ : Cf → Nat) (hs : ∀ c, I c → ∀ R : Cf → Prop, (∀ c', I c' → μ c' < μ c → R c') →
      t c (fun b c1 => if b = true then f c1 (fun fl => match fl with
        | .nx c2 => R c2
        | .ct c2 => R c2
        | .bk c2 => P (.nx c2)
        | .rt r gs => P (.rt r gs)) X else P (.nx c1)) X) (c : Cf) (h : I c) : ∃ n, whW t f X P n c := by
  have key : ∀ (n : Nat) (c : Cf), I c → μ c < n → whW t f X P n c := by
    intro n
    induction n with
    | zero => exact fun c _ h => absurd h (Nat.not_lt_zero _)
    | succ n ih => exact fun c hI hm => hs c hI (fun c' => whW t f X P n c') fun c' h1 h2 => ih c' h1 (by omega)
  exact ⟨_, key _ c h (Nat.lt_succ_self _)⟩
end
section
variable {g : WG} {t : WT} {f : WE} {vs : List Nat} {env : List (Option Rv)} {X : XP} {P : Rv → Cf → Prop}
/-- a comprehension that keeps some of the items; each turn takes a draw -/
theorem lcW_sub {α : Type} (e : α → Px) (top : Nat) : ∀ (l acc : List α) (n : Nat), (∀ x ∈ l, ∀ (n : Nat) (R : Px → Option Nat → Prop) (S : Option Nat → Prop), n < top → (∀ m : Nat, m ≤ n + 1 → R (e x) (some m)) → (∀ m : Nat, m ≤ n + 1 → S (some m)) → Turn1 g t f vs env X (e x) (some n) R S) →
    n + l.length ≤ top → acc.length + l.length ≤ 1000000 → (∀ (k : List α) (m : Nat), (∀ x ∈ k, x ∈ l) → k.length ≤ l.length → m ≤ n + l.length → P (.own ((acc ++ k).map e)) ⟨env, some m⟩) → lcW g t f vs env X P (l.map e) (acc.map e) (some n)
  | [], acc, n, _, _, _, q => by
    have := q [] n (by simp) (by simp) (by simp)
    rw [List.append_nil] at this
    exact this
  | x :: xs, acc, n, ht, hn, hl, q => by
    simp only [List.length_cons] at hl hn
    refine ht x List.mem_cons_self n (fun y g' => (acc.map e).length < 1000000 ∧ lcW g t f vs env X P (xs.map e) (acc.map e ++ [y]) g') (fun g' => lcW g t f vs env X P (xs.map e) (acc.map e) g') (by omega) (fun m hm => ⟨by simp; omega, ?_⟩) fun m hm => ?_
    · rw [show acc.map e ++ [e x] = (acc ++ [x]).map e by simp]
      refine lcW_sub e top xs (acc ++ [x]) m (fun z hz => ht z (List.mem_cons_of_mem _ hz)) (by omega) (by simp only [List.length_append, List.length_cons, List.length_nil]; omega) fun k m2 h1 h2 h3 => ?_
      rw [List.append_assoc]
      exact q (x :: k) m2 (fun z hz => by
        rcases List.mem_cons.mp hz with rfl | hz
        · exact List.mem_cons_self
        · exact List.mem_cons_of_mem _ (h1 z hz)) (by simp only [List.length_cons]; omega) (by simp only [List.length_cons]; omega)
    · exact lcW_sub e top xs acc m (fun z hz => ht z (List.mem_cons_of_mem _ hz)) (by omega) (by omega) fun k m2 h1 h2 h3 => q k m2 (fun z hz => List.mem_cons_of_mem _ (h1 z hz)) (by simp only [List.length_cons]; omega) (by simp only [List.length_cons]; omega)
end
end Dl

set_option Elab.async false
set_option maxRecDepth 100000
set_option linter.all false
set_option autoImplicit false
set_option maxHeartbeats 4000000
namespace K
open PySem L2 Dl
structure Tie where
  v : Int
  w : Int
  p : Int
  q : Int
structure Web where
  rooms : Int
  ties : List Tie
def eT (t : Tie) : Px := .tuple [.int t.v, .int t.w, .int t.p, .int t.q]
def eW (w : Web) : Px := .tuple [.int w.rooms, .tuple (w.ties.map eT)]
/-- the tie with a number -/
def Web.at (w : Web) (t : Int) (x : Tie) : Prop := ∃ i : Nat, t = (i : Int) ∧ w.ties[i]? = some x
def rev (t : Tie) (s : Int) : Tie := if s = 1 then t else ⟨t.w, t.v, t.q, t.p⟩
/-- a drawn web: rooms in range, ends not 0 and not too great -/
structure TieOk (n : Int) (gr : Int) (t : Tie) : Prop where
  v0 : 0 ≤ t.v
  v1 : t.v < n
  w0 : 0 ≤ t.w
  w1 : t.w < n
  p0 : t.p ≠ 0
  p1 : t.p.natAbs ≤ gr
  q0 : t.q ≠ 0
  q1 : t.q.natAbs ≤ gr
structure WebOk (w : Web) (gr : Int) : Prop where
  r0 : 1 ≤ w.rooms
  tie : ∀ t ∈ w.ties, TieOk w.rooms gr t
theorem WebOk.at {w : Web} {gr t : Int} {x : Tie} (h : WebOk w gr) (a : Web.at w t x) : TieOk w.rooms gr x := by
  obtain ⟨i, _, e⟩ := a
  exact h.tie x (List.mem_of_getElem? e)
theorem TieOk.rev {n gr : Int} {t : Tie} (h : TieOk n gr t) (s : Int) : TieOk n gr (rev t s) := by
  unfold K.rev
  split
  · exact h
  · exact ⟨h.w0, h.w1, h.v0, h.v1, h.q0, h.q1, h.p0, h.p1⟩
structure Stp where
  tie : Int
  side : Int
  k : Int
structure Wlk where
  room : Int
  k : Int
  steps : List Stp
def eS (s : Stp) : Px := .tuple [.int s.tie, .int s.side, .int s.k]
def eK (w : Wlk) : Px := .tuple [.int w.room, .int w.k, .tuple (w.steps.map eS)]
def eC2 (c : Int × Int) : Px := .tuple [.int c.1, .int c.2]
/-- a crossing of the web -/
def CrOk (w : Web) (t s : Int) : Prop := (∃ x, Web.at w t x) ∧ (s = 1 ∨ s = -1)
def StepsOk (w : Web) (l : List Stp) : Prop := ∀ s ∈ l, CrOk w s.tie s.side

/-! ### draws -/
structure Big (i : Int) : Prop where
  out : i.natAbs < 2 ^ 9000
abbrev C_law_draw : Cn := fun rs g Q => ∃ (b : Int) (n : Nat), rs = [.gen, .d (.int b)] ∧ g = some n ∧ n + 1 ≤ 2 ^ 40 ∧ 0 < b ∧ Big b ∧ ∀ (r : Int) (m : Nat), 0 ≤ r → r < b → m ≤ n + 1 → Q (.d (.int r)) (some m)
def w_law_draw : WS :=
  (sSeq (sIf (wB (eSc gtD (eGL 0) (eC (.int 0)))) (sSeq (sAsg (eOp modD (eCB intC (aCons (eGL 0) aNil)) (eName 1)) (gN 2))
  (sSeq (sGL 0 (eOp fdivD (eGL 0) (eName 1)))
  (sRet (eName 2)))) sNil)
  (sSeq (sAsg (eGP 0) (gN 3))
  (sSeq (sGP 0 (eAddN 3 (eC (.int 1))))
  (sSeq (sPar2 4 5 (eGC 0) (eOp addD (eGS 0) (eOp mulD (eOp mulD (eC (.int 40503)) (eName 3)) (eName 3))))
  (sSeq (sAsg (eIxN 4 (eOp modD (eCB intC (aCons (eName 3) aNil)) (eLenN 4))) (gN 6))
  (sSeq (sAsg (eOp modD (eCB intC (aCons (eOp addD (eOp mulD (eName 6) (eOp addD (eOp mulD (eC (.int 2)) (eName 3)) (eC (.int 3)))) (eName 5)) aNil)) (eC (.int 2147483647))) (gN 7))
  (sSeq (sAsg (eOp modD (eCB intC (aCons (eOp addD (eOp addD (eOp mulD (eName 7) (eName 7)) (eOp mulD (eC (.int 69621)) (eName 3))) (eGS 0)) aNil)) (eC (.int 2147483629))) (gN 7))
  (sRet (eOp modD (eOp fdivD (eOp modD (eCB intC (aCons (eOp addD (eOp mulD (eName 7) (eC (.int 48271))) (eName 3)) aNil)) (eC (.int 2147483647))) (eC (.int 11))) (eName 1))))))))))
theorem len_law_draw (rs : List Rv) (g : Option Nat) (Q : Rv → Option Nat → Prop) (h : C_law_draw rs g Q) : rs.length = 2 := by
  obtain ⟨b, n, rfl, _⟩ := h
  rfl
theorem spec_law_draw (rs : List Rv) (g : Option Nat) (Q : Rv → Option Nat → Prop) (h : C_law_draw rs g Q) : w_law_draw (startC 8 rs g) (endP Q) fun _ _ => False := by
  obtain ⟨b, n, rfl, rfl, hn, hb, hb2, hQ⟩ := h
  simp -dsimp only [w_law_draw, sSeq, sAsg, sRet, sIf, sExp, sFor_eq, sPar2, sPar3, sSetI_eq, sAug_eq, slotA_d, sSetG_eq, sRetG, sGL, sGP, sNil, sBrk, sCnt, sNo, eName_eq, slotE_d, slotE_gen, slotE_scr, slotE_own, eC, eOp, eUn, eSc, eScL, eScR, eCh, eAnd, eOr, eNot, eIf, eTup, eLst, eCB, eIx, eIxN, eSl, eSlN, eSlS, eAddN, eLenN, eApp, eExt, ePop, eCallP_eq, eCallG_eq, eIsi, eGL, eGS, eGC, eGP, aNil, aCons, wB_eq, wTru, wTruN, wAnd, wOr, wNot, wYes, gN, gT_d, gL_own, gL_d, gsC, gsN, oNone, oSome_eq, asI_i, iLst, iTpl, iRg1, iRg2, iEnm, iEnmT, iZp, iScr, eLc_eq, hasD, slotD_eq, slotK_d, slotK_own, ownD_eq, slotO_own, isOwn, scrD, putE, asDs, asD_d, asD_own, argR_d, argR_own, argR_gen, argR_scr, asL_own, asL_d, asT_d, asB_d, sub_i, iadd_i, mul_i, fdiv_i, mod_i, pow_i, lt_i, le_i, gt_i, ge_i, add_i, add_l, add_t, cat_i, cat_l, cat_t, neg_i, eqf_i, eqt_i, lenC_l, lenC_t, absC_i, intC_i, tupC_l, tupC_t, max2C_i, min2C_i, lenC_s, reprC_b, reprA_b, reprA_i, reprA_t, reprC_i, eqf_rb, eqt_rb, eqt_ri, slD_t, max3C_i, ixt0, ixt1, ixt2, ixt3, ixl0, ixl1, ixtl, ixll, truD, lenD, startC, endP, List.map_cons, List.map_nil, List.length_cons, List.length_nil, List.cons_append, List.nil_append, List.getElem?_cons_zero, List.getElem?_cons_succ, List.set_cons_zero, List.set_cons_succ, List.replicate_succ, List.replicate_zero, Nat.reduceSub, Nat.reduceAdd, Nat.reduceLT, Option.isSome_some, true_and, and_true, ne_eq, not_false_eq_true, reduceCtorEq, if_true, if_false, Bool.false_eq_true, decide_eq_true_eq, List.mem_cons, List.not_mem_nil, or_self, or_false, false_or]
  intro l hl
  by_cases h0 : 0 < l
  · simp -dsimp only [h0, sSeq, sAsg, sRet, sIf, sExp, sFor_eq, sPar2, sPar3, sSetI_eq, sAug_eq, slotA_d, sSetG_eq, sRetG, sGL, sGP, sNil, sBrk, sCnt, sNo, eName_eq, slotE_d, slotE_gen, slotE_scr, slotE_own, eC, eOp, eUn, eSc, eScL, eScR, eCh, eAnd, eOr, eNot, eIf, eTup, eLst, eCB, eIx, eIxN, eSl, eSlN, eSlS, eAddN, eLenN, eApp, eExt, ePop, eCallP_eq, eCallG_eq, eIsi, eGL, eGS, eGC, eGP, aNil, aCons, wB_eq, wTru, wTruN, wAnd, wOr, wNot, wYes, gN, gT_d, gL_own, gL_d, gsC, gsN, oNone, oSome_eq, asI_i, iLst, iTpl, iRg1, iRg2, iEnm, iEnmT, iZp, iScr, eLc_eq, hasD, slotD_eq, slotK_d, slotK_own, ownD_eq, slotO_own, isOwn, scrD, putE, asDs, asD_d, asD_own, argR_d, argR_own, argR_gen, argR_scr, asL_own, asL_d, asT_d, asB_d, sub_i, iadd_i, mul_i, fdiv_i, mod_i, pow_i, lt_i, le_i, gt_i, ge_i, add_i, add_l, add_t, cat_i, cat_l, cat_t, neg_i, eqf_i, eqt_i, lenC_l, lenC_t, absC_i, intC_i, tupC_l, tupC_t, max2C_i, min2C_i, lenC_s, reprC_b, reprA_b, reprA_i, reprA_t, reprC_i, eqf_rb, eqt_rb, eqt_ri, slD_t, max3C_i, ixt0, ixt1, ixt2, ixt3, ixl0, ixl1, ixtl, ixll, truD, lenD, startC, endP, List.map_cons, List.map_nil, List.length_cons, List.length_nil, List.cons_append, List.nil_append, List.getElem?_cons_zero, List.getElem?_cons_succ, List.set_cons_zero, List.set_cons_succ, List.replicate_succ, List.replicate_zero, Nat.reduceSub, Nat.reduceAdd, Nat.reduceLT, Option.isSome_some, true_and, and_true, ne_eq, not_false_eq_true, reduceCtorEq, if_true, if_false, Bool.false_eq_true, decide_eq_true_eq, List.mem_cons, List.not_mem_nil, or_self, or_false, false_or]
    intro l1 hl1
    refine ⟨by omega, fun l2 hl2 => ⟨CDiv2.g hb hb2.out, fdiv_nn hl2 hb, ?_⟩⟩
    exact hQ _ _ (fmod_b hb).1 (fmod_b hb).2 (by omega)
  · simp -dsimp only [h0, sSeq, sAsg, sRet, sIf, sExp, sFor_eq, sPar2, sPar3, sSetI_eq, sAug_eq, slotA_d, sSetG_eq, sRetG, sGL, sGP, sNil, sBrk, sCnt, sNo, eName_eq, slotE_d, slotE_gen, slotE_scr, slotE_own, eC, eOp, eUn, eSc, eScL, eScR, eCh, eAnd, eOr, eNot, eIf, eTup, eLst, eCB, eIx, eIxN, eSl, eSlN, eSlS, eAddN, eLenN, eApp, eExt, ePop, eCallP_eq, eCallG_eq, eIsi, eGL, eGS, eGC, eGP, aNil, aCons, wB_eq, wTru, wTruN, wAnd, wOr, wNot, wYes, gN, gT_d, gL_own, gL_d, gsC, gsN, oNone, oSome_eq, asI_i, iLst, iTpl, iRg1, iRg2, iEnm, iEnmT, iZp, iScr, eLc_eq, hasD, slotD_eq, slotK_d, slotK_own, ownD_eq, slotO_own, isOwn, scrD, putE, asDs, asD_d, asD_own, argR_d, argR_own, argR_gen, argR_scr, asL_own, asL_d, asT_d, asB_d, sub_i, iadd_i, mul_i, fdiv_i, mod_i, pow_i, lt_i, le_i, gt_i, ge_i, add_i, add_l, add_t, cat_i, cat_l, cat_t, neg_i, eqf_i, eqt_i, lenC_l, lenC_t, absC_i, intC_i, tupC_l, tupC_t, max2C_i, min2C_i, lenC_s, reprC_b, reprA_b, reprA_i, reprA_t, reprC_i, eqf_rb, eqt_rb, eqt_ri, slD_t, max3C_i, ixt0, ixt1, ixt2, ixt3, ixl0, ixl1, ixtl, ixll, truD, lenD, startC, endP, List.map_cons, List.map_nil, List.length_cons, List.length_nil, List.cons_append, List.nil_append, List.getElem?_cons_zero, List.getElem?_cons_succ, List.set_cons_zero, List.set_cons_succ, List.replicate_succ, List.replicate_zero, Nat.reduceSub, Nat.reduceAdd, Nat.reduceLT, Option.isSome_some, true_and, and_true, ne_eq, not_false_eq_true, reduceCtorEq, if_true, if_false, Bool.false_eq_true, decide_eq_true_eq, List.mem_cons, List.not_mem_nil, or_self, or_false, false_or]
    refine ⟨n, rfl, by omega, fun s h1 h2 => ⟨by omega, n + 1, by omega, hn, fun ns hne hl1 sd h3 h4 => ?_⟩⟩
    have hs : s ≤ 2 ^ 40 := by omega
    have hln : (0 : Int) < ((ns.map PyData.int).length : Int) := by
      cases ns with
      | nil => exact absurd rfl hne
      | cons a r => simp only [List.map_cons, List.length_cons]; omega
    refine ⟨CMul2.l (by omega) (by omega), CMul2.r (by omega) (by omega), by omega, ixl_of (fmod_b hln).1 (fmod_b hln).2 fun x hx => ?_⟩
    obtain ⟨c, _, rfl⟩ := List.mem_map.mp hx
    refine ⟨CMul2.l (by omega) (by omega), ?_⟩
    try simp -dsimp only [sSeq, sAsg, sRet, sIf, sExp, sFor_eq, sPar2, sPar3, sSetI_eq, sAug_eq, slotA_d, sSetG_eq, sRetG, sGL, sGP, sNil, sBrk, sCnt, sNo, eName_eq, slotE_d, slotE_gen, slotE_scr, slotE_own, eC, eOp, eUn, eSc, eScL, eScR, eCh, eAnd, eOr, eNot, eIf, eTup, eLst, eCB, eIx, eIxN, eSl, eSlN, eSlS, eAddN, eLenN, eApp, eExt, ePop, eCallP_eq, eCallG_eq, eIsi, eGL, eGS, eGC, eGP, aNil, aCons, wB_eq, wTru, wTruN, wAnd, wOr, wNot, wYes, gN, gT_d, gL_own, gL_d, gsC, gsN, oNone, oSome_eq, asI_i, iLst, iTpl, iRg1, iRg2, iEnm, iEnmT, iZp, iScr, eLc_eq, hasD, slotD_eq, slotK_d, slotK_own, ownD_eq, slotO_own, isOwn, scrD, putE, asDs, asD_d, asD_own, argR_d, argR_own, argR_gen, argR_scr, asL_own, asL_d, asT_d, asB_d, sub_i, iadd_i, mul_i, fdiv_i, mod_i, pow_i, lt_i, le_i, gt_i, ge_i, add_i, add_l, add_t, cat_i, cat_l, cat_t, neg_i, eqf_i, eqt_i, lenC_l, lenC_t, absC_i, intC_i, tupC_l, tupC_t, max2C_i, min2C_i, lenC_s, reprC_b, reprA_b, reprA_i, reprA_t, reprC_i, eqf_rb, eqt_rb, eqt_ri, slD_t, max3C_i, ixt0, ixt1, ixt2, ixt3, ixl0, ixl1, ixtl, ixll, truD, lenD, startC, endP, List.map_cons, List.map_nil, List.length_cons, List.length_nil, List.cons_append, List.nil_append, List.getElem?_cons_zero, List.getElem?_cons_succ, List.set_cons_zero, List.set_cons_succ, List.replicate_succ, List.replicate_zero, Nat.reduceSub, Nat.reduceAdd, Nat.reduceLT, Option.isSome_some, true_and, and_true, ne_eq, not_false_eq_true, reduceCtorEq, if_true, if_false, Bool.false_eq_true, decide_eq_true_eq, List.mem_cons, List.not_mem_nil, or_self, or_false, false_or]
    refine ⟨CMul2.r (by omega) (by omega), by omega, ?_⟩
    have hb1 := fmod_b (i := c * (2 * s + 3) + (sd + 40503 * s * s)) (b := 2147483647) (by omega)
    refine ⟨CMul2.l (by omega) (by omega), CMul2.l (by omega) (by omega), fun sd2 h5 h6 => ⟨by omega, CMul2.r (by omega) (by omega), by omega, CDiv2.s (by omega) (by omega) (by omega), by omega, ?_⟩⟩
    exact hQ _ _ (fmod_b hb).1 (fmod_b hb).2 (by omega)
abbrev C_law_of : Cn := fun rs g Q => ∃ (xs : List Px) (n : Nat), rs = [.gen, .d (.list xs)] ∧ g = some n ∧ n + 1 ≤ 2 ^ 40 ∧ xs ≠ [] ∧ xs.length ≤ 1000000 ∧ ∀ x ∈ xs, ∀ m : Nat, m ≤ n + 1 → Q (.d x) (some m)
def w_law_of : WS :=
  (sRet (eIxN 1 (eCallG C_law_draw (aCons (eName 0) (aCons (eLenN 1) aNil)))))
theorem len_law_of (rs : List Rv) (g : Option Nat) (Q : Rv → Option Nat → Prop) (h : C_law_of rs g Q) : rs.length = 2 := by
  obtain ⟨b, n, rfl, _⟩ := h
  rfl
theorem pow9000 {i : Int} (h0 : 0 ≤ i) (h : i ≤ 10000000) : Big i :=
  ⟨Nat.lt_of_lt_of_le (show i.natAbs < 2 ^ 24 by omega) (Nat.pow_le_pow_right (by decide) (by decide))⟩
theorem spec_law_of (rs : List Rv) (g : Option Nat) (Q : Rv → Option Nat → Prop) (h : C_law_of rs g Q) : w_law_of (startC 2 rs g) (endP Q) fun _ _ => False := by
  obtain ⟨xs, n, rfl, rfl, hn, hx, hl, hQ⟩ := h
  have h0 : (0 : Int) < (xs.length : Int) := by
    cases xs with
    | nil => exact absurd rfl hx
    | cons a r => simp only [List.length_cons]; omega
  simp -dsimp only [w_law_of, C_law_draw, sSeq, sAsg, sRet, sIf, sExp, sFor_eq, sPar2, sPar3, sSetI_eq, sAug_eq, slotA_d, sSetG_eq, sRetG, sGL, sGP, sNil, sBrk, sCnt, sNo, eName_eq, slotE_d, slotE_gen, slotE_scr, slotE_own, eC, eOp, eUn, eSc, eScL, eScR, eCh, eAnd, eOr, eNot, eIf, eTup, eLst, eCB, eIx, eIxN, eSl, eSlN, eSlS, eAddN, eLenN, eApp, eExt, ePop, eCallP_eq, eCallG_eq, eIsi, eGL, eGS, eGC, eGP, aNil, aCons, wB_eq, wTru, wTruN, wAnd, wOr, wNot, wYes, gN, gT_d, gL_own, gL_d, gsC, gsN, oNone, oSome_eq, asI_i, iLst, iTpl, iRg1, iRg2, iEnm, iEnmT, iZp, iScr, eLc_eq, hasD, slotD_eq, slotK_d, slotK_own, ownD_eq, slotO_own, isOwn, scrD, putE, asDs, asD_d, asD_own, argR_d, argR_own, argR_gen, argR_scr, asL_own, asL_d, asT_d, asB_d, sub_i, iadd_i, mul_i, fdiv_i, mod_i, pow_i, lt_i, le_i, gt_i, ge_i, add_i, add_l, add_t, cat_i, cat_l, cat_t, neg_i, eqf_i, eqt_i, lenC_l, lenC_t, absC_i, intC_i, tupC_l, tupC_t, max2C_i, min2C_i, lenC_s, reprC_b, reprA_b, reprA_i, reprA_t, reprC_i, eqf_rb, eqt_rb, eqt_ri, slD_t, max3C_i, ixt0, ixt1, ixt2, ixt3, ixl0, ixl1, ixtl, ixll, truD, lenD, startC, endP, List.map_cons, List.map_nil, List.length_cons, List.length_nil, List.cons_append, List.nil_append, List.getElem?_cons_zero, List.getElem?_cons_succ, List.set_cons_zero, List.set_cons_succ, List.replicate_succ, List.replicate_zero, Nat.reduceSub, Nat.reduceAdd, Nat.reduceLT, Option.isSome_some, true_and, and_true, ne_eq, not_false_eq_true, reduceCtorEq, if_true, if_false, Bool.false_eq_true, decide_eq_true_eq, List.mem_cons, List.not_mem_nil, or_self, or_false, false_or]
  refine ⟨_, n, rfl, rfl, hn, h0, pow9000 (by omega) (by omega), fun r m h1 h2 h3 => ?_⟩
  try simp -dsimp only [sSeq, sAsg, sRet, sIf, sExp, sFor_eq, sPar2, sPar3, sSetI_eq, sAug_eq, slotA_d, sSetG_eq, sRetG, sGL, sGP, sNil, sBrk, sCnt, sNo, eName_eq, slotE_d, slotE_gen, slotE_scr, slotE_own, eC, eOp, eUn, eSc, eScL, eScR, eCh, eAnd, eOr, eNot, eIf, eTup, eLst, eCB, eIx, eIxN, eSl, eSlN, eSlS, eAddN, eLenN, eApp, eExt, ePop, eCallP_eq, eCallG_eq, eIsi, eGL, eGS, eGC, eGP, aNil, aCons, wB_eq, wTru, wTruN, wAnd, wOr, wNot, wYes, gN, gT_d, gL_own, gL_d, gsC, gsN, oNone, oSome_eq, asI_i, iLst, iTpl, iRg1, iRg2, iEnm, iEnmT, iZp, iScr, eLc_eq, hasD, slotD_eq, slotK_d, slotK_own, ownD_eq, slotO_own, isOwn, scrD, putE, asDs, asD_d, asD_own, argR_d, argR_own, argR_gen, argR_scr, asL_own, asL_d, asT_d, asB_d, sub_i, iadd_i, mul_i, fdiv_i, mod_i, pow_i, lt_i, le_i, gt_i, ge_i, add_i, add_l, add_t, cat_i, cat_l, cat_t, neg_i, eqf_i, eqt_i, lenC_l, lenC_t, absC_i, intC_i, tupC_l, tupC_t, max2C_i, min2C_i, lenC_s, reprC_b, reprA_b, reprA_i, reprA_t, reprC_i, eqf_rb, eqt_rb, eqt_ri, slD_t, max3C_i, ixt0, ixt1, ixt2, ixt3, ixl0, ixl1, ixtl, ixll, truD, lenD, startC, endP, List.map_cons, List.map_nil, List.length_cons, List.length_nil, List.cons_append, List.nil_append, List.getElem?_cons_zero, List.getElem?_cons_succ, List.set_cons_zero, List.set_cons_succ, List.replicate_succ, List.replicate_zero, Nat.reduceSub, Nat.reduceAdd, Nat.reduceLT, Option.isSome_some, true_and, and_true, ne_eq, not_false_eq_true, reduceCtorEq, if_true, if_false, Bool.false_eq_true, decide_eq_true_eq, List.mem_cons, List.not_mem_nil, or_self, or_false, false_or]
  exact ixl_of h1 h2 fun x hx => hQ x hx m h3
abbrev C_law_ends : Cn := fun rs g Q => ∃ w t s x, rs = [.d (eW w), .d (.int t), .d (.int s)] ∧ Web.at w t x ∧ Q (.d (eT (rev x s))) g
def w_law_ends : WS :=
  (sSeq (sAsg (eIx (eIxN 0 (eC (.int 1))) (eName 1)) (gT 4 (gsCons (gN 3) (gsCons (gN 4) (gsCons (gN 5) (gsCons (gN 6) gsNil))))))
  (sRet (eIf (wB (eScL 2 (eqD false) (eC (.int 1)))) (eTup (aCons (eName 3) (aCons (eName 4) (aCons (eName 5) (aCons (eName 6) aNil))))) (eTup (aCons (eName 4) (aCons (eName 3) (aCons (eName 6) (aCons (eName 5) aNil))))))))
theorem len_law_ends (rs : List Rv) (g : Option Nat) (Q : Rv → Option Nat → Prop) (h : C_law_ends rs g Q) : rs.length = 3 := by
  obtain ⟨w, t, s, x, rfl, _⟩ := h
  rfl
theorem spec_law_ends (rs : List Rv) (g : Option Nat) (Q : Rv → Option Nat → Prop) (h : C_law_ends rs g Q) : w_law_ends (startC 7 rs g) (endP Q) fun _ _ => False := by
  obtain ⟨w, t, s, x, rfl, ⟨i, rfl, hx⟩, hQ⟩ := h
  simp -dsimp only [w_law_ends, eW, sSeq, sAsg, sRet, sIf, sExp, sFor_eq, sPar2, sPar3, sSetI_eq, sAug_eq, slotA_d, sSetG_eq, sRetG, sGL, sGP, sNil, sBrk, sCnt, sNo, eName_eq, slotE_d, slotE_gen, slotE_scr, slotE_own, eC, eOp, eUn, eSc, eScL, eScR, eCh, eAnd, eOr, eNot, eIf, eTup, eLst, eCB, eIx, eIxN, eSl, eSlN, eSlS, eAddN, eLenN, eApp, eExt, ePop, eCallP_eq, eCallG_eq, eIsi, eGL, eGS, eGC, eGP, aNil, aCons, wB_eq, wTru, wTruN, wAnd, wOr, wNot, wYes, gN, gT_d, gL_own, gL_d, gsC, gsN, oNone, oSome_eq, asI_i, iLst, iTpl, iRg1, iRg2, iEnm, iEnmT, iZp, iScr, eLc_eq, hasD, slotD_eq, slotK_d, slotK_own, ownD_eq, slotO_own, isOwn, scrD, putE, asDs, asD_d, asD_own, argR_d, argR_own, argR_gen, argR_scr, asL_own, asL_d, asT_d, asB_d, sub_i, iadd_i, mul_i, fdiv_i, mod_i, pow_i, lt_i, le_i, gt_i, ge_i, add_i, add_l, add_t, cat_i, cat_l, cat_t, neg_i, eqf_i, eqt_i, lenC_l, lenC_t, absC_i, intC_i, tupC_l, tupC_t, max2C_i, min2C_i, lenC_s, reprC_b, reprA_b, reprA_i, reprA_t, reprC_i, eqf_rb, eqt_rb, eqt_ri, slD_t, max3C_i, ixt0, ixt1, ixt2, ixt3, ixl0, ixl1, ixtl, ixll, truD, lenD, startC, endP, List.map_cons, List.map_nil, List.length_cons, List.length_nil, List.cons_append, List.nil_append, List.getElem?_cons_zero, List.getElem?_cons_succ, List.set_cons_zero, List.set_cons_succ, List.replicate_succ, List.replicate_zero, Nat.reduceSub, Nat.reduceAdd, Nat.reduceLT, Option.isSome_some, true_and, and_true, ne_eq, not_false_eq_true, reduceCtorEq, if_true, if_false, Bool.false_eq_true, decide_eq_true_eq, List.mem_cons, List.not_mem_nil, or_self, or_false, false_or]
  rw [ixtn (map_of eT hx)]
  simp -dsimp only [eT, sSeq, sAsg, sRet, sIf, sExp, sFor_eq, sPar2, sPar3, sSetI_eq, sAug_eq, slotA_d, sSetG_eq, sRetG, sGL, sGP, sNil, sBrk, sCnt, sNo, eName_eq, slotE_d, slotE_gen, slotE_scr, slotE_own, eC, eOp, eUn, eSc, eScL, eScR, eCh, eAnd, eOr, eNot, eIf, eTup, eLst, eCB, eIx, eIxN, eSl, eSlN, eSlS, eAddN, eLenN, eApp, eExt, ePop, eCallP_eq, eCallG_eq, eIsi, eGL, eGS, eGC, eGP, aNil, aCons, wB_eq, wTru, wTruN, wAnd, wOr, wNot, wYes, gN, gT_d, gL_own, gL_d, gsC, gsN, oNone, oSome_eq, asI_i, iLst, iTpl, iRg1, iRg2, iEnm, iEnmT, iZp, iScr, eLc_eq, hasD, slotD_eq, slotK_d, slotK_own, ownD_eq, slotO_own, isOwn, scrD, putE, asDs, asD_d, asD_own, argR_d, argR_own, argR_gen, argR_scr, asL_own, asL_d, asT_d, asB_d, sub_i, iadd_i, mul_i, fdiv_i, mod_i, pow_i, lt_i, le_i, gt_i, ge_i, add_i, add_l, add_t, cat_i, cat_l, cat_t, neg_i, eqf_i, eqt_i, lenC_l, lenC_t, absC_i, intC_i, tupC_l, tupC_t, max2C_i, min2C_i, lenC_s, reprC_b, reprA_b, reprA_i, reprA_t, reprC_i, eqf_rb, eqt_rb, eqt_ri, slD_t, max3C_i, ixt0, ixt1, ixt2, ixt3, ixl0, ixl1, ixtl, ixll, truD, lenD, startC, endP, List.map_cons, List.map_nil, List.length_cons, List.length_nil, List.cons_append, List.nil_append, List.getElem?_cons_zero, List.getElem?_cons_succ, List.set_cons_zero, List.set_cons_succ, List.replicate_succ, List.replicate_zero, Nat.reduceSub, Nat.reduceAdd, Nat.reduceLT, Option.isSome_some, true_and, and_true, ne_eq, not_false_eq_true, reduceCtorEq, if_true, if_false, Bool.false_eq_true, decide_eq_true_eq, List.mem_cons, List.not_mem_nil, or_self, or_false, false_or]
  unfold rev at hQ
  by_cases hs : s = 1
  · rw [if_pos hs] at hQ
    simp -dsimp only [hs, beq_self_eq_true, sSeq, sAsg, sRet, sIf, sExp, sFor_eq, sPar2, sPar3, sSetI_eq, sAug_eq, slotA_d, sSetG_eq, sRetG, sGL, sGP, sNil, sBrk, sCnt, sNo, eName_eq, slotE_d, slotE_gen, slotE_scr, slotE_own, eC, eOp, eUn, eSc, eScL, eScR, eCh, eAnd, eOr, eNot, eIf, eTup, eLst, eCB, eIx, eIxN, eSl, eSlN, eSlS, eAddN, eLenN, eApp, eExt, ePop, eCallP_eq, eCallG_eq, eIsi, eGL, eGS, eGC, eGP, aNil, aCons, wB_eq, wTru, wTruN, wAnd, wOr, wNot, wYes, gN, gT_d, gL_own, gL_d, gsC, gsN, oNone, oSome_eq, asI_i, iLst, iTpl, iRg1, iRg2, iEnm, iEnmT, iZp, iScr, eLc_eq, hasD, slotD_eq, slotK_d, slotK_own, ownD_eq, slotO_own, isOwn, scrD, putE, asDs, asD_d, asD_own, argR_d, argR_own, argR_gen, argR_scr, asL_own, asL_d, asT_d, asB_d, sub_i, iadd_i, mul_i, fdiv_i, mod_i, pow_i, lt_i, le_i, gt_i, ge_i, add_i, add_l, add_t, cat_i, cat_l, cat_t, neg_i, eqf_i, eqt_i, lenC_l, lenC_t, absC_i, intC_i, tupC_l, tupC_t, max2C_i, min2C_i, lenC_s, reprC_b, reprA_b, reprA_i, reprA_t, reprC_i, eqf_rb, eqt_rb, eqt_ri, slD_t, max3C_i, ixt0, ixt1, ixt2, ixt3, ixl0, ixl1, ixtl, ixll, truD, lenD, startC, endP, List.map_cons, List.map_nil, List.length_cons, List.length_nil, List.cons_append, List.nil_append, List.getElem?_cons_zero, List.getElem?_cons_succ, List.set_cons_zero, List.set_cons_succ, List.replicate_succ, List.replicate_zero, Nat.reduceSub, Nat.reduceAdd, Nat.reduceLT, Option.isSome_some, true_and, and_true, ne_eq, not_false_eq_true, reduceCtorEq, if_true, if_false, Bool.false_eq_true, decide_eq_true_eq, List.mem_cons, List.not_mem_nil, or_self, or_false, false_or]
    exact ⟨by decide, hQ⟩
  · rw [if_neg hs] at hQ
    have hb : (s == 1) = false := by simpa using hs
    simp -dsimp only [hb, sSeq, sAsg, sRet, sIf, sExp, sFor_eq, sPar2, sPar3, sSetI_eq, sAug_eq, slotA_d, sSetG_eq, sRetG, sGL, sGP, sNil, sBrk, sCnt, sNo, eName_eq, slotE_d, slotE_gen, slotE_scr, slotE_own, eC, eOp, eUn, eSc, eScL, eScR, eCh, eAnd, eOr, eNot, eIf, eTup, eLst, eCB, eIx, eIxN, eSl, eSlN, eSlS, eAddN, eLenN, eApp, eExt, ePop, eCallP_eq, eCallG_eq, eIsi, eGL, eGS, eGC, eGP, aNil, aCons, wB_eq, wTru, wTruN, wAnd, wOr, wNot, wYes, gN, gT_d, gL_own, gL_d, gsC, gsN, oNone, oSome_eq, asI_i, iLst, iTpl, iRg1, iRg2, iEnm, iEnmT, iZp, iScr, eLc_eq, hasD, slotD_eq, slotK_d, slotK_own, ownD_eq, slotO_own, isOwn, scrD, putE, asDs, asD_d, asD_own, argR_d, argR_own, argR_gen, argR_scr, asL_own, asL_d, asT_d, asB_d, sub_i, iadd_i, mul_i, fdiv_i, mod_i, pow_i, lt_i, le_i, gt_i, ge_i, add_i, add_l, add_t, cat_i, cat_l, cat_t, neg_i, eqf_i, eqt_i, lenC_l, lenC_t, absC_i, intC_i, tupC_l, tupC_t, max2C_i, min2C_i, lenC_s, reprC_b, reprA_b, reprA_i, reprA_t, reprC_i, eqf_rb, eqt_rb, eqt_ri, slD_t, max3C_i, ixt0, ixt1, ixt2, ixt3, ixl0, ixl1, ixtl, ixll, truD, lenD, startC, endP, List.map_cons, List.map_nil, List.length_cons, List.length_nil, List.cons_append, List.nil_append, List.getElem?_cons_zero, List.getElem?_cons_succ, List.set_cons_zero, List.set_cons_succ, List.replicate_succ, List.replicate_zero, Nat.reduceSub, Nat.reduceAdd, Nat.reduceLT, Option.isSome_some, true_and, and_true, ne_eq, not_false_eq_true, reduceCtorEq, if_true, if_false, Bool.false_eq_true, decide_eq_true_eq, List.mem_cons, List.not_mem_nil, or_self, or_false, false_or]
    exact ⟨by decide, hQ⟩
/-- the crossings out of a room over the first ties -/
def outsN (w : Web) (room : Int) (n : Nat) : List (Int × Int) := (List.range n).flatMap fun i => match w.ties[i]? with
  | some t => (if t.v = room then [((i : Int), 1)] else []) ++ (if t.w = room then [((i : Int), -1)] else [])
  | none => []
theorem outsN_succ (w : Web) (room : Int) (n : Nat) {t : Tie} (h : w.ties[n]? = some t) : outsN w room (n + 1) = outsN w room n ++ ((if t.v = room then [((n : Int), 1)] else []) ++ (if t.w = room then [((n : Int), -1)] else [])) := by
  unfold outsN
  rw [List.range_succ, List.flatMap_append]
  simp only [List.flatMap_cons, List.flatMap_nil, List.append_nil, h]
theorem outsN_len (w : Web) (room : Int) (n : Nat) : (outsN w room n).length ≤ 2 * n := by
  unfold outsN
  induction n with
  | zero => simp
  | succ n ih =>
    rw [List.range_succ, List.flatMap_append, List.length_append]
    simp only [List.flatMap_cons, List.flatMap_nil, List.append_nil]
    have : (match w.ties[n]? with
        | some t => (if t.v = room then [((n : Int), (1 : Int))] else []) ++ (if t.w = room then [((n : Int), (-1 : Int))] else [])
        | none => ([] : List (Int × Int))).length ≤ 2 := by
      split
      · split <;> split <;> simp
      · simp
    omega
def outs (w : Web) (room : Int) : List (Int × Int) := outsN w room w.ties.length
theorem outs_len (w : Web) (room : Int) : (outs w room).length ≤ 2 * w.ties.length := outsN_len w room _
theorem outs_ok {w : Web} {room : Int} {c : Int × Int} (h : c ∈ outs w room) : CrOk w c.1 c.2 ∧ ∀ x, Web.at w c.1 x → (rev x c.2).v = room := by
  unfold outs outsN at h
  obtain ⟨i, _, h⟩ := List.mem_flatMap.mp h
  cases e : w.ties[i]? with
  | none => rw [e] at h; cases h
  | some t =>
    rw [e] at h
    simp only [List.mem_append] at h
    have key : ∀ x, Web.at w (i : Int) x → x = t := fun x ⟨j, hj, hx⟩ => by
      have : i = j := by omega
      subst this
      rw [e] at hx
      exact (Option.some.inj hx).symm
    rcases h with h | h
    · split at h
      · simp only [List.mem_cons, List.not_mem_nil, or_false] at h
        subst h
        refine ⟨⟨⟨t, i, rfl, e⟩, .inl rfl⟩, fun x hx => ?_⟩
        rw [key x hx]
        simp only [rev, if_true]
        assumption
      · cases h
    · split at h
      · simp only [List.mem_cons, List.not_mem_nil, or_false] at h
        subst h
        refine ⟨⟨⟨t, i, rfl, e⟩, .inr rfl⟩, fun x hx => ?_⟩
        rw [key x hx]
        simp only [rev]
        rw [if_neg (by decide)]
        assumption
      · cases h
abbrev C_law_out : Cn := fun rs g Q => ∃ w r, rs = [.d (eW w), .d (.int r)] ∧ w.ties.length ≤ 1000 ∧ Q (.d (.list ((outs w r).map eC2))) g
def w_law_out : WS :=
  (sSeq (sAsg (eLst aNil) (gN 2))
  (sSeq (sFor (iRg1 (aCons (eCB lenC (aCons (eIxN 0 (eC (.int 1))) aNil)) aNil)) (gN 3)
  (sAsg (eAddN 2 (eLc (iTpl (eTup (aCons (eC (.int 1)) (aCons (eUn negD (eC (.int 1))) aNil)))) (gN 4) (wB (eScR 1 (eqD false) (eIx (eCallP C_law_ends (aCons (eName 0) (aCons (eName 3) (aCons (eName 4) aNil)))) (eC (.int 0))))) (eTup (aCons (eName 3) (aCons (eName 4) aNil))) [4])) (gN 2)))
  (sRet (eName 2))))
theorem len_law_out (rs : List Rv) (g : Option Nat) (Q : Rv → Option Nat → Prop) (h : C_law_out rs g Q) : rs.length = 2 := by
  obtain ⟨w, t, rfl, _⟩ := h
  rfl
theorem spec_law_out (rs : List Rv) (g : Option Nat) (Q : Rv → Option Nat → Prop) (h : C_law_out rs g Q) : w_law_out (startC 5 rs g) (endP Q) fun _ _ => False := by
  obtain ⟨w, r, rfl, hl, hQ⟩ := h
  simp -dsimp only [w_law_out, C_law_ends, sSeq, sAsg, sRet, sIf, sExp, sFor_eq, sPar2, sPar3, sSetI_eq, sAug_eq, slotA_d, sSetG_eq, sRetG, sGL, sGP, sNil, sBrk, sCnt, sNo, eName_eq, slotE_d, slotE_gen, slotE_scr, slotE_own, eC, eOp, eUn, eSc, eScL, eScR, eCh, eAnd, eOr, eNot, eIf, eTup, eLst, eCB, eIx, eIxN, eSl, eSlN, eSlS, eAddN, eLenN, eApp, eExt, ePop, eCallP_eq, eCallG_eq, eIsi, eGL, eGS, eGC, eGP, aNil, aCons, wB_eq, wTru, wTruN, wAnd, wOr, wNot, wYes, gN, gT_d, gL_own, gL_d, gsC, gsN, oNone, oSome_eq, asI_i, iLst, iTpl, iRg1, iRg2, iEnm, iEnmT, iZp, iScr, eLc_eq, hasD, slotD_eq, slotK_d, slotK_own, ownD_eq, slotO_own, isOwn, scrD, putE, asDs, asD_d, asD_own, argR_d, argR_own, argR_gen, argR_scr, asL_own, asL_d, asT_d, asB_d, sub_i, iadd_i, mul_i, fdiv_i, mod_i, pow_i, lt_i, le_i, gt_i, ge_i, add_i, add_l, add_t, cat_i, cat_l, cat_t, neg_i, eqf_i, eqt_i, lenC_l, lenC_t, absC_i, intC_i, tupC_l, tupC_t, max2C_i, min2C_i, lenC_s, reprC_b, reprA_b, reprA_i, reprA_t, reprC_i, eqf_rb, eqt_rb, eqt_ri, slD_t, max3C_i, ixt0, ixt1, ixt2, ixt3, ixl0, ixl1, ixtl, ixll, truD, lenD, startC, endP, List.map_cons, List.map_nil, List.length_cons, List.length_nil, List.cons_append, List.nil_append, List.getElem?_cons_zero, List.getElem?_cons_succ, List.set_cons_zero, List.set_cons_succ, List.replicate_succ, List.replicate_zero, Nat.reduceSub, Nat.reduceAdd, Nat.reduceLT, Option.isSome_some, true_and, and_true, ne_eq, not_false_eq_true, reduceCtorEq, if_true, if_false, Bool.false_eq_true, decide_eq_true_eq, List.mem_cons, List.not_mem_nil, or_self, or_false, false_or]
  simp -dsimp only [eW, sSeq, sAsg, sRet, sIf, sExp, sFor_eq, sPar2, sPar3, sSetI_eq, sAug_eq, slotA_d, sSetG_eq, sRetG, sGL, sGP, sNil, sBrk, sCnt, sNo, eName_eq, slotE_d, slotE_gen, slotE_scr, slotE_own, eC, eOp, eUn, eSc, eScL, eScR, eCh, eAnd, eOr, eNot, eIf, eTup, eLst, eCB, eIx, eIxN, eSl, eSlN, eSlS, eAddN, eLenN, eApp, eExt, ePop, eCallP_eq, eCallG_eq, eIsi, eGL, eGS, eGC, eGP, aNil, aCons, wB_eq, wTru, wTruN, wAnd, wOr, wNot, wYes, gN, gT_d, gL_own, gL_d, gsC, gsN, oNone, oSome_eq, asI_i, iLst, iTpl, iRg1, iRg2, iEnm, iEnmT, iZp, iScr, eLc_eq, hasD, slotD_eq, slotK_d, slotK_own, ownD_eq, slotO_own, isOwn, scrD, putE, asDs, asD_d, asD_own, argR_d, argR_own, argR_gen, argR_scr, asL_own, asL_d, asT_d, asB_d, sub_i, iadd_i, mul_i, fdiv_i, mod_i, pow_i, lt_i, le_i, gt_i, ge_i, add_i, add_l, add_t, cat_i, cat_l, cat_t, neg_i, eqf_i, eqt_i, lenC_l, lenC_t, absC_i, intC_i, tupC_l, tupC_t, max2C_i, min2C_i, lenC_s, reprC_b, reprA_b, reprA_i, reprA_t, reprC_i, eqf_rb, eqt_rb, eqt_ri, slD_t, max3C_i, ixt0, ixt1, ixt2, ixt3, ixl0, ixl1, ixtl, ixll, truD, lenD, startC, endP, List.map_cons, List.map_nil, List.length_cons, List.length_nil, List.cons_append, List.nil_append, List.getElem?_cons_zero, List.getElem?_cons_succ, List.set_cons_zero, List.set_cons_succ, List.replicate_succ, List.replicate_zero, Nat.reduceSub, Nat.reduceAdd, Nat.reduceLT, Option.isSome_some, true_and, and_true, ne_eq, not_false_eq_true, reduceCtorEq, if_true, if_false, Bool.false_eq_true, decide_eq_true_eq, List.mem_cons, List.not_mem_nil, or_self, or_false, false_or]
  refine ⟨by simp [smI], by simp [smI]; omega, ?_⟩
  refine forW_ind _ (fun i c => ∃ x4 x5, (∀ xs, x5 ≠ some (.own xs)) ∧ c = ⟨[some (.d (.tuple [.int w.rooms, .tuple (w.ties.map eT)])), some (.d (.int r)), some (.own ((outsN w r i).map eC2)), x4, x5], g⟩) (fun i x c hx hI R hR => ?_) (fun c hI => ?_) _ ⟨_, _, by simp, rfl⟩
  · obtain ⟨x4, x5, h5, rfl⟩ := hI
    obtain ⟨hi, rfl⟩ := rng_at hx
    have hi' : i < w.ties.length := by simpa using hi
    have ht : w.ties[i]? = some w.ties[i] := by simp [hi']
    have hat : Web.at w (0 + (i : Int)) w.ties[i] := ⟨i, by omega, ht⟩
    have hat2 : Web.at w (i : Int) w.ties[i] := ⟨i, rfl, ht⟩
    have hln := outsN_len w r i
    have hs := outsN_succ w r i ht
    simp -dsimp only [lcH, lcW, wipeE, sSeq, sAsg, sRet, sIf, sExp, sFor_eq, sPar2, sPar3, sSetI_eq, sAug_eq, slotA_d, sSetG_eq, sRetG, sGL, sGP, sNil, sBrk, sCnt, sNo, eName_eq, slotE_d, slotE_gen, slotE_scr, slotE_own, eC, eOp, eUn, eSc, eScL, eScR, eCh, eAnd, eOr, eNot, eIf, eTup, eLst, eCB, eIx, eIxN, eSl, eSlN, eSlS, eAddN, eLenN, eApp, eExt, ePop, eCallP_eq, eCallG_eq, eIsi, eGL, eGS, eGC, eGP, aNil, aCons, wB_eq, wTru, wTruN, wAnd, wOr, wNot, wYes, gN, gT_d, gL_own, gL_d, gsC, gsN, oNone, oSome_eq, asI_i, iLst, iTpl, iRg1, iRg2, iEnm, iEnmT, iZp, iScr, eLc_eq, hasD, slotD_eq, slotK_d, slotK_own, ownD_eq, slotO_own, isOwn, scrD, putE, asDs, asD_d, asD_own, argR_d, argR_own, argR_gen, argR_scr, asL_own, asL_d, asT_d, asB_d, sub_i, iadd_i, mul_i, fdiv_i, mod_i, pow_i, lt_i, le_i, gt_i, ge_i, add_i, add_l, add_t, cat_i, cat_l, cat_t, neg_i, eqf_i, eqt_i, lenC_l, lenC_t, absC_i, intC_i, tupC_l, tupC_t, max2C_i, min2C_i, lenC_s, reprC_b, reprA_b, reprA_i, reprA_t, reprC_i, eqf_rb, eqt_rb, eqt_ri, slD_t, max3C_i, ixt0, ixt1, ixt2, ixt3, ixl0, ixl1, ixtl, ixll, truD, lenD, startC, endP, List.map_cons, List.map_nil, List.length_cons, List.length_nil, List.cons_append, List.nil_append, List.getElem?_cons_zero, List.getElem?_cons_succ, List.set_cons_zero, List.set_cons_succ, List.replicate_succ, List.replicate_zero, Nat.reduceSub, Nat.reduceAdd, Nat.reduceLT, Option.isSome_some, true_and, and_true, ne_eq, not_false_eq_true, reduceCtorEq, if_true, if_false, Bool.false_eq_true, decide_eq_true_eq, List.mem_cons, List.not_mem_nil, or_self, or_false, false_or]
    refine ⟨by simp [nown], by simp [nown, h5], w, _, _, _, rfl, hat, ?_⟩
    simp -dsimp only [eT, rev, sSeq, sAsg, sRet, sIf, sExp, sFor_eq, sPar2, sPar3, sSetI_eq, sAug_eq, slotA_d, sSetG_eq, sRetG, sGL, sGP, sNil, sBrk, sCnt, sNo, eName_eq, slotE_d, slotE_gen, slotE_scr, slotE_own, eC, eOp, eUn, eSc, eScL, eScR, eCh, eAnd, eOr, eNot, eIf, eTup, eLst, eCB, eIx, eIxN, eSl, eSlN, eSlS, eAddN, eLenN, eApp, eExt, ePop, eCallP_eq, eCallG_eq, eIsi, eGL, eGS, eGC, eGP, aNil, aCons, wB_eq, wTru, wTruN, wAnd, wOr, wNot, wYes, gN, gT_d, gL_own, gL_d, gsC, gsN, oNone, oSome_eq, asI_i, iLst, iTpl, iRg1, iRg2, iEnm, iEnmT, iZp, iScr, eLc_eq, hasD, slotD_eq, slotK_d, slotK_own, ownD_eq, slotO_own, isOwn, scrD, putE, asDs, asD_d, asD_own, argR_d, argR_own, argR_gen, argR_scr, asL_own, asL_d, asT_d, asB_d, sub_i, iadd_i, mul_i, fdiv_i, mod_i, pow_i, lt_i, le_i, gt_i, ge_i, add_i, add_l, add_t, cat_i, cat_l, cat_t, neg_i, eqf_i, eqt_i, lenC_l, lenC_t, absC_i, intC_i, tupC_l, tupC_t, max2C_i, min2C_i, lenC_s, reprC_b, reprA_b, reprA_i, reprA_t, reprC_i, eqf_rb, eqt_rb, eqt_ri, slD_t, max3C_i, ixt0, ixt1, ixt2, ixt3, ixl0, ixl1, ixtl, ixll, truD, lenD, startC, endP, List.map_cons, List.map_nil, List.length_cons, List.length_nil, List.cons_append, List.nil_append, List.getElem?_cons_zero, List.getElem?_cons_succ, List.set_cons_zero, List.set_cons_succ, List.replicate_succ, List.replicate_zero, Nat.reduceSub, Nat.reduceAdd, Nat.reduceLT, Option.isSome_some, true_and, and_true, ne_eq, not_false_eq_true, reduceCtorEq, if_true, if_false, Bool.false_eq_true, decide_eq_true_eq, List.mem_cons, List.not_mem_nil, or_self, or_false, false_or]
    by_cases hv : w.ties[i].v = r
    · simp -dsimp only [hv, beq_self_eq_true, sSeq, sAsg, sRet, sIf, sExp, sFor_eq, sPar2, sPar3, sSetI_eq, sAug_eq, slotA_d, sSetG_eq, sRetG, sGL, sGP, sNil, sBrk, sCnt, sNo, eName_eq, slotE_d, slotE_gen, slotE_scr, slotE_own, eC, eOp, eUn, eSc, eScL, eScR, eCh, eAnd, eOr, eNot, eIf, eTup, eLst, eCB, eIx, eIxN, eSl, eSlN, eSlS, eAddN, eLenN, eApp, eExt, ePop, eCallP_eq, eCallG_eq, eIsi, eGL, eGS, eGC, eGP, aNil, aCons, wB_eq, wTru, wTruN, wAnd, wOr, wNot, wYes, gN, gT_d, gL_own, gL_d, gsC, gsN, oNone, oSome_eq, asI_i, iLst, iTpl, iRg1, iRg2, iEnm, iEnmT, iZp, iScr, eLc_eq, hasD, slotD_eq, slotK_d, slotK_own, ownD_eq, slotO_own, isOwn, scrD, putE, asDs, asD_d, asD_own, argR_d, argR_own, argR_gen, argR_scr, asL_own, asL_d, asT_d, asB_d, sub_i, iadd_i, mul_i, fdiv_i, mod_i, pow_i, lt_i, le_i, gt_i, ge_i, add_i, add_l, add_t, cat_i, cat_l, cat_t, neg_i, eqf_i, eqt_i, lenC_l, lenC_t, absC_i, intC_i, tupC_l, tupC_t, max2C_i, min2C_i, lenC_s, reprC_b, reprA_b, reprA_i, reprA_t, reprC_i, eqf_rb, eqt_rb, eqt_ri, slD_t, max3C_i, ixt0, ixt1, ixt2, ixt3, ixl0, ixl1, ixtl, ixll, truD, lenD, startC, endP, List.map_cons, List.map_nil, List.length_cons, List.length_nil, List.cons_append, List.nil_append, List.getElem?_cons_zero, List.getElem?_cons_succ, List.set_cons_zero, List.set_cons_succ, List.replicate_succ, List.replicate_zero, Nat.reduceSub, Nat.reduceAdd, Nat.reduceLT, Option.isSome_some, true_and, and_true, ne_eq, not_false_eq_true, reduceCtorEq, if_true, if_false, Bool.false_eq_true, decide_eq_true_eq, List.mem_cons, List.not_mem_nil, or_self, or_false, false_or]
      refine ⟨by decide, w, _, _, _, rfl, hat, ?_⟩
      simp -dsimp only [eT, rev, sSeq, sAsg, sRet, sIf, sExp, sFor_eq, sPar2, sPar3, sSetI_eq, sAug_eq, slotA_d, sSetG_eq, sRetG, sGL, sGP, sNil, sBrk, sCnt, sNo, eName_eq, slotE_d, slotE_gen, slotE_scr, slotE_own, eC, eOp, eUn, eSc, eScL, eScR, eCh, eAnd, eOr, eNot, eIf, eTup, eLst, eCB, eIx, eIxN, eSl, eSlN, eSlS, eAddN, eLenN, eApp, eExt, ePop, eCallP_eq, eCallG_eq, eIsi, eGL, eGS, eGC, eGP, aNil, aCons, wB_eq, wTru, wTruN, wAnd, wOr, wNot, wYes, gN, gT_d, gL_own, gL_d, gsC, gsN, oNone, oSome_eq, asI_i, iLst, iTpl, iRg1, iRg2, iEnm, iEnmT, iZp, iScr, eLc_eq, hasD, slotD_eq, slotK_d, slotK_own, ownD_eq, slotO_own, isOwn, scrD, putE, asDs, asD_d, asD_own, argR_d, argR_own, argR_gen, argR_scr, asL_own, asL_d, asT_d, asB_d, sub_i, iadd_i, mul_i, fdiv_i, mod_i, pow_i, lt_i, le_i, gt_i, ge_i, add_i, add_l, add_t, cat_i, cat_l, cat_t, neg_i, eqf_i, eqt_i, lenC_l, lenC_t, absC_i, intC_i, tupC_l, tupC_t, max2C_i, min2C_i, lenC_s, reprC_b, reprA_b, reprA_i, reprA_t, reprC_i, eqf_rb, eqt_rb, eqt_ri, slD_t, max3C_i, ixt0, ixt1, ixt2, ixt3, ixl0, ixl1, ixtl, ixll, truD, lenD, startC, endP, List.map_cons, List.map_nil, List.length_cons, List.length_nil, List.cons_append, List.nil_append, List.getElem?_cons_zero, List.getElem?_cons_succ, List.set_cons_zero, List.set_cons_succ, List.replicate_succ, List.replicate_zero, Nat.reduceSub, Nat.reduceAdd, Nat.reduceLT, Option.isSome_some, true_and, and_true, ne_eq, not_false_eq_true, reduceCtorEq, if_true, if_false, Bool.false_eq_true, decide_eq_true_eq, List.mem_cons, List.not_mem_nil, or_self, or_false, false_or]
      by_cases hw : w.ties[i].w = r
      · simp -dsimp only [hw, beq_self_eq_true, sSeq, sAsg, sRet, sIf, sExp, sFor_eq, sPar2, sPar3, sSetI_eq, sAug_eq, slotA_d, sSetG_eq, sRetG, sGL, sGP, sNil, sBrk, sCnt, sNo, eName_eq, slotE_d, slotE_gen, slotE_scr, slotE_own, eC, eOp, eUn, eSc, eScL, eScR, eCh, eAnd, eOr, eNot, eIf, eTup, eLst, eCB, eIx, eIxN, eSl, eSlN, eSlS, eAddN, eLenN, eApp, eExt, ePop, eCallP_eq, eCallG_eq, eIsi, eGL, eGS, eGC, eGP, aNil, aCons, wB_eq, wTru, wTruN, wAnd, wOr, wNot, wYes, gN, gT_d, gL_own, gL_d, gsC, gsN, oNone, oSome_eq, asI_i, iLst, iTpl, iRg1, iRg2, iEnm, iEnmT, iZp, iScr, eLc_eq, hasD, slotD_eq, slotK_d, slotK_own, ownD_eq, slotO_own, isOwn, scrD, putE, asDs, asD_d, asD_own, argR_d, argR_own, argR_gen, argR_scr, asL_own, asL_d, asT_d, asB_d, sub_i, iadd_i, mul_i, fdiv_i, mod_i, pow_i, lt_i, le_i, gt_i, ge_i, add_i, add_l, add_t, cat_i, cat_l, cat_t, neg_i, eqf_i, eqt_i, lenC_l, lenC_t, absC_i, intC_i, tupC_l, tupC_t, max2C_i, min2C_i, lenC_s, reprC_b, reprA_b, reprA_i, reprA_t, reprC_i, eqf_rb, eqt_rb, eqt_ri, slD_t, max3C_i, ixt0, ixt1, ixt2, ixt3, ixl0, ixl1, ixtl, ixll, truD, lenD, startC, endP, List.map_cons, List.map_nil, List.length_cons, List.length_nil, List.cons_append, List.nil_append, List.getElem?_cons_zero, List.getElem?_cons_succ, List.set_cons_zero, List.set_cons_succ, List.replicate_succ, List.replicate_zero, Nat.reduceSub, Nat.reduceAdd, Nat.reduceLT, Option.isSome_some, true_and, and_true, ne_eq, not_false_eq_true, reduceCtorEq, if_true, if_false, Bool.false_eq_true, decide_eq_true_eq, List.mem_cons, List.not_mem_nil, or_self, or_false, false_or]
        refine ⟨by decide, by simp; omega, hR _ ⟨some (.d (.int (0 + i))), x5, h5, ?_⟩⟩
        rw [hs, hv, hw]
        simp [eC2]
      · have hb : (w.ties[i].w == r) = false := by simpa using hw
        simp -dsimp only [hb, sSeq, sAsg, sRet, sIf, sExp, sFor_eq, sPar2, sPar3, sSetI_eq, sAug_eq, slotA_d, sSetG_eq, sRetG, sGL, sGP, sNil, sBrk, sCnt, sNo, eName_eq, slotE_d, slotE_gen, slotE_scr, slotE_own, eC, eOp, eUn, eSc, eScL, eScR, eCh, eAnd, eOr, eNot, eIf, eTup, eLst, eCB, eIx, eIxN, eSl, eSlN, eSlS, eAddN, eLenN, eApp, eExt, ePop, eCallP_eq, eCallG_eq, eIsi, eGL, eGS, eGC, eGP, aNil, aCons, wB_eq, wTru, wTruN, wAnd, wOr, wNot, wYes, gN, gT_d, gL_own, gL_d, gsC, gsN, oNone, oSome_eq, asI_i, iLst, iTpl, iRg1, iRg2, iEnm, iEnmT, iZp, iScr, eLc_eq, hasD, slotD_eq, slotK_d, slotK_own, ownD_eq, slotO_own, isOwn, scrD, putE, asDs, asD_d, asD_own, argR_d, argR_own, argR_gen, argR_scr, asL_own, asL_d, asT_d, asB_d, sub_i, iadd_i, mul_i, fdiv_i, mod_i, pow_i, lt_i, le_i, gt_i, ge_i, add_i, add_l, add_t, cat_i, cat_l, cat_t, neg_i, eqf_i, eqt_i, lenC_l, lenC_t, absC_i, intC_i, tupC_l, tupC_t, max2C_i, min2C_i, lenC_s, reprC_b, reprA_b, reprA_i, reprA_t, reprC_i, eqf_rb, eqt_rb, eqt_ri, slD_t, max3C_i, ixt0, ixt1, ixt2, ixt3, ixl0, ixl1, ixtl, ixll, truD, lenD, startC, endP, List.map_cons, List.map_nil, List.length_cons, List.length_nil, List.cons_append, List.nil_append, List.getElem?_cons_zero, List.getElem?_cons_succ, List.set_cons_zero, List.set_cons_succ, List.replicate_succ, List.replicate_zero, Nat.reduceSub, Nat.reduceAdd, Nat.reduceLT, Option.isSome_some, true_and, and_true, ne_eq, not_false_eq_true, reduceCtorEq, if_true, if_false, Bool.false_eq_true, decide_eq_true_eq, List.mem_cons, List.not_mem_nil, or_self, or_false, false_or]
        refine ⟨by simp; omega, hR _ ⟨some (.d (.int (0 + i))), x5, h5, ?_⟩⟩
        rw [hs, if_pos hv, if_neg hw]
        simp [eC2]
    · have hb : (w.ties[i].v == r) = false := by simpa using hv
      simp -dsimp only [hb, sSeq, sAsg, sRet, sIf, sExp, sFor_eq, sPar2, sPar3, sSetI_eq, sAug_eq, slotA_d, sSetG_eq, sRetG, sGL, sGP, sNil, sBrk, sCnt, sNo, eName_eq, slotE_d, slotE_gen, slotE_scr, slotE_own, eC, eOp, eUn, eSc, eScL, eScR, eCh, eAnd, eOr, eNot, eIf, eTup, eLst, eCB, eIx, eIxN, eSl, eSlN, eSlS, eAddN, eLenN, eApp, eExt, ePop, eCallP_eq, eCallG_eq, eIsi, eGL, eGS, eGC, eGP, aNil, aCons, wB_eq, wTru, wTruN, wAnd, wOr, wNot, wYes, gN, gT_d, gL_own, gL_d, gsC, gsN, oNone, oSome_eq, asI_i, iLst, iTpl, iRg1, iRg2, iEnm, iEnmT, iZp, iScr, eLc_eq, hasD, slotD_eq, slotK_d, slotK_own, ownD_eq, slotO_own, isOwn, scrD, putE, asDs, asD_d, asD_own, argR_d, argR_own, argR_gen, argR_scr, asL_own, asL_d, asT_d, asB_d, sub_i, iadd_i, mul_i, fdiv_i, mod_i, pow_i, lt_i, le_i, gt_i, ge_i, add_i, add_l, add_t, cat_i, cat_l, cat_t, neg_i, eqf_i, eqt_i, lenC_l, lenC_t, absC_i, intC_i, tupC_l, tupC_t, max2C_i, min2C_i, lenC_s, reprC_b, reprA_b, reprA_i, reprA_t, reprC_i, eqf_rb, eqt_rb, eqt_ri, slD_t, max3C_i, ixt0, ixt1, ixt2, ixt3, ixl0, ixl1, ixtl, ixll, truD, lenD, startC, endP, List.map_cons, List.map_nil, List.length_cons, List.length_nil, List.cons_append, List.nil_append, List.getElem?_cons_zero, List.getElem?_cons_succ, List.set_cons_zero, List.set_cons_succ, List.replicate_succ, List.replicate_zero, Nat.reduceSub, Nat.reduceAdd, Nat.reduceLT, Option.isSome_some, true_and, and_true, ne_eq, not_false_eq_true, reduceCtorEq, if_true, if_false, Bool.false_eq_true, decide_eq_true_eq, List.mem_cons, List.not_mem_nil, or_self, or_false, false_or]
      refine ⟨w, _, _, _, rfl, hat, ?_⟩
      simp -dsimp only [eT, rev, sSeq, sAsg, sRet, sIf, sExp, sFor_eq, sPar2, sPar3, sSetI_eq, sAug_eq, slotA_d, sSetG_eq, sRetG, sGL, sGP, sNil, sBrk, sCnt, sNo, eName_eq, slotE_d, slotE_gen, slotE_scr, slotE_own, eC, eOp, eUn, eSc, eScL, eScR, eCh, eAnd, eOr, eNot, eIf, eTup, eLst, eCB, eIx, eIxN, eSl, eSlN, eSlS, eAddN, eLenN, eApp, eExt, ePop, eCallP_eq, eCallG_eq, eIsi, eGL, eGS, eGC, eGP, aNil, aCons, wB_eq, wTru, wTruN, wAnd, wOr, wNot, wYes, gN, gT_d, gL_own, gL_d, gsC, gsN, oNone, oSome_eq, asI_i, iLst, iTpl, iRg1, iRg2, iEnm, iEnmT, iZp, iScr, eLc_eq, hasD, slotD_eq, slotK_d, slotK_own, ownD_eq, slotO_own, isOwn, scrD, putE, asDs, asD_d, asD_own, argR_d, argR_own, argR_gen, argR_scr, asL_own, asL_d, asT_d, asB_d, sub_i, iadd_i, mul_i, fdiv_i, mod_i, pow_i, lt_i, le_i, gt_i, ge_i, add_i, add_l, add_t, cat_i, cat_l, cat_t, neg_i, eqf_i, eqt_i, lenC_l, lenC_t, absC_i, intC_i, tupC_l, tupC_t, max2C_i, min2C_i, lenC_s, reprC_b, reprA_b, reprA_i, reprA_t, reprC_i, eqf_rb, eqt_rb, eqt_ri, slD_t, max3C_i, ixt0, ixt1, ixt2, ixt3, ixl0, ixl1, ixtl, ixll, truD, lenD, startC, endP, List.map_cons, List.map_nil, List.length_cons, List.length_nil, List.cons_append, List.nil_append, List.getElem?_cons_zero, List.getElem?_cons_succ, List.set_cons_zero, List.set_cons_succ, List.replicate_succ, List.replicate_zero, Nat.reduceSub, Nat.reduceAdd, Nat.reduceLT, Option.isSome_some, true_and, and_true, ne_eq, not_false_eq_true, reduceCtorEq, if_true, if_false, Bool.false_eq_true, decide_eq_true_eq, List.mem_cons, List.not_mem_nil, or_self, or_false, false_or]
      by_cases hw : w.ties[i].w = r
      · simp -dsimp only [hw, beq_self_eq_true, sSeq, sAsg, sRet, sIf, sExp, sFor_eq, sPar2, sPar3, sSetI_eq, sAug_eq, slotA_d, sSetG_eq, sRetG, sGL, sGP, sNil, sBrk, sCnt, sNo, eName_eq, slotE_d, slotE_gen, slotE_scr, slotE_own, eC, eOp, eUn, eSc, eScL, eScR, eCh, eAnd, eOr, eNot, eIf, eTup, eLst, eCB, eIx, eIxN, eSl, eSlN, eSlS, eAddN, eLenN, eApp, eExt, ePop, eCallP_eq, eCallG_eq, eIsi, eGL, eGS, eGC, eGP, aNil, aCons, wB_eq, wTru, wTruN, wAnd, wOr, wNot, wYes, gN, gT_d, gL_own, gL_d, gsC, gsN, oNone, oSome_eq, asI_i, iLst, iTpl, iRg1, iRg2, iEnm, iEnmT, iZp, iScr, eLc_eq, hasD, slotD_eq, slotK_d, slotK_own, ownD_eq, slotO_own, isOwn, scrD, putE, asDs, asD_d, asD_own, argR_d, argR_own, argR_gen, argR_scr, asL_own, asL_d, asT_d, asB_d, sub_i, iadd_i, mul_i, fdiv_i, mod_i, pow_i, lt_i, le_i, gt_i, ge_i, add_i, add_l, add_t, cat_i, cat_l, cat_t, neg_i, eqf_i, eqt_i, lenC_l, lenC_t, absC_i, intC_i, tupC_l, tupC_t, max2C_i, min2C_i, lenC_s, reprC_b, reprA_b, reprA_i, reprA_t, reprC_i, eqf_rb, eqt_rb, eqt_ri, slD_t, max3C_i, ixt0, ixt1, ixt2, ixt3, ixl0, ixl1, ixtl, ixll, truD, lenD, startC, endP, List.map_cons, List.map_nil, List.length_cons, List.length_nil, List.cons_append, List.nil_append, List.getElem?_cons_zero, List.getElem?_cons_succ, List.set_cons_zero, List.set_cons_succ, List.replicate_succ, List.replicate_zero, Nat.reduceSub, Nat.reduceAdd, Nat.reduceLT, Option.isSome_some, true_and, and_true, ne_eq, not_false_eq_true, reduceCtorEq, if_true, if_false, Bool.false_eq_true, decide_eq_true_eq, List.mem_cons, List.not_mem_nil, or_self, or_false, false_or]
        refine ⟨by decide, by simp; omega, hR _ ⟨some (.d (.int (0 + i))), x5, h5, ?_⟩⟩
        rw [hs, if_neg hv, if_pos hw]
        simp [eC2]
      · have hb : (w.ties[i].w == r) = false := by simpa using hw
        simp -dsimp only [hb, sSeq, sAsg, sRet, sIf, sExp, sFor_eq, sPar2, sPar3, sSetI_eq, sAug_eq, slotA_d, sSetG_eq, sRetG, sGL, sGP, sNil, sBrk, sCnt, sNo, eName_eq, slotE_d, slotE_gen, slotE_scr, slotE_own, eC, eOp, eUn, eSc, eScL, eScR, eCh, eAnd, eOr, eNot, eIf, eTup, eLst, eCB, eIx, eIxN, eSl, eSlN, eSlS, eAddN, eLenN, eApp, eExt, ePop, eCallP_eq, eCallG_eq, eIsi, eGL, eGS, eGC, eGP, aNil, aCons, wB_eq, wTru, wTruN, wAnd, wOr, wNot, wYes, gN, gT_d, gL_own, gL_d, gsC, gsN, oNone, oSome_eq, asI_i, iLst, iTpl, iRg1, iRg2, iEnm, iEnmT, iZp, iScr, eLc_eq, hasD, slotD_eq, slotK_d, slotK_own, ownD_eq, slotO_own, isOwn, scrD, putE, asDs, asD_d, asD_own, argR_d, argR_own, argR_gen, argR_scr, asL_own, asL_d, asT_d, asB_d, sub_i, iadd_i, mul_i, fdiv_i, mod_i, pow_i, lt_i, le_i, gt_i, ge_i, add_i, add_l, add_t, cat_i, cat_l, cat_t, neg_i, eqf_i, eqt_i, lenC_l, lenC_t, absC_i, intC_i, tupC_l, tupC_t, max2C_i, min2C_i, lenC_s, reprC_b, reprA_b, reprA_i, reprA_t, reprC_i, eqf_rb, eqt_rb, eqt_ri, slD_t, max3C_i, ixt0, ixt1, ixt2, ixt3, ixl0, ixl1, ixtl, ixll, truD, lenD, startC, endP, List.map_cons, List.map_nil, List.length_cons, List.length_nil, List.cons_append, List.nil_append, List.getElem?_cons_zero, List.getElem?_cons_succ, List.set_cons_zero, List.set_cons_succ, List.replicate_succ, List.replicate_zero, Nat.reduceSub, Nat.reduceAdd, Nat.reduceLT, Option.isSome_some, true_and, and_true, ne_eq, not_false_eq_true, reduceCtorEq, if_true, if_false, Bool.false_eq_true, decide_eq_true_eq, List.mem_cons, List.not_mem_nil, or_self, or_false, false_or]
        refine ⟨by simp; omega, hR _ ⟨some (.d (.int (0 + i))), x5, h5, ?_⟩⟩
        rw [hs, if_neg hv, if_neg hw]
        simp [eC2]
  · obtain ⟨x4, x5, h5, rfl⟩ := hI
    try simp -dsimp only [sSeq, sAsg, sRet, sIf, sExp, sFor_eq, sPar2, sPar3, sSetI_eq, sAug_eq, slotA_d, sSetG_eq, sRetG, sGL, sGP, sNil, sBrk, sCnt, sNo, eName_eq, slotE_d, slotE_gen, slotE_scr, slotE_own, eC, eOp, eUn, eSc, eScL, eScR, eCh, eAnd, eOr, eNot, eIf, eTup, eLst, eCB, eIx, eIxN, eSl, eSlN, eSlS, eAddN, eLenN, eApp, eExt, ePop, eCallP_eq, eCallG_eq, eIsi, eGL, eGS, eGC, eGP, aNil, aCons, wB_eq, wTru, wTruN, wAnd, wOr, wNot, wYes, gN, gT_d, gL_own, gL_d, gsC, gsN, oNone, oSome_eq, asI_i, iLst, iTpl, iRg1, iRg2, iEnm, iEnmT, iZp, iScr, eLc_eq, hasD, slotD_eq, slotK_d, slotK_own, ownD_eq, slotO_own, isOwn, scrD, putE, asDs, asD_d, asD_own, argR_d, argR_own, argR_gen, argR_scr, asL_own, asL_d, asT_d, asB_d, sub_i, iadd_i, mul_i, fdiv_i, mod_i, pow_i, lt_i, le_i, gt_i, ge_i, add_i, add_l, add_t, cat_i, cat_l, cat_t, neg_i, eqf_i, eqt_i, lenC_l, lenC_t, absC_i, intC_i, tupC_l, tupC_t, max2C_i, min2C_i, lenC_s, reprC_b, reprA_b, reprA_i, reprA_t, reprC_i, eqf_rb, eqt_rb, eqt_ri, slD_t, max3C_i, ixt0, ixt1, ixt2, ixt3, ixl0, ixl1, ixtl, ixll, truD, lenD, startC, endP, List.map_cons, List.map_nil, List.length_cons, List.length_nil, List.cons_append, List.nil_append, List.getElem?_cons_zero, List.getElem?_cons_succ, List.set_cons_zero, List.set_cons_succ, List.replicate_succ, List.replicate_zero, Nat.reduceSub, Nat.reduceAdd, Nat.reduceLT, Option.isSome_some, true_and, and_true, ne_eq, not_false_eq_true, reduceCtorEq, if_true, if_false, Bool.false_eq_true, decide_eq_true_eq, List.mem_cons, List.not_mem_nil, or_self, or_false, false_or]
    unfold outs at hQ
    simp [rngX_length] at hQ ⊢
    exact hQ
end K

set_option Elab.async false
set_option maxRecDepth 100000
set_option linter.all false
set_option autoImplicit false
set_option maxHeartbeats 4000000
namespace K
open PySem L2 Dl
/-! ### drawn webs -/
abbrev C_law_web : Cn := fun rs g Q => ∃ (rooms ties gr : Int) (n : Nat), rs = [.gen, .d (.int rooms), .d (.int ties), .d (.int gr)] ∧ g = some n ∧ 1 ≤ rooms ∧ rooms ≤ 100 ∧ 0 ≤ ties ∧ ties ≤ 100 ∧ 0 < gr ∧ gr ≤ 100000 ∧ n + 700 ≤ 2 ^ 40 ∧
  ∀ (w : Web) (m : Nat), WebOk w gr → w.rooms = rooms → (w.ties.length : Int) = ties → m ≤ n + 700 → Q (.d (eW w)) (some m)
def w_law_web : WS :=
  (sSeq (sAsg (eLst aNil) (gN 4))
  (sSeq (sFor (iRg1 (aCons (eName 2) aNil)) (gN 5)
  (sSeq (sAsg (eIf (wB (eScR 1 ltD (eAddN 5 (eC (.int 1))))) (eCallG C_law_draw (aCons (eName 0) (aCons (eAddN 5 (eC (.int 1))) aNil))) (eCallG C_law_draw (aCons (eName 0) (aCons (eName 1) aNil)))) (gN 6))
  (sSeq (sAsg (eIf (wB (eScR 1 ltD (eAddN 5 (eC (.int 1))))) (eAddN 5 (eC (.int 1))) (eCallG C_law_draw (aCons (eName 0) (aCons (eName 1) aNil)))) (gN 7))
  (sSeq (sAsg (eLc (iRg1 (aCons (eC (.int 2)) aNil)) (gN 10) wYes (eOp mulD (eOp addD (eC (.int 1)) (eCallG C_law_draw (aCons (eName 0) (aCons (eName 3) aNil)))) (eCallG C_law_of (aCons (eName 0) (aCons (eLst (aCons (eC (.int 1)) (aCons (eC (.int 1)) (aCons (eC (.int 1)) (aCons (eUn negD (eC (.int 1))) aNil))))) aNil)))) [10]) (gL 2 (gsCons (gN 8) (gsCons (gN 9) gsNil))))
  (sExp (eApp 4 (eIf (wB (eSc (eqD false) (eCallG C_law_draw (aCons (eName 0) (aCons (eC (.int 2)) aNil))) (eC (.int 0)))) (eTup (aCons (eName 6) (aCons (eName 7) (aCons (eName 8) (aCons (eName 9) aNil))))) (eTup (aCons (eName 7) (aCons (eName 6) (aCons (eName 9) (aCons (eName 8) aNil))))))))))))
  (sRet (eTup (aCons (eName 1) (aCons (eCB tupC (aCons (eName 4) aNil)) aNil))))))
theorem len_law_web (rs : List Rv) (g : Option Nat) (Q : Rv → Option Nat → Prop) (h : C_law_web rs g Q) : rs.length = 4 := by
  obtain ⟨a, b, c, n, rfl, _⟩ := h
  rfl
theorem two_rng : rngX 0 (Int.toNat 2) = [.int 0, .int 1] := rfl
theorem sgn_of {x : Px} (h : x ∈ [PyData.int 1, PyData.int 1, PyData.int 1, PyData.int (-1)]) : ∃ s : Int, x = .int s ∧ (s = 1 ∨ s = -1) := by
  simp only [List.mem_cons, List.not_mem_nil, or_false] at h
  rcases h with h | h | h | h
  · exact ⟨1, h, .inl rfl⟩
  · exact ⟨1, h, .inl rfl⟩
  · exact ⟨1, h, .inl rfl⟩
  · exact ⟨-1, h, .inr rfl⟩
theorem ends_ok {p gr s : Int} (h0 : 0 ≤ p) (h1 : p < gr) (hs : s = 1 ∨ s = -1) : (1 + p) * s ≠ 0 ∧ ((1 + p) * s).natAbs ≤ gr := by
  rcases hs with rfl | rfl <;> omega
theorem spec_law_web (rs : List Rv) (g : Option Nat) (Q : Rv → Option Nat → Prop) (h : C_law_web rs g Q) : w_law_web (startC 11 rs g) (endP Q) fun _ _ => False := by
  obtain ⟨rooms, ties, gr, n, rfl, rfl, h1, h2, h3, h4, h5, h6, hn, hQ⟩ := h
  simp -dsimp only [w_law_web, C_law_draw, C_law_of, sSeq, sAsg, sRet, sIf, sExp, sFor_eq, sPar2, sPar3, sSetI_eq, sAug_eq, slotA_d, sSetG_eq, sRetG, sGL, sGP, sNil, sBrk, sCnt, sNo, eName_eq, slotE_d, slotE_gen, slotE_scr, slotE_own, eC, eOp, eUn, eSc, eScL, eScR, eCh, eAnd, eOr, eNot, eIf, eTup, eLst, eCB, eIx, eIxN, eSl, eSlN, eSlS, eAddN, eLenN, eApp, eExt, ePop, eCallP_eq, eCallG_eq, eIsi, eGL, eGS, eGC, eGP, aNil, aCons, wB_eq, wTru, wTruN, wAnd, wOr, wNot, wYes, gN, gT_d, gL_own, gL_d, gsC, gsN, oNone, oSome_eq, asI_i, iLst, iTpl, iRg1, iRg2, iEnm, iEnmT, iZp, iScr, eLc_eq, hasD, slotD_eq, slotK_d, slotK_own, ownD_eq, slotO_own, isOwn, scrD, putE, asDs, asD_d, asD_own, argR_d, argR_own, argR_gen, argR_scr, asL_own, asL_d, asT_d, asB_d, sub_i, iadd_i, mul_i, fdiv_i, mod_i, pow_i, lt_i, le_i, gt_i, ge_i, add_i, add_l, add_t, cat_i, cat_l, cat_t, neg_i, eqf_i, eqt_i, lenC_l, lenC_t, absC_i, intC_i, tupC_l, tupC_t, max2C_i, min2C_i, lenC_s, reprC_b, reprA_b, reprA_i, reprA_t, reprC_i, eqf_rb, eqt_rb, eqt_ri, slD_t, max3C_i, ixt0, ixt1, ixt2, ixt3, ixl0, ixl1, ixtl, ixll, truD, lenD, startC, endP, List.map_cons, List.map_nil, List.length_cons, List.length_nil, List.cons_append, List.nil_append, List.getElem?_cons_zero, List.getElem?_cons_succ, List.set_cons_zero, List.set_cons_succ, List.replicate_succ, List.replicate_zero, Nat.reduceSub, Nat.reduceAdd, Nat.reduceLT, Option.isSome_some, true_and, and_true, ne_eq, not_false_eq_true, reduceCtorEq, if_true, if_false, Bool.false_eq_true, decide_eq_true_eq, List.mem_cons, List.not_mem_nil, or_self, or_false, false_or]
  refine ⟨by decide, by unfold smI; omega, ?_⟩
  refine forW_ind _ (fun i c => ∃ (l : List Tie) (m : Nat) (x5 x6 x7 x8 x9 x10 : Option Rv), l.length = i ∧ m ≤ n + 7 * i ∧ (∀ t ∈ l, TieOk rooms gr t) ∧ (∀ xs, x10 ≠ some (.own xs)) ∧ c = ⟨[some .gen, some (.d (.int rooms)), some (.d (.int ties)), some (.d (.int gr)), some (.own (l.map eT)), x5, x6, x7, x8, x9, x10], some m⟩) (fun i x c hx hI R hR => ?_) (fun c hI => ?_) _ ⟨[], n, _, _, _, _, _, _, rfl, by omega, by simp, by simp, rfl⟩
  · obtain ⟨l, m, x5, x6, x7, x8, x9, x10, hl, hm, ht, h10, rfl⟩ := hI
    obtain ⟨hi, rfl⟩ := rng_at hx
    have hi2 : i < 100 := by omega
    try simp -dsimp only [sSeq, sAsg, sRet, sIf, sExp, sFor_eq, sPar2, sPar3, sSetI_eq, sAug_eq, slotA_d, sSetG_eq, sRetG, sGL, sGP, sNil, sBrk, sCnt, sNo, eName_eq, slotE_d, slotE_gen, slotE_scr, slotE_own, eC, eOp, eUn, eSc, eScL, eScR, eCh, eAnd, eOr, eNot, eIf, eTup, eLst, eCB, eIx, eIxN, eSl, eSlN, eSlS, eAddN, eLenN, eApp, eExt, ePop, eCallP_eq, eCallG_eq, eIsi, eGL, eGS, eGC, eGP, aNil, aCons, wB_eq, wTru, wTruN, wAnd, wOr, wNot, wYes, gN, gT_d, gL_own, gL_d, gsC, gsN, oNone, oSome_eq, asI_i, iLst, iTpl, iRg1, iRg2, iEnm, iEnmT, iZp, iScr, eLc_eq, hasD, slotD_eq, slotK_d, slotK_own, ownD_eq, slotO_own, isOwn, scrD, putE, asDs, asD_d, asD_own, argR_d, argR_own, argR_gen, argR_scr, asL_own, asL_d, asT_d, asB_d, sub_i, iadd_i, mul_i, fdiv_i, mod_i, pow_i, lt_i, le_i, gt_i, ge_i, add_i, add_l, add_t, cat_i, cat_l, cat_t, neg_i, eqf_i, eqt_i, lenC_l, lenC_t, absC_i, intC_i, tupC_l, tupC_t, max2C_i, min2C_i, lenC_s, reprC_b, reprA_b, reprA_i, reprA_t, reprC_i, eqf_rb, eqt_rb, eqt_ri, slD_t, max3C_i, ixt0, ixt1, ixt2, ixt3, ixl0, ixl1, ixtl, ixll, truD, lenD, startC, endP, List.map_cons, List.map_nil, List.length_cons, List.length_nil, List.cons_append, List.nil_append, List.getElem?_cons_zero, List.getElem?_cons_succ, List.set_cons_zero, List.set_cons_succ, List.replicate_succ, List.replicate_zero, Nat.reduceSub, Nat.reduceAdd, Nat.reduceLT, Option.isSome_some, true_and, and_true, ne_eq, not_false_eq_true, reduceCtorEq, if_true, if_false, Bool.false_eq_true, decide_eq_true_eq, List.mem_cons, List.not_mem_nil, or_self, or_false, false_or]
    by_cases hb : 0 + (i : Int) + 1 < rooms
    · simp -dsimp only [hb, sSeq, sAsg, sRet, sIf, sExp, sFor_eq, sPar2, sPar3, sSetI_eq, sAug_eq, slotA_d, sSetG_eq, sRetG, sGL, sGP, sNil, sBrk, sCnt, sNo, eName_eq, slotE_d, slotE_gen, slotE_scr, slotE_own, eC, eOp, eUn, eSc, eScL, eScR, eCh, eAnd, eOr, eNot, eIf, eTup, eLst, eCB, eIx, eIxN, eSl, eSlN, eSlS, eAddN, eLenN, eApp, eExt, ePop, eCallP_eq, eCallG_eq, eIsi, eGL, eGS, eGC, eGP, aNil, aCons, wB_eq, wTru, wTruN, wAnd, wOr, wNot, wYes, gN, gT_d, gL_own, gL_d, gsC, gsN, oNone, oSome_eq, asI_i, iLst, iTpl, iRg1, iRg2, iEnm, iEnmT, iZp, iScr, eLc_eq, hasD, slotD_eq, slotK_d, slotK_own, ownD_eq, slotO_own, isOwn, scrD, putE, asDs, asD_d, asD_own, argR_d, argR_own, argR_gen, argR_scr, asL_own, asL_d, asT_d, asB_d, sub_i, iadd_i, mul_i, fdiv_i, mod_i, pow_i, lt_i, le_i, gt_i, ge_i, add_i, add_l, add_t, cat_i, cat_l, cat_t, neg_i, eqf_i, eqt_i, lenC_l, lenC_t, absC_i, intC_i, tupC_l, tupC_t, max2C_i, min2C_i, lenC_s, reprC_b, reprA_b, reprA_i, reprA_t, reprC_i, eqf_rb, eqt_rb, eqt_ri, slD_t, max3C_i, ixt0, ixt1, ixt2, ixt3, ixl0, ixl1, ixtl, ixll, truD, lenD, startC, endP, List.map_cons, List.map_nil, List.length_cons, List.length_nil, List.cons_append, List.nil_append, List.getElem?_cons_zero, List.getElem?_cons_succ, List.set_cons_zero, List.set_cons_succ, List.replicate_succ, List.replicate_zero, Nat.reduceSub, Nat.reduceAdd, Nat.reduceLT, Option.isSome_some, true_and, and_true, ne_eq, not_false_eq_true, reduceCtorEq, if_true, if_false, Bool.false_eq_true, decide_eq_true_eq, List.mem_cons, List.not_mem_nil, or_self, or_false, false_or]
      refine ⟨_, _, rfl, rfl, by omega, by omega, pow9000 (by omega) (by omega), fun v m1 hva hvb hm1 => ?_⟩
      try simp -dsimp only [sSeq, sAsg, sRet, sIf, sExp, sFor_eq, sPar2, sPar3, sSetI_eq, sAug_eq, slotA_d, sSetG_eq, sRetG, sGL, sGP, sNil, sBrk, sCnt, sNo, eName_eq, slotE_d, slotE_gen, slotE_scr, slotE_own, eC, eOp, eUn, eSc, eScL, eScR, eCh, eAnd, eOr, eNot, eIf, eTup, eLst, eCB, eIx, eIxN, eSl, eSlN, eSlS, eAddN, eLenN, eApp, eExt, ePop, eCallP_eq, eCallG_eq, eIsi, eGL, eGS, eGC, eGP, aNil, aCons, wB_eq, wTru, wTruN, wAnd, wOr, wNot, wYes, gN, gT_d, gL_own, gL_d, gsC, gsN, oNone, oSome_eq, asI_i, iLst, iTpl, iRg1, iRg2, iEnm, iEnmT, iZp, iScr, eLc_eq, hasD, slotD_eq, slotK_d, slotK_own, ownD_eq, slotO_own, isOwn, scrD, putE, asDs, asD_d, asD_own, argR_d, argR_own, argR_gen, argR_scr, asL_own, asL_d, asT_d, asB_d, sub_i, iadd_i, mul_i, fdiv_i, mod_i, pow_i, lt_i, le_i, gt_i, ge_i, add_i, add_l, add_t, cat_i, cat_l, cat_t, neg_i, eqf_i, eqt_i, lenC_l, lenC_t, absC_i, intC_i, tupC_l, tupC_t, max2C_i, min2C_i, lenC_s, reprC_b, reprA_b, reprA_i, reprA_t, reprC_i, eqf_rb, eqt_rb, eqt_ri, slD_t, max3C_i, ixt0, ixt1, ixt2, ixt3, ixl0, ixl1, ixtl, ixll, truD, lenD, startC, endP, List.map_cons, List.map_nil, List.length_cons, List.length_nil, List.cons_append, List.nil_append, List.getElem?_cons_zero, List.getElem?_cons_succ, List.set_cons_zero, List.set_cons_succ, List.replicate_succ, List.replicate_zero, Nat.reduceSub, Nat.reduceAdd, Nat.reduceLT, Option.isSome_some, true_and, and_true, ne_eq, not_false_eq_true, reduceCtorEq, if_true, if_false, Bool.false_eq_true, decide_eq_true_eq, List.mem_cons, List.not_mem_nil, or_self, or_false, false_or]
      simp -dsimp only [hb, sSeq, sAsg, sRet, sIf, sExp, sFor_eq, sPar2, sPar3, sSetI_eq, sAug_eq, slotA_d, sSetG_eq, sRetG, sGL, sGP, sNil, sBrk, sCnt, sNo, eName_eq, slotE_d, slotE_gen, slotE_scr, slotE_own, eC, eOp, eUn, eSc, eScL, eScR, eCh, eAnd, eOr, eNot, eIf, eTup, eLst, eCB, eIx, eIxN, eSl, eSlN, eSlS, eAddN, eLenN, eApp, eExt, ePop, eCallP_eq, eCallG_eq, eIsi, eGL, eGS, eGC, eGP, aNil, aCons, wB_eq, wTru, wTruN, wAnd, wOr, wNot, wYes, gN, gT_d, gL_own, gL_d, gsC, gsN, oNone, oSome_eq, asI_i, iLst, iTpl, iRg1, iRg2, iEnm, iEnmT, iZp, iScr, eLc_eq, hasD, slotD_eq, slotK_d, slotK_own, ownD_eq, slotO_own, isOwn, scrD, putE, asDs, asD_d, asD_own, argR_d, argR_own, argR_gen, argR_scr, asL_own, asL_d, asT_d, asB_d, sub_i, iadd_i, mul_i, fdiv_i, mod_i, pow_i, lt_i, le_i, gt_i, ge_i, add_i, add_l, add_t, cat_i, cat_l, cat_t, neg_i, eqf_i, eqt_i, lenC_l, lenC_t, absC_i, intC_i, tupC_l, tupC_t, max2C_i, min2C_i, lenC_s, reprC_b, reprA_b, reprA_i, reprA_t, reprC_i, eqf_rb, eqt_rb, eqt_ri, slD_t, max3C_i, ixt0, ixt1, ixt2, ixt3, ixl0, ixl1, ixtl, ixll, truD, lenD, startC, endP, List.map_cons, List.map_nil, List.length_cons, List.length_nil, List.cons_append, List.nil_append, List.getElem?_cons_zero, List.getElem?_cons_succ, List.set_cons_zero, List.set_cons_succ, List.replicate_succ, List.replicate_zero, Nat.reduceSub, Nat.reduceAdd, Nat.reduceLT, Option.isSome_some, true_and, and_true, ne_eq, not_false_eq_true, reduceCtorEq, if_true, if_false, Bool.false_eq_true, decide_eq_true_eq, List.mem_cons, List.not_mem_nil, or_self, or_false, false_or]
      have hv : 0 ≤ v ∧ v < rooms := by omega
      have hw : 0 ≤ 0 + (i : Int) + 1 ∧ 0 + (i : Int) + 1 < rooms := by omega
      generalize 0 + (i : Int) + 1 = w at hw hb ⊢
      have hm2 : m1 ≤ n + 7 * i + 2 := by omega
      refine ⟨by unfold smI; omega, by simp [nown, h10], ?_⟩
      simp -dsimp only [two_rng, lcH, lcW, wipeE, sSeq, sAsg, sRet, sIf, sExp, sFor_eq, sPar2, sPar3, sSetI_eq, sAug_eq, slotA_d, sSetG_eq, sRetG, sGL, sGP, sNil, sBrk, sCnt, sNo, eName_eq, slotE_d, slotE_gen, slotE_scr, slotE_own, eC, eOp, eUn, eSc, eScL, eScR, eCh, eAnd, eOr, eNot, eIf, eTup, eLst, eCB, eIx, eIxN, eSl, eSlN, eSlS, eAddN, eLenN, eApp, eExt, ePop, eCallP_eq, eCallG_eq, eIsi, eGL, eGS, eGC, eGP, aNil, aCons, wB_eq, wTru, wTruN, wAnd, wOr, wNot, wYes, gN, gT_d, gL_own, gL_d, gsC, gsN, oNone, oSome_eq, asI_i, iLst, iTpl, iRg1, iRg2, iEnm, iEnmT, iZp, iScr, eLc_eq, hasD, slotD_eq, slotK_d, slotK_own, ownD_eq, slotO_own, isOwn, scrD, putE, asDs, asD_d, asD_own, argR_d, argR_own, argR_gen, argR_scr, asL_own, asL_d, asT_d, asB_d, sub_i, iadd_i, mul_i, fdiv_i, mod_i, pow_i, lt_i, le_i, gt_i, ge_i, add_i, add_l, add_t, cat_i, cat_l, cat_t, neg_i, eqf_i, eqt_i, lenC_l, lenC_t, absC_i, intC_i, tupC_l, tupC_t, max2C_i, min2C_i, lenC_s, reprC_b, reprA_b, reprA_i, reprA_t, reprC_i, eqf_rb, eqt_rb, eqt_ri, slD_t, max3C_i, ixt0, ixt1, ixt2, ixt3, ixl0, ixl1, ixtl, ixll, truD, lenD, startC, endP, List.map_cons, List.map_nil, List.length_cons, List.length_nil, List.cons_append, List.nil_append, List.getElem?_cons_zero, List.getElem?_cons_succ, List.set_cons_zero, List.set_cons_succ, List.replicate_succ, List.replicate_zero, Nat.reduceSub, Nat.reduceAdd, Nat.reduceLT, Option.isSome_some, true_and, and_true, ne_eq, not_false_eq_true, reduceCtorEq, if_true, if_false, Bool.false_eq_true, decide_eq_true_eq, List.mem_cons, List.not_mem_nil, or_self, or_false, false_or]
      refine ⟨_, _, rfl, rfl, by omega, by omega, pow9000 (by omega) (by omega), fun p m2 hpa hpb hm2 => ?_⟩
      try simp -dsimp only [sSeq, sAsg, sRet, sIf, sExp, sFor_eq, sPar2, sPar3, sSetI_eq, sAug_eq, slotA_d, sSetG_eq, sRetG, sGL, sGP, sNil, sBrk, sCnt, sNo, eName_eq, slotE_d, slotE_gen, slotE_scr, slotE_own, eC, eOp, eUn, eSc, eScL, eScR, eCh, eAnd, eOr, eNot, eIf, eTup, eLst, eCB, eIx, eIxN, eSl, eSlN, eSlS, eAddN, eLenN, eApp, eExt, ePop, eCallP_eq, eCallG_eq, eIsi, eGL, eGS, eGC, eGP, aNil, aCons, wB_eq, wTru, wTruN, wAnd, wOr, wNot, wYes, gN, gT_d, gL_own, gL_d, gsC, gsN, oNone, oSome_eq, asI_i, iLst, iTpl, iRg1, iRg2, iEnm, iEnmT, iZp, iScr, eLc_eq, hasD, slotD_eq, slotK_d, slotK_own, ownD_eq, slotO_own, isOwn, scrD, putE, asDs, asD_d, asD_own, argR_d, argR_own, argR_gen, argR_scr, asL_own, asL_d, asT_d, asB_d, sub_i, iadd_i, mul_i, fdiv_i, mod_i, pow_i, lt_i, le_i, gt_i, ge_i, add_i, add_l, add_t, cat_i, cat_l, cat_t, neg_i, eqf_i, eqt_i, lenC_l, lenC_t, absC_i, intC_i, tupC_l, tupC_t, max2C_i, min2C_i, lenC_s, reprC_b, reprA_b, reprA_i, reprA_t, reprC_i, eqf_rb, eqt_rb, eqt_ri, slD_t, max3C_i, ixt0, ixt1, ixt2, ixt3, ixl0, ixl1, ixtl, ixll, truD, lenD, startC, endP, List.map_cons, List.map_nil, List.length_cons, List.length_nil, List.cons_append, List.nil_append, List.getElem?_cons_zero, List.getElem?_cons_succ, List.set_cons_zero, List.set_cons_succ, List.replicate_succ, List.replicate_zero, Nat.reduceSub, Nat.reduceAdd, Nat.reduceLT, Option.isSome_some, true_and, and_true, ne_eq, not_false_eq_true, reduceCtorEq, if_true, if_false, Bool.false_eq_true, decide_eq_true_eq, List.mem_cons, List.not_mem_nil, or_self, or_false, false_or]
      try simp -dsimp only [sSeq, sAsg, sRet, sIf, sExp, sFor_eq, sPar2, sPar3, sSetI_eq, sAug_eq, slotA_d, sSetG_eq, sRetG, sGL, sGP, sNil, sBrk, sCnt, sNo, eName_eq, slotE_d, slotE_gen, slotE_scr, slotE_own, eC, eOp, eUn, eSc, eScL, eScR, eCh, eAnd, eOr, eNot, eIf, eTup, eLst, eCB, eIx, eIxN, eSl, eSlN, eSlS, eAddN, eLenN, eApp, eExt, ePop, eCallP_eq, eCallG_eq, eIsi, eGL, eGS, eGC, eGP, aNil, aCons, wB_eq, wTru, wTruN, wAnd, wOr, wNot, wYes, gN, gT_d, gL_own, gL_d, gsC, gsN, oNone, oSome_eq, asI_i, iLst, iTpl, iRg1, iRg2, iEnm, iEnmT, iZp, iScr, eLc_eq, hasD, slotD_eq, slotK_d, slotK_own, ownD_eq, slotO_own, isOwn, scrD, putE, asDs, asD_d, asD_own, argR_d, argR_own, argR_gen, argR_scr, asL_own, asL_d, asT_d, asB_d, sub_i, iadd_i, mul_i, fdiv_i, mod_i, pow_i, lt_i, le_i, gt_i, ge_i, add_i, add_l, add_t, cat_i, cat_l, cat_t, neg_i, eqf_i, eqt_i, lenC_l, lenC_t, absC_i, intC_i, tupC_l, tupC_t, max2C_i, min2C_i, lenC_s, reprC_b, reprA_b, reprA_i, reprA_t, reprC_i, eqf_rb, eqt_rb, eqt_ri, slD_t, max3C_i, ixt0, ixt1, ixt2, ixt3, ixl0, ixl1, ixtl, ixll, truD, lenD, startC, endP, List.map_cons, List.map_nil, List.length_cons, List.length_nil, List.cons_append, List.nil_append, List.getElem?_cons_zero, List.getElem?_cons_succ, List.set_cons_zero, List.set_cons_succ, List.replicate_succ, List.replicate_zero, Nat.reduceSub, Nat.reduceAdd, Nat.reduceLT, Option.isSome_some, true_and, and_true, ne_eq, not_false_eq_true, reduceCtorEq, if_true, if_false, Bool.false_eq_true, decide_eq_true_eq, List.mem_cons, List.not_mem_nil, or_self, or_false, false_or]
      refine ⟨by simp, _, m2, rfl, rfl, by omega, by simp, by simp, fun sx hsx m3 hm3 => ?_⟩
      obtain ⟨s1, rfl, hs1⟩ := sgn_of hsx
      try simp -dsimp only [sSeq, sAsg, sRet, sIf, sExp, sFor_eq, sPar2, sPar3, sSetI_eq, sAug_eq, slotA_d, sSetG_eq, sRetG, sGL, sGP, sNil, sBrk, sCnt, sNo, eName_eq, slotE_d, slotE_gen, slotE_scr, slotE_own, eC, eOp, eUn, eSc, eScL, eScR, eCh, eAnd, eOr, eNot, eIf, eTup, eLst, eCB, eIx, eIxN, eSl, eSlN, eSlS, eAddN, eLenN, eApp, eExt, ePop, eCallP_eq, eCallG_eq, eIsi, eGL, eGS, eGC, eGP, aNil, aCons, wB_eq, wTru, wTruN, wAnd, wOr, wNot, wYes, gN, gT_d, gL_own, gL_d, gsC, gsN, oNone, oSome_eq, asI_i, iLst, iTpl, iRg1, iRg2, iEnm, iEnmT, iZp, iScr, eLc_eq, hasD, slotD_eq, slotK_d, slotK_own, ownD_eq, slotO_own, isOwn, scrD, putE, asDs, asD_d, asD_own, argR_d, argR_own, argR_gen, argR_scr, asL_own, asL_d, asT_d, asB_d, sub_i, iadd_i, mul_i, fdiv_i, mod_i, pow_i, lt_i, le_i, gt_i, ge_i, add_i, add_l, add_t, cat_i, cat_l, cat_t, neg_i, eqf_i, eqt_i, lenC_l, lenC_t, absC_i, intC_i, tupC_l, tupC_t, max2C_i, min2C_i, lenC_s, reprC_b, reprA_b, reprA_i, reprA_t, reprC_i, eqf_rb, eqt_rb, eqt_ri, slD_t, max3C_i, ixt0, ixt1, ixt2, ixt3, ixl0, ixl1, ixtl, ixll, truD, lenD, startC, endP, List.map_cons, List.map_nil, List.length_cons, List.length_nil, List.cons_append, List.nil_append, List.getElem?_cons_zero, List.getElem?_cons_succ, List.set_cons_zero, List.set_cons_succ, List.replicate_succ, List.replicate_zero, Nat.reduceSub, Nat.reduceAdd, Nat.reduceLT, Option.isSome_some, true_and, and_true, ne_eq, not_false_eq_true, reduceCtorEq, if_true, if_false, Bool.false_eq_true, decide_eq_true_eq, List.mem_cons, List.not_mem_nil, or_self, or_false, false_or]
      refine ⟨CMul2.r (by omega) (by omega), ?_⟩
      refine ⟨_, _, rfl, rfl, by omega, by omega, pow9000 (by omega) (by omega), fun q m4 hqa hqb hm4 => ?_⟩
      try simp -dsimp only [sSeq, sAsg, sRet, sIf, sExp, sFor_eq, sPar2, sPar3, sSetI_eq, sAug_eq, slotA_d, sSetG_eq, sRetG, sGL, sGP, sNil, sBrk, sCnt, sNo, eName_eq, slotE_d, slotE_gen, slotE_scr, slotE_own, eC, eOp, eUn, eSc, eScL, eScR, eCh, eAnd, eOr, eNot, eIf, eTup, eLst, eCB, eIx, eIxN, eSl, eSlN, eSlS, eAddN, eLenN, eApp, eExt, ePop, eCallP_eq, eCallG_eq, eIsi, eGL, eGS, eGC, eGP, aNil, aCons, wB_eq, wTru, wTruN, wAnd, wOr, wNot, wYes, gN, gT_d, gL_own, gL_d, gsC, gsN, oNone, oSome_eq, asI_i, iLst, iTpl, iRg1, iRg2, iEnm, iEnmT, iZp, iScr, eLc_eq, hasD, slotD_eq, slotK_d, slotK_own, ownD_eq, slotO_own, isOwn, scrD, putE, asDs, asD_d, asD_own, argR_d, argR_own, argR_gen, argR_scr, asL_own, asL_d, asT_d, asB_d, sub_i, iadd_i, mul_i, fdiv_i, mod_i, pow_i, lt_i, le_i, gt_i, ge_i, add_i, add_l, add_t, cat_i, cat_l, cat_t, neg_i, eqf_i, eqt_i, lenC_l, lenC_t, absC_i, intC_i, tupC_l, tupC_t, max2C_i, min2C_i, lenC_s, reprC_b, reprA_b, reprA_i, reprA_t, reprC_i, eqf_rb, eqt_rb, eqt_ri, slD_t, max3C_i, ixt0, ixt1, ixt2, ixt3, ixl0, ixl1, ixtl, ixll, truD, lenD, startC, endP, List.map_cons, List.map_nil, List.length_cons, List.length_nil, List.cons_append, List.nil_append, List.getElem?_cons_zero, List.getElem?_cons_succ, List.set_cons_zero, List.set_cons_succ, List.replicate_succ, List.replicate_zero, Nat.reduceSub, Nat.reduceAdd, Nat.reduceLT, Option.isSome_some, true_and, and_true, ne_eq, not_false_eq_true, reduceCtorEq, if_true, if_false, Bool.false_eq_true, decide_eq_true_eq, List.mem_cons, List.not_mem_nil, or_self, or_false, false_or]
      try simp -dsimp only [sSeq, sAsg, sRet, sIf, sExp, sFor_eq, sPar2, sPar3, sSetI_eq, sAug_eq, slotA_d, sSetG_eq, sRetG, sGL, sGP, sNil, sBrk, sCnt, sNo, eName_eq, slotE_d, slotE_gen, slotE_scr, slotE_own, eC, eOp, eUn, eSc, eScL, eScR, eCh, eAnd, eOr, eNot, eIf, eTup, eLst, eCB, eIx, eIxN, eSl, eSlN, eSlS, eAddN, eLenN, eApp, eExt, ePop, eCallP_eq, eCallG_eq, eIsi, eGL, eGS, eGC, eGP, aNil, aCons, wB_eq, wTru, wTruN, wAnd, wOr, wNot, wYes, gN, gT_d, gL_own, gL_d, gsC, gsN, oNone, oSome_eq, asI_i, iLst, iTpl, iRg1, iRg2, iEnm, iEnmT, iZp, iScr, eLc_eq, hasD, slotD_eq, slotK_d, slotK_own, ownD_eq, slotO_own, isOwn, scrD, putE, asDs, asD_d, asD_own, argR_d, argR_own, argR_gen, argR_scr, asL_own, asL_d, asT_d, asB_d, sub_i, iadd_i, mul_i, fdiv_i, mod_i, pow_i, lt_i, le_i, gt_i, ge_i, add_i, add_l, add_t, cat_i, cat_l, cat_t, neg_i, eqf_i, eqt_i, lenC_l, lenC_t, absC_i, intC_i, tupC_l, tupC_t, max2C_i, min2C_i, lenC_s, reprC_b, reprA_b, reprA_i, reprA_t, reprC_i, eqf_rb, eqt_rb, eqt_ri, slD_t, max3C_i, ixt0, ixt1, ixt2, ixt3, ixl0, ixl1, ixtl, ixll, truD, lenD, startC, endP, List.map_cons, List.map_nil, List.length_cons, List.length_nil, List.cons_append, List.nil_append, List.getElem?_cons_zero, List.getElem?_cons_succ, List.set_cons_zero, List.set_cons_succ, List.replicate_succ, List.replicate_zero, Nat.reduceSub, Nat.reduceAdd, Nat.reduceLT, Option.isSome_some, true_and, and_true, ne_eq, not_false_eq_true, reduceCtorEq, if_true, if_false, Bool.false_eq_true, decide_eq_true_eq, List.mem_cons, List.not_mem_nil, or_self, or_false, false_or]
      refine ⟨by simp, _, m4, rfl, rfl, by omega, by simp, by simp, fun sy hsy m5 hm5 => ?_⟩
      obtain ⟨s2, rfl, hs2⟩ := sgn_of hsy
      try simp -dsimp only [sSeq, sAsg, sRet, sIf, sExp, sFor_eq, sPar2, sPar3, sSetI_eq, sAug_eq, slotA_d, sSetG_eq, sRetG, sGL, sGP, sNil, sBrk, sCnt, sNo, eName_eq, slotE_d, slotE_gen, slotE_scr, slotE_own, eC, eOp, eUn, eSc, eScL, eScR, eCh, eAnd, eOr, eNot, eIf, eTup, eLst, eCB, eIx, eIxN, eSl, eSlN, eSlS, eAddN, eLenN, eApp, eExt, ePop, eCallP_eq, eCallG_eq, eIsi, eGL, eGS, eGC, eGP, aNil, aCons, wB_eq, wTru, wTruN, wAnd, wOr, wNot, wYes, gN, gT_d, gL_own, gL_d, gsC, gsN, oNone, oSome_eq, asI_i, iLst, iTpl, iRg1, iRg2, iEnm, iEnmT, iZp, iScr, eLc_eq, hasD, slotD_eq, slotK_d, slotK_own, ownD_eq, slotO_own, isOwn, scrD, putE, asDs, asD_d, asD_own, argR_d, argR_own, argR_gen, argR_scr, asL_own, asL_d, asT_d, asB_d, sub_i, iadd_i, mul_i, fdiv_i, mod_i, pow_i, lt_i, le_i, gt_i, ge_i, add_i, add_l, add_t, cat_i, cat_l, cat_t, neg_i, eqf_i, eqt_i, lenC_l, lenC_t, absC_i, intC_i, tupC_l, tupC_t, max2C_i, min2C_i, lenC_s, reprC_b, reprA_b, reprA_i, reprA_t, reprC_i, eqf_rb, eqt_rb, eqt_ri, slD_t, max3C_i, ixt0, ixt1, ixt2, ixt3, ixl0, ixl1, ixtl, ixll, truD, lenD, startC, endP, List.map_cons, List.map_nil, List.length_cons, List.length_nil, List.cons_append, List.nil_append, List.getElem?_cons_zero, List.getElem?_cons_succ, List.set_cons_zero, List.set_cons_succ, List.replicate_succ, List.replicate_zero, Nat.reduceSub, Nat.reduceAdd, Nat.reduceLT, Option.isSome_some, true_and, and_true, ne_eq, not_false_eq_true, reduceCtorEq, if_true, if_false, Bool.false_eq_true, decide_eq_true_eq, List.mem_cons, List.not_mem_nil, or_self, or_false, false_or]
      refine ⟨CMul2.r (by omega) (by omega), ?_⟩
      refine ⟨_, _, rfl, rfl, by omega, by omega, pow9000 (by omega) (by omega), fun z m6 hza hzb hm6 => ?_⟩
      try simp -dsimp only [sSeq, sAsg, sRet, sIf, sExp, sFor_eq, sPar2, sPar3, sSetI_eq, sAug_eq, slotA_d, sSetG_eq, sRetG, sGL, sGP, sNil, sBrk, sCnt, sNo, eName_eq, slotE_d, slotE_gen, slotE_scr, slotE_own, eC, eOp, eUn, eSc, eScL, eScR, eCh, eAnd, eOr, eNot, eIf, eTup, eLst, eCB, eIx, eIxN, eSl, eSlN, eSlS, eAddN, eLenN, eApp, eExt, ePop, eCallP_eq, eCallG_eq, eIsi, eGL, eGS, eGC, eGP, aNil, aCons, wB_eq, wTru, wTruN, wAnd, wOr, wNot, wYes, gN, gT_d, gL_own, gL_d, gsC, gsN, oNone, oSome_eq, asI_i, iLst, iTpl, iRg1, iRg2, iEnm, iEnmT, iZp, iScr, eLc_eq, hasD, slotD_eq, slotK_d, slotK_own, ownD_eq, slotO_own, isOwn, scrD, putE, asDs, asD_d, asD_own, argR_d, argR_own, argR_gen, argR_scr, asL_own, asL_d, asT_d, asB_d, sub_i, iadd_i, mul_i, fdiv_i, mod_i, pow_i, lt_i, le_i, gt_i, ge_i, add_i, add_l, add_t, cat_i, cat_l, cat_t, neg_i, eqf_i, eqt_i, lenC_l, lenC_t, absC_i, intC_i, tupC_l, tupC_t, max2C_i, min2C_i, lenC_s, reprC_b, reprA_b, reprA_i, reprA_t, reprC_i, eqf_rb, eqt_rb, eqt_ri, slD_t, max3C_i, ixt0, ixt1, ixt2, ixt3, ixl0, ixl1, ixtl, ixll, truD, lenD, startC, endP, List.map_cons, List.map_nil, List.length_cons, List.length_nil, List.cons_append, List.nil_append, List.getElem?_cons_zero, List.getElem?_cons_succ, List.set_cons_zero, List.set_cons_succ, List.replicate_succ, List.replicate_zero, Nat.reduceSub, Nat.reduceAdd, Nat.reduceLT, Option.isSome_some, true_and, and_true, ne_eq, not_false_eq_true, reduceCtorEq, if_true, if_false, Bool.false_eq_true, decide_eq_true_eq, List.mem_cons, List.not_mem_nil, or_self, or_false, false_or]
      have ep := ends_ok hpa hpb hs1
      have eq := ends_ok hqa hqb hs2
      generalize (1 + p) * s1 = e1 at ep ⊢
      generalize (1 + q) * s2 = e2 at eq ⊢
      try simp -dsimp only [sSeq, sAsg, sRet, sIf, sExp, sFor_eq, sPar2, sPar3, sSetI_eq, sAug_eq, slotA_d, sSetG_eq, sRetG, sGL, sGP, sNil, sBrk, sCnt, sNo, eName_eq, slotE_d, slotE_gen, slotE_scr, slotE_own, eC, eOp, eUn, eSc, eScL, eScR, eCh, eAnd, eOr, eNot, eIf, eTup, eLst, eCB, eIx, eIxN, eSl, eSlN, eSlS, eAddN, eLenN, eApp, eExt, ePop, eCallP_eq, eCallG_eq, eIsi, eGL, eGS, eGC, eGP, aNil, aCons, wB_eq, wTru, wTruN, wAnd, wOr, wNot, wYes, gN, gT_d, gL_own, gL_d, gsC, gsN, oNone, oSome_eq, asI_i, iLst, iTpl, iRg1, iRg2, iEnm, iEnmT, iZp, iScr, eLc_eq, hasD, slotD_eq, slotK_d, slotK_own, ownD_eq, slotO_own, isOwn, scrD, putE, asDs, asD_d, asD_own, argR_d, argR_own, argR_gen, argR_scr, asL_own, asL_d, asT_d, asB_d, sub_i, iadd_i, mul_i, fdiv_i, mod_i, pow_i, lt_i, le_i, gt_i, ge_i, add_i, add_l, add_t, cat_i, cat_l, cat_t, neg_i, eqf_i, eqt_i, lenC_l, lenC_t, absC_i, intC_i, tupC_l, tupC_t, max2C_i, min2C_i, lenC_s, reprC_b, reprA_b, reprA_i, reprA_t, reprC_i, eqf_rb, eqt_rb, eqt_ri, slD_t, max3C_i, ixt0, ixt1, ixt2, ixt3, ixl0, ixl1, ixtl, ixll, truD, lenD, startC, endP, List.map_cons, List.map_nil, List.length_cons, List.length_nil, List.cons_append, List.nil_append, List.getElem?_cons_zero, List.getElem?_cons_succ, List.set_cons_zero, List.set_cons_succ, List.replicate_succ, List.replicate_zero, Nat.reduceSub, Nat.reduceAdd, Nat.reduceLT, Option.isSome_some, true_and, and_true, ne_eq, not_false_eq_true, reduceCtorEq, if_true, if_false, Bool.false_eq_true, decide_eq_true_eq, List.mem_cons, List.not_mem_nil, or_self, or_false, false_or]
      by_cases hz : z = 0
      · simp -dsimp only [hz, beq_self_eq_true, sSeq, sAsg, sRet, sIf, sExp, sFor_eq, sPar2, sPar3, sSetI_eq, sAug_eq, slotA_d, sSetG_eq, sRetG, sGL, sGP, sNil, sBrk, sCnt, sNo, eName_eq, slotE_d, slotE_gen, slotE_scr, slotE_own, eC, eOp, eUn, eSc, eScL, eScR, eCh, eAnd, eOr, eNot, eIf, eTup, eLst, eCB, eIx, eIxN, eSl, eSlN, eSlS, eAddN, eLenN, eApp, eExt, ePop, eCallP_eq, eCallG_eq, eIsi, eGL, eGS, eGC, eGP, aNil, aCons, wB_eq, wTru, wTruN, wAnd, wOr, wNot, wYes, gN, gT_d, gL_own, gL_d, gsC, gsN, oNone, oSome_eq, asI_i, iLst, iTpl, iRg1, iRg2, iEnm, iEnmT, iZp, iScr, eLc_eq, hasD, slotD_eq, slotK_d, slotK_own, ownD_eq, slotO_own, isOwn, scrD, putE, asDs, asD_d, asD_own, argR_d, argR_own, argR_gen, argR_scr, asL_own, asL_d, asT_d, asB_d, sub_i, iadd_i, mul_i, fdiv_i, mod_i, pow_i, lt_i, le_i, gt_i, ge_i, add_i, add_l, add_t, cat_i, cat_l, cat_t, neg_i, eqf_i, eqt_i, lenC_l, lenC_t, absC_i, intC_i, tupC_l, tupC_t, max2C_i, min2C_i, lenC_s, reprC_b, reprA_b, reprA_i, reprA_t, reprC_i, eqf_rb, eqt_rb, eqt_ri, slD_t, max3C_i, ixt0, ixt1, ixt2, ixt3, ixl0, ixl1, ixtl, ixll, truD, lenD, startC, endP, List.map_cons, List.map_nil, List.length_cons, List.length_nil, List.cons_append, List.nil_append, List.getElem?_cons_zero, List.getElem?_cons_succ, List.set_cons_zero, List.set_cons_succ, List.replicate_succ, List.replicate_zero, Nat.reduceSub, Nat.reduceAdd, Nat.reduceLT, Option.isSome_some, true_and, and_true, ne_eq, not_false_eq_true, reduceCtorEq, if_true, if_false, Bool.false_eq_true, decide_eq_true_eq, List.mem_cons, List.not_mem_nil, or_self, or_false, false_or]
        refine ⟨by decide, by simp; omega, hR _ ⟨l ++ [⟨v, w, e1, e2⟩], m6, some (.d (.int (0 + i))), some (.d (.int v)), some (.d (.int w)), some (.d (.int e1)), some (.d (.int e2)), x10, by simp [hl], by omega, fun t h => ?_, h10, ?_⟩⟩
        · rcases List.mem_append.mp h with h | h
          · exact ht t h
          · simp only [List.mem_cons, List.not_mem_nil, or_false] at h
            subst h
            exact ⟨hv.1, hv.2, hw.1, hw.2, ep.1, ep.2, eq.1, eq.2⟩
        · simp [eT]
      · have hb2 : (z == 0) = false := by simpa using hz
        simp -dsimp only [hb2, sSeq, sAsg, sRet, sIf, sExp, sFor_eq, sPar2, sPar3, sSetI_eq, sAug_eq, slotA_d, sSetG_eq, sRetG, sGL, sGP, sNil, sBrk, sCnt, sNo, eName_eq, slotE_d, slotE_gen, slotE_scr, slotE_own, eC, eOp, eUn, eSc, eScL, eScR, eCh, eAnd, eOr, eNot, eIf, eTup, eLst, eCB, eIx, eIxN, eSl, eSlN, eSlS, eAddN, eLenN, eApp, eExt, ePop, eCallP_eq, eCallG_eq, eIsi, eGL, eGS, eGC, eGP, aNil, aCons, wB_eq, wTru, wTruN, wAnd, wOr, wNot, wYes, gN, gT_d, gL_own, gL_d, gsC, gsN, oNone, oSome_eq, asI_i, iLst, iTpl, iRg1, iRg2, iEnm, iEnmT, iZp, iScr, eLc_eq, hasD, slotD_eq, slotK_d, slotK_own, ownD_eq, slotO_own, isOwn, scrD, putE, asDs, asD_d, asD_own, argR_d, argR_own, argR_gen, argR_scr, asL_own, asL_d, asT_d, asB_d, sub_i, iadd_i, mul_i, fdiv_i, mod_i, pow_i, lt_i, le_i, gt_i, ge_i, add_i, add_l, add_t, cat_i, cat_l, cat_t, neg_i, eqf_i, eqt_i, lenC_l, lenC_t, absC_i, intC_i, tupC_l, tupC_t, max2C_i, min2C_i, lenC_s, reprC_b, reprA_b, reprA_i, reprA_t, reprC_i, eqf_rb, eqt_rb, eqt_ri, slD_t, max3C_i, ixt0, ixt1, ixt2, ixt3, ixl0, ixl1, ixtl, ixll, truD, lenD, startC, endP, List.map_cons, List.map_nil, List.length_cons, List.length_nil, List.cons_append, List.nil_append, List.getElem?_cons_zero, List.getElem?_cons_succ, List.set_cons_zero, List.set_cons_succ, List.replicate_succ, List.replicate_zero, Nat.reduceSub, Nat.reduceAdd, Nat.reduceLT, Option.isSome_some, true_and, and_true, ne_eq, not_false_eq_true, reduceCtorEq, if_true, if_false, Bool.false_eq_true, decide_eq_true_eq, List.mem_cons, List.not_mem_nil, or_self, or_false, false_or]
        refine ⟨by decide, by simp; omega, hR _ ⟨l ++ [⟨w, v, e2, e1⟩], m6, some (.d (.int (0 + i))), some (.d (.int v)), some (.d (.int w)), some (.d (.int e1)), some (.d (.int e2)), x10, by simp [hl], by omega, fun t h => ?_, h10, ?_⟩⟩
        · rcases List.mem_append.mp h with h | h
          · exact ht t h
          · simp only [List.mem_cons, List.not_mem_nil, or_false] at h
            subst h
            exact ⟨hw.1, hw.2, hv.1, hv.2, eq.1, eq.2, ep.1, ep.2⟩
        · simp [eT]
    · simp -dsimp only [hb, sSeq, sAsg, sRet, sIf, sExp, sFor_eq, sPar2, sPar3, sSetI_eq, sAug_eq, slotA_d, sSetG_eq, sRetG, sGL, sGP, sNil, sBrk, sCnt, sNo, eName_eq, slotE_d, slotE_gen, slotE_scr, slotE_own, eC, eOp, eUn, eSc, eScL, eScR, eCh, eAnd, eOr, eNot, eIf, eTup, eLst, eCB, eIx, eIxN, eSl, eSlN, eSlS, eAddN, eLenN, eApp, eExt, ePop, eCallP_eq, eCallG_eq, eIsi, eGL, eGS, eGC, eGP, aNil, aCons, wB_eq, wTru, wTruN, wAnd, wOr, wNot, wYes, gN, gT_d, gL_own, gL_d, gsC, gsN, oNone, oSome_eq, asI_i, iLst, iTpl, iRg1, iRg2, iEnm, iEnmT, iZp, iScr, eLc_eq, hasD, slotD_eq, slotK_d, slotK_own, ownD_eq, slotO_own, isOwn, scrD, putE, asDs, asD_d, asD_own, argR_d, argR_own, argR_gen, argR_scr, asL_own, asL_d, asT_d, asB_d, sub_i, iadd_i, mul_i, fdiv_i, mod_i, pow_i, lt_i, le_i, gt_i, ge_i, add_i, add_l, add_t, cat_i, cat_l, cat_t, neg_i, eqf_i, eqt_i, lenC_l, lenC_t, absC_i, intC_i, tupC_l, tupC_t, max2C_i, min2C_i, lenC_s, reprC_b, reprA_b, reprA_i, reprA_t, reprC_i, eqf_rb, eqt_rb, eqt_ri, slD_t, max3C_i, ixt0, ixt1, ixt2, ixt3, ixl0, ixl1, ixtl, ixll, truD, lenD, startC, endP, List.map_cons, List.map_nil, List.length_cons, List.length_nil, List.cons_append, List.nil_append, List.getElem?_cons_zero, List.getElem?_cons_succ, List.set_cons_zero, List.set_cons_succ, List.replicate_succ, List.replicate_zero, Nat.reduceSub, Nat.reduceAdd, Nat.reduceLT, Option.isSome_some, true_and, and_true, ne_eq, not_false_eq_true, reduceCtorEq, if_true, if_false, Bool.false_eq_true, decide_eq_true_eq, List.mem_cons, List.not_mem_nil, or_self, or_false, false_or]
      refine ⟨_, _, rfl, rfl, by omega, by omega, pow9000 (by omega) (by omega), fun v m0 hva hvb hm0 => ?_⟩
      try simp -dsimp only [sSeq, sAsg, sRet, sIf, sExp, sFor_eq, sPar2, sPar3, sSetI_eq, sAug_eq, slotA_d, sSetG_eq, sRetG, sGL, sGP, sNil, sBrk, sCnt, sNo, eName_eq, slotE_d, slotE_gen, slotE_scr, slotE_own, eC, eOp, eUn, eSc, eScL, eScR, eCh, eAnd, eOr, eNot, eIf, eTup, eLst, eCB, eIx, eIxN, eSl, eSlN, eSlS, eAddN, eLenN, eApp, eExt, ePop, eCallP_eq, eCallG_eq, eIsi, eGL, eGS, eGC, eGP, aNil, aCons, wB_eq, wTru, wTruN, wAnd, wOr, wNot, wYes, gN, gT_d, gL_own, gL_d, gsC, gsN, oNone, oSome_eq, asI_i, iLst, iTpl, iRg1, iRg2, iEnm, iEnmT, iZp, iScr, eLc_eq, hasD, slotD_eq, slotK_d, slotK_own, ownD_eq, slotO_own, isOwn, scrD, putE, asDs, asD_d, asD_own, argR_d, argR_own, argR_gen, argR_scr, asL_own, asL_d, asT_d, asB_d, sub_i, iadd_i, mul_i, fdiv_i, mod_i, pow_i, lt_i, le_i, gt_i, ge_i, add_i, add_l, add_t, cat_i, cat_l, cat_t, neg_i, eqf_i, eqt_i, lenC_l, lenC_t, absC_i, intC_i, tupC_l, tupC_t, max2C_i, min2C_i, lenC_s, reprC_b, reprA_b, reprA_i, reprA_t, reprC_i, eqf_rb, eqt_rb, eqt_ri, slD_t, max3C_i, ixt0, ixt1, ixt2, ixt3, ixl0, ixl1, ixtl, ixll, truD, lenD, startC, endP, List.map_cons, List.map_nil, List.length_cons, List.length_nil, List.cons_append, List.nil_append, List.getElem?_cons_zero, List.getElem?_cons_succ, List.set_cons_zero, List.set_cons_succ, List.replicate_succ, List.replicate_zero, Nat.reduceSub, Nat.reduceAdd, Nat.reduceLT, Option.isSome_some, true_and, and_true, ne_eq, not_false_eq_true, reduceCtorEq, if_true, if_false, Bool.false_eq_true, decide_eq_true_eq, List.mem_cons, List.not_mem_nil, or_self, or_false, false_or]
      simp -dsimp only [hb, sSeq, sAsg, sRet, sIf, sExp, sFor_eq, sPar2, sPar3, sSetI_eq, sAug_eq, slotA_d, sSetG_eq, sRetG, sGL, sGP, sNil, sBrk, sCnt, sNo, eName_eq, slotE_d, slotE_gen, slotE_scr, slotE_own, eC, eOp, eUn, eSc, eScL, eScR, eCh, eAnd, eOr, eNot, eIf, eTup, eLst, eCB, eIx, eIxN, eSl, eSlN, eSlS, eAddN, eLenN, eApp, eExt, ePop, eCallP_eq, eCallG_eq, eIsi, eGL, eGS, eGC, eGP, aNil, aCons, wB_eq, wTru, wTruN, wAnd, wOr, wNot, wYes, gN, gT_d, gL_own, gL_d, gsC, gsN, oNone, oSome_eq, asI_i, iLst, iTpl, iRg1, iRg2, iEnm, iEnmT, iZp, iScr, eLc_eq, hasD, slotD_eq, slotK_d, slotK_own, ownD_eq, slotO_own, isOwn, scrD, putE, asDs, asD_d, asD_own, argR_d, argR_own, argR_gen, argR_scr, asL_own, asL_d, asT_d, asB_d, sub_i, iadd_i, mul_i, fdiv_i, mod_i, pow_i, lt_i, le_i, gt_i, ge_i, add_i, add_l, add_t, cat_i, cat_l, cat_t, neg_i, eqf_i, eqt_i, lenC_l, lenC_t, absC_i, intC_i, tupC_l, tupC_t, max2C_i, min2C_i, lenC_s, reprC_b, reprA_b, reprA_i, reprA_t, reprC_i, eqf_rb, eqt_rb, eqt_ri, slD_t, max3C_i, ixt0, ixt1, ixt2, ixt3, ixl0, ixl1, ixtl, ixll, truD, lenD, startC, endP, List.map_cons, List.map_nil, List.length_cons, List.length_nil, List.cons_append, List.nil_append, List.getElem?_cons_zero, List.getElem?_cons_succ, List.set_cons_zero, List.set_cons_succ, List.replicate_succ, List.replicate_zero, Nat.reduceSub, Nat.reduceAdd, Nat.reduceLT, Option.isSome_some, true_and, and_true, ne_eq, not_false_eq_true, reduceCtorEq, if_true, if_false, Bool.false_eq_true, decide_eq_true_eq, List.mem_cons, List.not_mem_nil, or_self, or_false, false_or]
      refine ⟨_, _, rfl, rfl, by omega, by omega, pow9000 (by omega) (by omega), fun w m1 hwa hwb hm1 => ?_⟩
      try simp -dsimp only [sSeq, sAsg, sRet, sIf, sExp, sFor_eq, sPar2, sPar3, sSetI_eq, sAug_eq, slotA_d, sSetG_eq, sRetG, sGL, sGP, sNil, sBrk, sCnt, sNo, eName_eq, slotE_d, slotE_gen, slotE_scr, slotE_own, eC, eOp, eUn, eSc, eScL, eScR, eCh, eAnd, eOr, eNot, eIf, eTup, eLst, eCB, eIx, eIxN, eSl, eSlN, eSlS, eAddN, eLenN, eApp, eExt, ePop, eCallP_eq, eCallG_eq, eIsi, eGL, eGS, eGC, eGP, aNil, aCons, wB_eq, wTru, wTruN, wAnd, wOr, wNot, wYes, gN, gT_d, gL_own, gL_d, gsC, gsN, oNone, oSome_eq, asI_i, iLst, iTpl, iRg1, iRg2, iEnm, iEnmT, iZp, iScr, eLc_eq, hasD, slotD_eq, slotK_d, slotK_own, ownD_eq, slotO_own, isOwn, scrD, putE, asDs, asD_d, asD_own, argR_d, argR_own, argR_gen, argR_scr, asL_own, asL_d, asT_d, asB_d, sub_i, iadd_i, mul_i, fdiv_i, mod_i, pow_i, lt_i, le_i, gt_i, ge_i, add_i, add_l, add_t, cat_i, cat_l, cat_t, neg_i, eqf_i, eqt_i, lenC_l, lenC_t, absC_i, intC_i, tupC_l, tupC_t, max2C_i, min2C_i, lenC_s, reprC_b, reprA_b, reprA_i, reprA_t, reprC_i, eqf_rb, eqt_rb, eqt_ri, slD_t, max3C_i, ixt0, ixt1, ixt2, ixt3, ixl0, ixl1, ixtl, ixll, truD, lenD, startC, endP, List.map_cons, List.map_nil, List.length_cons, List.length_nil, List.cons_append, List.nil_append, List.getElem?_cons_zero, List.getElem?_cons_succ, List.set_cons_zero, List.set_cons_succ, List.replicate_succ, List.replicate_zero, Nat.reduceSub, Nat.reduceAdd, Nat.reduceLT, Option.isSome_some, true_and, and_true, ne_eq, not_false_eq_true, reduceCtorEq, if_true, if_false, Bool.false_eq_true, decide_eq_true_eq, List.mem_cons, List.not_mem_nil, or_self, or_false, false_or]
      try simp -dsimp only [sSeq, sAsg, sRet, sIf, sExp, sFor_eq, sPar2, sPar3, sSetI_eq, sAug_eq, slotA_d, sSetG_eq, sRetG, sGL, sGP, sNil, sBrk, sCnt, sNo, eName_eq, slotE_d, slotE_gen, slotE_scr, slotE_own, eC, eOp, eUn, eSc, eScL, eScR, eCh, eAnd, eOr, eNot, eIf, eTup, eLst, eCB, eIx, eIxN, eSl, eSlN, eSlS, eAddN, eLenN, eApp, eExt, ePop, eCallP_eq, eCallG_eq, eIsi, eGL, eGS, eGC, eGP, aNil, aCons, wB_eq, wTru, wTruN, wAnd, wOr, wNot, wYes, gN, gT_d, gL_own, gL_d, gsC, gsN, oNone, oSome_eq, asI_i, iLst, iTpl, iRg1, iRg2, iEnm, iEnmT, iZp, iScr, eLc_eq, hasD, slotD_eq, slotK_d, slotK_own, ownD_eq, slotO_own, isOwn, scrD, putE, asDs, asD_d, asD_own, argR_d, argR_own, argR_gen, argR_scr, asL_own, asL_d, asT_d, asB_d, sub_i, iadd_i, mul_i, fdiv_i, mod_i, pow_i, lt_i, le_i, gt_i, ge_i, add_i, add_l, add_t, cat_i, cat_l, cat_t, neg_i, eqf_i, eqt_i, lenC_l, lenC_t, absC_i, intC_i, tupC_l, tupC_t, max2C_i, min2C_i, lenC_s, reprC_b, reprA_b, reprA_i, reprA_t, reprC_i, eqf_rb, eqt_rb, eqt_ri, slD_t, max3C_i, ixt0, ixt1, ixt2, ixt3, ixl0, ixl1, ixtl, ixll, truD, lenD, startC, endP, List.map_cons, List.map_nil, List.length_cons, List.length_nil, List.cons_append, List.nil_append, List.getElem?_cons_zero, List.getElem?_cons_succ, List.set_cons_zero, List.set_cons_succ, List.replicate_succ, List.replicate_zero, Nat.reduceSub, Nat.reduceAdd, Nat.reduceLT, Option.isSome_some, true_and, and_true, ne_eq, not_false_eq_true, reduceCtorEq, if_true, if_false, Bool.false_eq_true, decide_eq_true_eq, List.mem_cons, List.not_mem_nil, or_self, or_false, false_or]
      have hv : 0 ≤ v ∧ v < rooms := by omega
      have hw : 0 ≤ w ∧ w < rooms := by omega
      have hm2 : m1 ≤ n + 7 * i + 2 := by omega
      refine ⟨by unfold smI; omega, by simp [nown, h10], ?_⟩
      simp -dsimp only [two_rng, lcH, lcW, wipeE, sSeq, sAsg, sRet, sIf, sExp, sFor_eq, sPar2, sPar3, sSetI_eq, sAug_eq, slotA_d, sSetG_eq, sRetG, sGL, sGP, sNil, sBrk, sCnt, sNo, eName_eq, slotE_d, slotE_gen, slotE_scr, slotE_own, eC, eOp, eUn, eSc, eScL, eScR, eCh, eAnd, eOr, eNot, eIf, eTup, eLst, eCB, eIx, eIxN, eSl, eSlN, eSlS, eAddN, eLenN, eApp, eExt, ePop, eCallP_eq, eCallG_eq, eIsi, eGL, eGS, eGC, eGP, aNil, aCons, wB_eq, wTru, wTruN, wAnd, wOr, wNot, wYes, gN, gT_d, gL_own, gL_d, gsC, gsN, oNone, oSome_eq, asI_i, iLst, iTpl, iRg1, iRg2, iEnm, iEnmT, iZp, iScr, eLc_eq, hasD, slotD_eq, slotK_d, slotK_own, ownD_eq, slotO_own, isOwn, scrD, putE, asDs, asD_d, asD_own, argR_d, argR_own, argR_gen, argR_scr, asL_own, asL_d, asT_d, asB_d, sub_i, iadd_i, mul_i, fdiv_i, mod_i, pow_i, lt_i, le_i, gt_i, ge_i, add_i, add_l, add_t, cat_i, cat_l, cat_t, neg_i, eqf_i, eqt_i, lenC_l, lenC_t, absC_i, intC_i, tupC_l, tupC_t, max2C_i, min2C_i, lenC_s, reprC_b, reprA_b, reprA_i, reprA_t, reprC_i, eqf_rb, eqt_rb, eqt_ri, slD_t, max3C_i, ixt0, ixt1, ixt2, ixt3, ixl0, ixl1, ixtl, ixll, truD, lenD, startC, endP, List.map_cons, List.map_nil, List.length_cons, List.length_nil, List.cons_append, List.nil_append, List.getElem?_cons_zero, List.getElem?_cons_succ, List.set_cons_zero, List.set_cons_succ, List.replicate_succ, List.replicate_zero, Nat.reduceSub, Nat.reduceAdd, Nat.reduceLT, Option.isSome_some, true_and, and_true, ne_eq, not_false_eq_true, reduceCtorEq, if_true, if_false, Bool.false_eq_true, decide_eq_true_eq, List.mem_cons, List.not_mem_nil, or_self, or_false, false_or]
      refine ⟨_, _, rfl, rfl, by omega, by omega, pow9000 (by omega) (by omega), fun p m2 hpa hpb hm2 => ?_⟩
      try simp -dsimp only [sSeq, sAsg, sRet, sIf, sExp, sFor_eq, sPar2, sPar3, sSetI_eq, sAug_eq, slotA_d, sSetG_eq, sRetG, sGL, sGP, sNil, sBrk, sCnt, sNo, eName_eq, slotE_d, slotE_gen, slotE_scr, slotE_own, eC, eOp, eUn, eSc, eScL, eScR, eCh, eAnd, eOr, eNot, eIf, eTup, eLst, eCB, eIx, eIxN, eSl, eSlN, eSlS, eAddN, eLenN, eApp, eExt, ePop, eCallP_eq, eCallG_eq, eIsi, eGL, eGS, eGC, eGP, aNil, aCons, wB_eq, wTru, wTruN, wAnd, wOr, wNot, wYes, gN, gT_d, gL_own, gL_d, gsC, gsN, oNone, oSome_eq, asI_i, iLst, iTpl, iRg1, iRg2, iEnm, iEnmT, iZp, iScr, eLc_eq, hasD, slotD_eq, slotK_d, slotK_own, ownD_eq, slotO_own, isOwn, scrD, putE, asDs, asD_d, asD_own, argR_d, argR_own, argR_gen, argR_scr, asL_own, asL_d, asT_d, asB_d, sub_i, iadd_i, mul_i, fdiv_i, mod_i, pow_i, lt_i, le_i, gt_i, ge_i, add_i, add_l, add_t, cat_i, cat_l, cat_t, neg_i, eqf_i, eqt_i, lenC_l, lenC_t, absC_i, intC_i, tupC_l, tupC_t, max2C_i, min2C_i, lenC_s, reprC_b, reprA_b, reprA_i, reprA_t, reprC_i, eqf_rb, eqt_rb, eqt_ri, slD_t, max3C_i, ixt0, ixt1, ixt2, ixt3, ixl0, ixl1, ixtl, ixll, truD, lenD, startC, endP, List.map_cons, List.map_nil, List.length_cons, List.length_nil, List.cons_append, List.nil_append, List.getElem?_cons_zero, List.getElem?_cons_succ, List.set_cons_zero, List.set_cons_succ, List.replicate_succ, List.replicate_zero, Nat.reduceSub, Nat.reduceAdd, Nat.reduceLT, Option.isSome_some, true_and, and_true, ne_eq, not_false_eq_true, reduceCtorEq, if_true, if_false, Bool.false_eq_true, decide_eq_true_eq, List.mem_cons, List.not_mem_nil, or_self, or_false, false_or]
      try simp -dsimp only [sSeq, sAsg, sRet, sIf, sExp, sFor_eq, sPar2, sPar3, sSetI_eq, sAug_eq, slotA_d, sSetG_eq, sRetG, sGL, sGP, sNil, sBrk, sCnt, sNo, eName_eq, slotE_d, slotE_gen, slotE_scr, slotE_own, eC, eOp, eUn, eSc, eScL, eScR, eCh, eAnd, eOr, eNot, eIf, eTup, eLst, eCB, eIx, eIxN, eSl, eSlN, eSlS, eAddN, eLenN, eApp, eExt, ePop, eCallP_eq, eCallG_eq, eIsi, eGL, eGS, eGC, eGP, aNil, aCons, wB_eq, wTru, wTruN, wAnd, wOr, wNot, wYes, gN, gT_d, gL_own, gL_d, gsC, gsN, oNone, oSome_eq, asI_i, iLst, iTpl, iRg1, iRg2, iEnm, iEnmT, iZp, iScr, eLc_eq, hasD, slotD_eq, slotK_d, slotK_own, ownD_eq, slotO_own, isOwn, scrD, putE, asDs, asD_d, asD_own, argR_d, argR_own, argR_gen, argR_scr, asL_own, asL_d, asT_d, asB_d, sub_i, iadd_i, mul_i, fdiv_i, mod_i, pow_i, lt_i, le_i, gt_i, ge_i, add_i, add_l, add_t, cat_i, cat_l, cat_t, neg_i, eqf_i, eqt_i, lenC_l, lenC_t, absC_i, intC_i, tupC_l, tupC_t, max2C_i, min2C_i, lenC_s, reprC_b, reprA_b, reprA_i, reprA_t, reprC_i, eqf_rb, eqt_rb, eqt_ri, slD_t, max3C_i, ixt0, ixt1, ixt2, ixt3, ixl0, ixl1, ixtl, ixll, truD, lenD, startC, endP, List.map_cons, List.map_nil, List.length_cons, List.length_nil, List.cons_append, List.nil_append, List.getElem?_cons_zero, List.getElem?_cons_succ, List.set_cons_zero, List.set_cons_succ, List.replicate_succ, List.replicate_zero, Nat.reduceSub, Nat.reduceAdd, Nat.reduceLT, Option.isSome_some, true_and, and_true, ne_eq, not_false_eq_true, reduceCtorEq, if_true, if_false, Bool.false_eq_true, decide_eq_true_eq, List.mem_cons, List.not_mem_nil, or_self, or_false, false_or]
      refine ⟨by simp, _, m2, rfl, rfl, by omega, by simp, by simp, fun sx hsx m3 hm3 => ?_⟩
      obtain ⟨s1, rfl, hs1⟩ := sgn_of hsx
      try simp -dsimp only [sSeq, sAsg, sRet, sIf, sExp, sFor_eq, sPar2, sPar3, sSetI_eq, sAug_eq, slotA_d, sSetG_eq, sRetG, sGL, sGP, sNil, sBrk, sCnt, sNo, eName_eq, slotE_d, slotE_gen, slotE_scr, slotE_own, eC, eOp, eUn, eSc, eScL, eScR, eCh, eAnd, eOr, eNot, eIf, eTup, eLst, eCB, eIx, eIxN, eSl, eSlN, eSlS, eAddN, eLenN, eApp, eExt, ePop, eCallP_eq, eCallG_eq, eIsi, eGL, eGS, eGC, eGP, aNil, aCons, wB_eq, wTru, wTruN, wAnd, wOr, wNot, wYes, gN, gT_d, gL_own, gL_d, gsC, gsN, oNone, oSome_eq, asI_i, iLst, iTpl, iRg1, iRg2, iEnm, iEnmT, iZp, iScr, eLc_eq, hasD, slotD_eq, slotK_d, slotK_own, ownD_eq, slotO_own, isOwn, scrD, putE, asDs, asD_d, asD_own, argR_d, argR_own, argR_gen, argR_scr, asL_own, asL_d, asT_d, asB_d, sub_i, iadd_i, mul_i, fdiv_i, mod_i, pow_i, lt_i, le_i, gt_i, ge_i, add_i, add_l, add_t, cat_i, cat_l, cat_t, neg_i, eqf_i, eqt_i, lenC_l, lenC_t, absC_i, intC_i, tupC_l, tupC_t, max2C_i, min2C_i, lenC_s, reprC_b, reprA_b, reprA_i, reprA_t, reprC_i, eqf_rb, eqt_rb, eqt_ri, slD_t, max3C_i, ixt0, ixt1, ixt2, ixt3, ixl0, ixl1, ixtl, ixll, truD, lenD, startC, endP, List.map_cons, List.map_nil, List.length_cons, List.length_nil, List.cons_append, List.nil_append, List.getElem?_cons_zero, List.getElem?_cons_succ, List.set_cons_zero, List.set_cons_succ, List.replicate_succ, List.replicate_zero, Nat.reduceSub, Nat.reduceAdd, Nat.reduceLT, Option.isSome_some, true_and, and_true, ne_eq, not_false_eq_true, reduceCtorEq, if_true, if_false, Bool.false_eq_true, decide_eq_true_eq, List.mem_cons, List.not_mem_nil, or_self, or_false, false_or]
      refine ⟨CMul2.r (by omega) (by omega), ?_⟩
      refine ⟨_, _, rfl, rfl, by omega, by omega, pow9000 (by omega) (by omega), fun q m4 hqa hqb hm4 => ?_⟩
      try simp -dsimp only [sSeq, sAsg, sRet, sIf, sExp, sFor_eq, sPar2, sPar3, sSetI_eq, sAug_eq, slotA_d, sSetG_eq, sRetG, sGL, sGP, sNil, sBrk, sCnt, sNo, eName_eq, slotE_d, slotE_gen, slotE_scr, slotE_own, eC, eOp, eUn, eSc, eScL, eScR, eCh, eAnd, eOr, eNot, eIf, eTup, eLst, eCB, eIx, eIxN, eSl, eSlN, eSlS, eAddN, eLenN, eApp, eExt, ePop, eCallP_eq, eCallG_eq, eIsi, eGL, eGS, eGC, eGP, aNil, aCons, wB_eq, wTru, wTruN, wAnd, wOr, wNot, wYes, gN, gT_d, gL_own, gL_d, gsC, gsN, oNone, oSome_eq, asI_i, iLst, iTpl, iRg1, iRg2, iEnm, iEnmT, iZp, iScr, eLc_eq, hasD, slotD_eq, slotK_d, slotK_own, ownD_eq, slotO_own, isOwn, scrD, putE, asDs, asD_d, asD_own, argR_d, argR_own, argR_gen, argR_scr, asL_own, asL_d, asT_d, asB_d, sub_i, iadd_i, mul_i, fdiv_i, mod_i, pow_i, lt_i, le_i, gt_i, ge_i, add_i, add_l, add_t, cat_i, cat_l, cat_t, neg_i, eqf_i, eqt_i, lenC_l, lenC_t, absC_i, intC_i, tupC_l, tupC_t, max2C_i, min2C_i, lenC_s, reprC_b, reprA_b, reprA_i, reprA_t, reprC_i, eqf_rb, eqt_rb, eqt_ri, slD_t, max3C_i, ixt0, ixt1, ixt2, ixt3, ixl0, ixl1, ixtl, ixll, truD, lenD, startC, endP, List.map_cons, List.map_nil, List.length_cons, List.length_nil, List.cons_append, List.nil_append, List.getElem?_cons_zero, List.getElem?_cons_succ, List.set_cons_zero, List.set_cons_succ, List.replicate_succ, List.replicate_zero, Nat.reduceSub, Nat.reduceAdd, Nat.reduceLT, Option.isSome_some, true_and, and_true, ne_eq, not_false_eq_true, reduceCtorEq, if_true, if_false, Bool.false_eq_true, decide_eq_true_eq, List.mem_cons, List.not_mem_nil, or_self, or_false, false_or]
      try simp -dsimp only [sSeq, sAsg, sRet, sIf, sExp, sFor_eq, sPar2, sPar3, sSetI_eq, sAug_eq, slotA_d, sSetG_eq, sRetG, sGL, sGP, sNil, sBrk, sCnt, sNo, eName_eq, slotE_d, slotE_gen, slotE_scr, slotE_own, eC, eOp, eUn, eSc, eScL, eScR, eCh, eAnd, eOr, eNot, eIf, eTup, eLst, eCB, eIx, eIxN, eSl, eSlN, eSlS, eAddN, eLenN, eApp, eExt, ePop, eCallP_eq, eCallG_eq, eIsi, eGL, eGS, eGC, eGP, aNil, aCons, wB_eq, wTru, wTruN, wAnd, wOr, wNot, wYes, gN, gT_d, gL_own, gL_d, gsC, gsN, oNone, oSome_eq, asI_i, iLst, iTpl, iRg1, iRg2, iEnm, iEnmT, iZp, iScr, eLc_eq, hasD, slotD_eq, slotK_d, slotK_own, ownD_eq, slotO_own, isOwn, scrD, putE, asDs, asD_d, asD_own, argR_d, argR_own, argR_gen, argR_scr, asL_own, asL_d, asT_d, asB_d, sub_i, iadd_i, mul_i, fdiv_i, mod_i, pow_i, lt_i, le_i, gt_i, ge_i, add_i, add_l, add_t, cat_i, cat_l, cat_t, neg_i, eqf_i, eqt_i, lenC_l, lenC_t, absC_i, intC_i, tupC_l, tupC_t, max2C_i, min2C_i, lenC_s, reprC_b, reprA_b, reprA_i, reprA_t, reprC_i, eqf_rb, eqt_rb, eqt_ri, slD_t, max3C_i, ixt0, ixt1, ixt2, ixt3, ixl0, ixl1, ixtl, ixll, truD, lenD, startC, endP, List.map_cons, List.map_nil, List.length_cons, List.length_nil, List.cons_append, List.nil_append, List.getElem?_cons_zero, List.getElem?_cons_succ, List.set_cons_zero, List.set_cons_succ, List.replicate_succ, List.replicate_zero, Nat.reduceSub, Nat.reduceAdd, Nat.reduceLT, Option.isSome_some, true_and, and_true, ne_eq, not_false_eq_true, reduceCtorEq, if_true, if_false, Bool.false_eq_true, decide_eq_true_eq, List.mem_cons, List.not_mem_nil, or_self, or_false, false_or]
      refine ⟨by simp, _, m4, rfl, rfl, by omega, by simp, by simp, fun sy hsy m5 hm5 => ?_⟩
      obtain ⟨s2, rfl, hs2⟩ := sgn_of hsy
      try simp -dsimp only [sSeq, sAsg, sRet, sIf, sExp, sFor_eq, sPar2, sPar3, sSetI_eq, sAug_eq, slotA_d, sSetG_eq, sRetG, sGL, sGP, sNil, sBrk, sCnt, sNo, eName_eq, slotE_d, slotE_gen, slotE_scr, slotE_own, eC, eOp, eUn, eSc, eScL, eScR, eCh, eAnd, eOr, eNot, eIf, eTup, eLst, eCB, eIx, eIxN, eSl, eSlN, eSlS, eAddN, eLenN, eApp, eExt, ePop, eCallP_eq, eCallG_eq, eIsi, eGL, eGS, eGC, eGP, aNil, aCons, wB_eq, wTru, wTruN, wAnd, wOr, wNot, wYes, gN, gT_d, gL_own, gL_d, gsC, gsN, oNone, oSome_eq, asI_i, iLst, iTpl, iRg1, iRg2, iEnm, iEnmT, iZp, iScr, eLc_eq, hasD, slotD_eq, slotK_d, slotK_own, ownD_eq, slotO_own, isOwn, scrD, putE, asDs, asD_d, asD_own, argR_d, argR_own, argR_gen, argR_scr, asL_own, asL_d, asT_d, asB_d, sub_i, iadd_i, mul_i, fdiv_i, mod_i, pow_i, lt_i, le_i, gt_i, ge_i, add_i, add_l, add_t, cat_i, cat_l, cat_t, neg_i, eqf_i, eqt_i, lenC_l, lenC_t, absC_i, intC_i, tupC_l, tupC_t, max2C_i, min2C_i, lenC_s, reprC_b, reprA_b, reprA_i, reprA_t, reprC_i, eqf_rb, eqt_rb, eqt_ri, slD_t, max3C_i, ixt0, ixt1, ixt2, ixt3, ixl0, ixl1, ixtl, ixll, truD, lenD, startC, endP, List.map_cons, List.map_nil, List.length_cons, List.length_nil, List.cons_append, List.nil_append, List.getElem?_cons_zero, List.getElem?_cons_succ, List.set_cons_zero, List.set_cons_succ, List.replicate_succ, List.replicate_zero, Nat.reduceSub, Nat.reduceAdd, Nat.reduceLT, Option.isSome_some, true_and, and_true, ne_eq, not_false_eq_true, reduceCtorEq, if_true, if_false, Bool.false_eq_true, decide_eq_true_eq, List.mem_cons, List.not_mem_nil, or_self, or_false, false_or]
      refine ⟨CMul2.r (by omega) (by omega), ?_⟩
      refine ⟨_, _, rfl, rfl, by omega, by omega, pow9000 (by omega) (by omega), fun z m6 hza hzb hm6 => ?_⟩
      try simp -dsimp only [sSeq, sAsg, sRet, sIf, sExp, sFor_eq, sPar2, sPar3, sSetI_eq, sAug_eq, slotA_d, sSetG_eq, sRetG, sGL, sGP, sNil, sBrk, sCnt, sNo, eName_eq, slotE_d, slotE_gen, slotE_scr, slotE_own, eC, eOp, eUn, eSc, eScL, eScR, eCh, eAnd, eOr, eNot, eIf, eTup, eLst, eCB, eIx, eIxN, eSl, eSlN, eSlS, eAddN, eLenN, eApp, eExt, ePop, eCallP_eq, eCallG_eq, eIsi, eGL, eGS, eGC, eGP, aNil, aCons, wB_eq, wTru, wTruN, wAnd, wOr, wNot, wYes, gN, gT_d, gL_own, gL_d, gsC, gsN, oNone, oSome_eq, asI_i, iLst, iTpl, iRg1, iRg2, iEnm, iEnmT, iZp, iScr, eLc_eq, hasD, slotD_eq, slotK_d, slotK_own, ownD_eq, slotO_own, isOwn, scrD, putE, asDs, asD_d, asD_own, argR_d, argR_own, argR_gen, argR_scr, asL_own, asL_d, asT_d, asB_d, sub_i, iadd_i, mul_i, fdiv_i, mod_i, pow_i, lt_i, le_i, gt_i, ge_i, add_i, add_l, add_t, cat_i, cat_l, cat_t, neg_i, eqf_i, eqt_i, lenC_l, lenC_t, absC_i, intC_i, tupC_l, tupC_t, max2C_i, min2C_i, lenC_s, reprC_b, reprA_b, reprA_i, reprA_t, reprC_i, eqf_rb, eqt_rb, eqt_ri, slD_t, max3C_i, ixt0, ixt1, ixt2, ixt3, ixl0, ixl1, ixtl, ixll, truD, lenD, startC, endP, List.map_cons, List.map_nil, List.length_cons, List.length_nil, List.cons_append, List.nil_append, List.getElem?_cons_zero, List.getElem?_cons_succ, List.set_cons_zero, List.set_cons_succ, List.replicate_succ, List.replicate_zero, Nat.reduceSub, Nat.reduceAdd, Nat.reduceLT, Option.isSome_some, true_and, and_true, ne_eq, not_false_eq_true, reduceCtorEq, if_true, if_false, Bool.false_eq_true, decide_eq_true_eq, List.mem_cons, List.not_mem_nil, or_self, or_false, false_or]
      have ep := ends_ok hpa hpb hs1
      have eq := ends_ok hqa hqb hs2
      generalize (1 + p) * s1 = e1 at ep ⊢
      generalize (1 + q) * s2 = e2 at eq ⊢
      try simp -dsimp only [sSeq, sAsg, sRet, sIf, sExp, sFor_eq, sPar2, sPar3, sSetI_eq, sAug_eq, slotA_d, sSetG_eq, sRetG, sGL, sGP, sNil, sBrk, sCnt, sNo, eName_eq, slotE_d, slotE_gen, slotE_scr, slotE_own, eC, eOp, eUn, eSc, eScL, eScR, eCh, eAnd, eOr, eNot, eIf, eTup, eLst, eCB, eIx, eIxN, eSl, eSlN, eSlS, eAddN, eLenN, eApp, eExt, ePop, eCallP_eq, eCallG_eq, eIsi, eGL, eGS, eGC, eGP, aNil, aCons, wB_eq, wTru, wTruN, wAnd, wOr, wNot, wYes, gN, gT_d, gL_own, gL_d, gsC, gsN, oNone, oSome_eq, asI_i, iLst, iTpl, iRg1, iRg2, iEnm, iEnmT, iZp, iScr, eLc_eq, hasD, slotD_eq, slotK_d, slotK_own, ownD_eq, slotO_own, isOwn, scrD, putE, asDs, asD_d, asD_own, argR_d, argR_own, argR_gen, argR_scr, asL_own, asL_d, asT_d, asB_d, sub_i, iadd_i, mul_i, fdiv_i, mod_i, pow_i, lt_i, le_i, gt_i, ge_i, add_i, add_l, add_t, cat_i, cat_l, cat_t, neg_i, eqf_i, eqt_i, lenC_l, lenC_t, absC_i, intC_i, tupC_l, tupC_t, max2C_i, min2C_i, lenC_s, reprC_b, reprA_b, reprA_i, reprA_t, reprC_i, eqf_rb, eqt_rb, eqt_ri, slD_t, max3C_i, ixt0, ixt1, ixt2, ixt3, ixl0, ixl1, ixtl, ixll, truD, lenD, startC, endP, List.map_cons, List.map_nil, List.length_cons, List.length_nil, List.cons_append, List.nil_append, List.getElem?_cons_zero, List.getElem?_cons_succ, List.set_cons_zero, List.set_cons_succ, List.replicate_succ, List.replicate_zero, Nat.reduceSub, Nat.reduceAdd, Nat.reduceLT, Option.isSome_some, true_and, and_true, ne_eq, not_false_eq_true, reduceCtorEq, if_true, if_false, Bool.false_eq_true, decide_eq_true_eq, List.mem_cons, List.not_mem_nil, or_self, or_false, false_or]
      by_cases hz : z = 0
      · simp -dsimp only [hz, beq_self_eq_true, sSeq, sAsg, sRet, sIf, sExp, sFor_eq, sPar2, sPar3, sSetI_eq, sAug_eq, slotA_d, sSetG_eq, sRetG, sGL, sGP, sNil, sBrk, sCnt, sNo, eName_eq, slotE_d, slotE_gen, slotE_scr, slotE_own, eC, eOp, eUn, eSc, eScL, eScR, eCh, eAnd, eOr, eNot, eIf, eTup, eLst, eCB, eIx, eIxN, eSl, eSlN, eSlS, eAddN, eLenN, eApp, eExt, ePop, eCallP_eq, eCallG_eq, eIsi, eGL, eGS, eGC, eGP, aNil, aCons, wB_eq, wTru, wTruN, wAnd, wOr, wNot, wYes, gN, gT_d, gL_own, gL_d, gsC, gsN, oNone, oSome_eq, asI_i, iLst, iTpl, iRg1, iRg2, iEnm, iEnmT, iZp, iScr, eLc_eq, hasD, slotD_eq, slotK_d, slotK_own, ownD_eq, slotO_own, isOwn, scrD, putE, asDs, asD_d, asD_own, argR_d, argR_own, argR_gen, argR_scr, asL_own, asL_d, asT_d, asB_d, sub_i, iadd_i, mul_i, fdiv_i, mod_i, pow_i, lt_i, le_i, gt_i, ge_i, add_i, add_l, add_t, cat_i, cat_l, cat_t, neg_i, eqf_i, eqt_i, lenC_l, lenC_t, absC_i, intC_i, tupC_l, tupC_t, max2C_i, min2C_i, lenC_s, reprC_b, reprA_b, reprA_i, reprA_t, reprC_i, eqf_rb, eqt_rb, eqt_ri, slD_t, max3C_i, ixt0, ixt1, ixt2, ixt3, ixl0, ixl1, ixtl, ixll, truD, lenD, startC, endP, List.map_cons, List.map_nil, List.length_cons, List.length_nil, List.cons_append, List.nil_append, List.getElem?_cons_zero, List.getElem?_cons_succ, List.set_cons_zero, List.set_cons_succ, List.replicate_succ, List.replicate_zero, Nat.reduceSub, Nat.reduceAdd, Nat.reduceLT, Option.isSome_some, true_and, and_true, ne_eq, not_false_eq_true, reduceCtorEq, if_true, if_false, Bool.false_eq_true, decide_eq_true_eq, List.mem_cons, List.not_mem_nil, or_self, or_false, false_or]
        refine ⟨by decide, by simp; omega, hR _ ⟨l ++ [⟨v, w, e1, e2⟩], m6, some (.d (.int (0 + i))), some (.d (.int v)), some (.d (.int w)), some (.d (.int e1)), some (.d (.int e2)), x10, by simp [hl], by omega, fun t h => ?_, h10, ?_⟩⟩
        · rcases List.mem_append.mp h with h | h
          · exact ht t h
          · simp only [List.mem_cons, List.not_mem_nil, or_false] at h
            subst h
            exact ⟨hv.1, hv.2, hw.1, hw.2, ep.1, ep.2, eq.1, eq.2⟩
        · simp [eT]
      · have hb2 : (z == 0) = false := by simpa using hz
        simp -dsimp only [hb2, sSeq, sAsg, sRet, sIf, sExp, sFor_eq, sPar2, sPar3, sSetI_eq, sAug_eq, slotA_d, sSetG_eq, sRetG, sGL, sGP, sNil, sBrk, sCnt, sNo, eName_eq, slotE_d, slotE_gen, slotE_scr, slotE_own, eC, eOp, eUn, eSc, eScL, eScR, eCh, eAnd, eOr, eNot, eIf, eTup, eLst, eCB, eIx, eIxN, eSl, eSlN, eSlS, eAddN, eLenN, eApp, eExt, ePop, eCallP_eq, eCallG_eq, eIsi, eGL, eGS, eGC, eGP, aNil, aCons, wB_eq, wTru, wTruN, wAnd, wOr, wNot, wYes, gN, gT_d, gL_own, gL_d, gsC, gsN, oNone, oSome_eq, asI_i, iLst, iTpl, iRg1, iRg2, iEnm, iEnmT, iZp, iScr, eLc_eq, hasD, slotD_eq, slotK_d, slotK_own, ownD_eq, slotO_own, isOwn, scrD, putE, asDs, asD_d, asD_own, argR_d, argR_own, argR_gen, argR_scr, asL_own, asL_d, asT_d, asB_d, sub_i, iadd_i, mul_i, fdiv_i, mod_i, pow_i, lt_i, le_i, gt_i, ge_i, add_i, add_l, add_t, cat_i, cat_l, cat_t, neg_i, eqf_i, eqt_i, lenC_l, lenC_t, absC_i, intC_i, tupC_l, tupC_t, max2C_i, min2C_i, lenC_s, reprC_b, reprA_b, reprA_i, reprA_t, reprC_i, eqf_rb, eqt_rb, eqt_ri, slD_t, max3C_i, ixt0, ixt1, ixt2, ixt3, ixl0, ixl1, ixtl, ixll, truD, lenD, startC, endP, List.map_cons, List.map_nil, List.length_cons, List.length_nil, List.cons_append, List.nil_append, List.getElem?_cons_zero, List.getElem?_cons_succ, List.set_cons_zero, List.set_cons_succ, List.replicate_succ, List.replicate_zero, Nat.reduceSub, Nat.reduceAdd, Nat.reduceLT, Option.isSome_some, true_and, and_true, ne_eq, not_false_eq_true, reduceCtorEq, if_true, if_false, Bool.false_eq_true, decide_eq_true_eq, List.mem_cons, List.not_mem_nil, or_self, or_false, false_or]
        refine ⟨by decide, by simp; omega, hR _ ⟨l ++ [⟨w, v, e2, e1⟩], m6, some (.d (.int (0 + i))), some (.d (.int v)), some (.d (.int w)), some (.d (.int e1)), some (.d (.int e2)), x10, by simp [hl], by omega, fun t h => ?_, h10, ?_⟩⟩
        · rcases List.mem_append.mp h with h | h
          · exact ht t h
          · simp only [List.mem_cons, List.not_mem_nil, or_false] at h
            subst h
            exact ⟨hw.1, hw.2, hv.1, hv.2, eq.1, eq.2, ep.1, ep.2⟩
        · simp [eT]
  · obtain ⟨l, m, x5, x6, x7, x8, x9, x10, hl, hm, ht, h10, rfl⟩ := hI
    try simp -dsimp only [sSeq, sAsg, sRet, sIf, sExp, sFor_eq, sPar2, sPar3, sSetI_eq, sAug_eq, slotA_d, sSetG_eq, sRetG, sGL, sGP, sNil, sBrk, sCnt, sNo, eName_eq, slotE_d, slotE_gen, slotE_scr, slotE_own, eC, eOp, eUn, eSc, eScL, eScR, eCh, eAnd, eOr, eNot, eIf, eTup, eLst, eCB, eIx, eIxN, eSl, eSlN, eSlS, eAddN, eLenN, eApp, eExt, ePop, eCallP_eq, eCallG_eq, eIsi, eGL, eGS, eGC, eGP, aNil, aCons, wB_eq, wTru, wTruN, wAnd, wOr, wNot, wYes, gN, gT_d, gL_own, gL_d, gsC, gsN, oNone, oSome_eq, asI_i, iLst, iTpl, iRg1, iRg2, iEnm, iEnmT, iZp, iScr, eLc_eq, hasD, slotD_eq, slotK_d, slotK_own, ownD_eq, slotO_own, isOwn, scrD, putE, asDs, asD_d, asD_own, argR_d, argR_own, argR_gen, argR_scr, asL_own, asL_d, asT_d, asB_d, sub_i, iadd_i, mul_i, fdiv_i, mod_i, pow_i, lt_i, le_i, gt_i, ge_i, add_i, add_l, add_t, cat_i, cat_l, cat_t, neg_i, eqf_i, eqt_i, lenC_l, lenC_t, absC_i, intC_i, tupC_l, tupC_t, max2C_i, min2C_i, lenC_s, reprC_b, reprA_b, reprA_i, reprA_t, reprC_i, eqf_rb, eqt_rb, eqt_ri, slD_t, max3C_i, ixt0, ixt1, ixt2, ixt3, ixl0, ixl1, ixtl, ixll, truD, lenD, startC, endP, List.map_cons, List.map_nil, List.length_cons, List.length_nil, List.cons_append, List.nil_append, List.getElem?_cons_zero, List.getElem?_cons_succ, List.set_cons_zero, List.set_cons_succ, List.replicate_succ, List.replicate_zero, Nat.reduceSub, Nat.reduceAdd, Nat.reduceLT, Option.isSome_some, true_and, and_true, ne_eq, not_false_eq_true, reduceCtorEq, if_true, if_false, Bool.false_eq_true, decide_eq_true_eq, List.mem_cons, List.not_mem_nil, or_self, or_false, false_or]
    rw [rngX_length] at hl hm
    exact ⟨by decide, hQ ⟨rooms, l⟩ m ⟨h1, ht⟩ rfl (by show (l.length : Int) = ties; omega) (by omega)⟩
end K

set_option Elab.async false
set_option maxRecDepth 100000
set_option linter.all false
set_option autoImplicit false
set_option maxHeartbeats 4000000
namespace K
open PySem L2 Dl
/-! ### ties of steps, and walks that lead on -/
def Web.tie (w : Web) (t : Int) : Tie := (w.ties[t.toNat]?).getD ⟨0, 0, 1, 1⟩
theorem Web.at.tie {w : Web} {t : Int} {x : Tie} (h : Web.at w t x) : w.tie t = x := by
  obtain ⟨i, rfl, e⟩ := h
  unfold Web.tie
  rw [Int.toNat_natCast, e]
  rfl
def Web.e (w : Web) (s : Stp) : Tie := rev (w.tie s.tie) s.side
theorem StepsOk.e {w : Web} {l : List Stp} (h : StepsOk w l) (wo : WebOk w 1000) {s : Stp} (hs : s ∈ l) : ∃ x, Web.at w s.tie x ∧ w.e s = rev x s.side ∧ TieOk w.rooms 1000 (w.e s) := by
  obtain ⟨x, hx⟩ := (h s hs).1
  refine ⟨x, hx, by unfold Web.e; rw [hx.tie], ?_⟩
  unfold Web.e
  rw [hx.tie]
  exact (wo.at hx).rev _
def cr (s : Stp) : Int × Int := (s.tie, s.side)
/-- the crossings lead on from r to h -/
inductive Ch (w : Web) (r : Int) : List (Int × Int) → Int → Prop
  | nil : Ch w r [] r
  | snoc {l : List (Int × Int)} {h : Int} (c : Int × Int) : Ch w r l h → (w.e ⟨c.1, c.2, 0⟩).v = h → Ch w r (l ++ [c]) (w.e ⟨c.1, c.2, 0⟩).w
theorem Ch.put {w : Web} {r h : Int} {l : List Stp} (H : Ch w r (l.map cr) h) {t s : Int} {y : Tie} (k : Int) (a : Web.at w t y) (e : (rev y s).v = h) : Ch w r ((l ++ [Stp.mk t s k]).map cr) (rev y s).w := by
  have q : w.e ⟨t, s, 0⟩ = rev y s := by unfold Web.e; rw [a.tie]
  rw [List.map_append, ← q]
  exact .snoc (t, s) H (by rw [q]; exact e)
abbrev Cends_of : Cn := fun rs g Q => ∃ w t s x, rs = [.d (eW w), .d (.int t), .d (.int s)] ∧ Web.at w t x ∧ Q (.d (eT (rev x s))) g
def wends_of : WS :=
  (sSeq (sAsg (eIx (eIxN 0 (eC (.int 1))) (eName 1)) (gT 4 (gsCons (gN 3) (gsCons (gN 4) (gsCons (gN 5) (gsCons (gN 6) gsNil))))))
  (sSeq (sIf (wB (eScL 2 (eqD false) (eC (.int 1)))) (sRet (eTup (aCons (eName 3) (aCons (eName 4) (aCons (eName 5) (aCons (eName 6) aNil)))))) sNil)
  (sRet (eTup (aCons (eName 4) (aCons (eName 3) (aCons (eName 6) (aCons (eName 5) aNil))))))))
theorem lenends_of (rs : List Rv) (g : Option Nat) (Q : Rv → Option Nat → Prop) (h : Cends_of rs g Q) : rs.length = 3 := by
  obtain ⟨w, t, s, x, rfl, _⟩ := h
  rfl
theorem specends_of (rs : List Rv) (g : Option Nat) (Q : Rv → Option Nat → Prop) (h : Cends_of rs g Q) : wends_of (startC 7 rs g) (endP Q) fun _ _ => False := by
  obtain ⟨w, t, s, x, rfl, ⟨i, rfl, hx⟩, hQ⟩ := h
  simp -dsimp only [wends_of, eW, sSeq, sAsg, sRet, sIf, sExp, sFor_eq, sPar2, sPar3, sSetI_eq, sAug_eq, slotA_d, sSetG_eq, sRetG, sGL, sGP, sNil, sBrk, sCnt, sNo, eName_eq, slotE_d, slotE_gen, slotE_scr, slotE_own, eC, eOp, eUn, eSc, eScL, eScR, eCh, eAnd, eOr, eNot, eIf, eTup, eLst, eCB, eIx, eIxN, eSl, eSlN, eSlS, eAddN, eLenN, eApp, eExt, ePop, eCallP_eq, eCallG_eq, eIsi, eGL, eGS, eGC, eGP, aNil, aCons, wB_eq, wTru, wTruN, wAnd, wOr, wNot, wYes, gN, gT_d, gL_own, gL_d, gsC, gsN, oNone, oSome_eq, asI_i, iLst, iTpl, iRg1, iRg2, iEnm, iEnmT, iZp, iScr, eLc_eq, hasD, slotD_eq, slotK_d, slotK_own, ownD_eq, slotO_own, isOwn, scrD, putE, asDs, asD_d, asD_own, argR_d, argR_own, argR_gen, argR_scr, asL_own, asL_d, asT_d, asB_d, sub_i, iadd_i, mul_i, fdiv_i, mod_i, pow_i, lt_i, le_i, gt_i, ge_i, add_i, add_l, add_t, cat_i, cat_l, cat_t, neg_i, eqf_i, eqt_i, lenC_l, lenC_t, absC_i, intC_i, tupC_l, tupC_t, max2C_i, min2C_i, lenC_s, reprC_b, reprA_b, reprA_i, reprA_t, reprC_i, eqf_rb, eqt_rb, eqt_ri, slD_t, max3C_i, ixt0, ixt1, ixt2, ixt3, ixl0, ixl1, ixtl, ixll, truD, lenD, startC, endP, List.map_cons, List.map_nil, List.length_cons, List.length_nil, List.cons_append, List.nil_append, List.getElem?_cons_zero, List.getElem?_cons_succ, List.set_cons_zero, List.set_cons_succ, List.replicate_succ, List.replicate_zero, Nat.reduceSub, Nat.reduceAdd, Nat.reduceLT, Option.isSome_some, true_and, and_true, ne_eq, not_false_eq_true, reduceCtorEq, if_true, if_false, Bool.false_eq_true, decide_eq_true_eq, List.mem_cons, List.not_mem_nil, or_self, or_false, false_or]
  rw [ixtn (map_of eT hx)]
  simp -dsimp only [eT, sSeq, sAsg, sRet, sIf, sExp, sFor_eq, sPar2, sPar3, sSetI_eq, sAug_eq, slotA_d, sSetG_eq, sRetG, sGL, sGP, sNil, sBrk, sCnt, sNo, eName_eq, slotE_d, slotE_gen, slotE_scr, slotE_own, eC, eOp, eUn, eSc, eScL, eScR, eCh, eAnd, eOr, eNot, eIf, eTup, eLst, eCB, eIx, eIxN, eSl, eSlN, eSlS, eAddN, eLenN, eApp, eExt, ePop, eCallP_eq, eCallG_eq, eIsi, eGL, eGS, eGC, eGP, aNil, aCons, wB_eq, wTru, wTruN, wAnd, wOr, wNot, wYes, gN, gT_d, gL_own, gL_d, gsC, gsN, oNone, oSome_eq, asI_i, iLst, iTpl, iRg1, iRg2, iEnm, iEnmT, iZp, iScr, eLc_eq, hasD, slotD_eq, slotK_d, slotK_own, ownD_eq, slotO_own, isOwn, scrD, putE, asDs, asD_d, asD_own, argR_d, argR_own, argR_gen, argR_scr, asL_own, asL_d, asT_d, asB_d, sub_i, iadd_i, mul_i, fdiv_i, mod_i, pow_i, lt_i, le_i, gt_i, ge_i, add_i, add_l, add_t, cat_i, cat_l, cat_t, neg_i, eqf_i, eqt_i, lenC_l, lenC_t, absC_i, intC_i, tupC_l, tupC_t, max2C_i, min2C_i, lenC_s, reprC_b, reprA_b, reprA_i, reprA_t, reprC_i, eqf_rb, eqt_rb, eqt_ri, slD_t, max3C_i, ixt0, ixt1, ixt2, ixt3, ixl0, ixl1, ixtl, ixll, truD, lenD, startC, endP, List.map_cons, List.map_nil, List.length_cons, List.length_nil, List.cons_append, List.nil_append, List.getElem?_cons_zero, List.getElem?_cons_succ, List.set_cons_zero, List.set_cons_succ, List.replicate_succ, List.replicate_zero, Nat.reduceSub, Nat.reduceAdd, Nat.reduceLT, Option.isSome_some, true_and, and_true, ne_eq, not_false_eq_true, reduceCtorEq, if_true, if_false, Bool.false_eq_true, decide_eq_true_eq, List.mem_cons, List.not_mem_nil, or_self, or_false, false_or]
  unfold rev at hQ
  by_cases hs : s = 1
  · rw [if_pos hs] at hQ
    simp -dsimp only [hs, beq_self_eq_true, sSeq, sAsg, sRet, sIf, sExp, sFor_eq, sPar2, sPar3, sSetI_eq, sAug_eq, slotA_d, sSetG_eq, sRetG, sGL, sGP, sNil, sBrk, sCnt, sNo, eName_eq, slotE_d, slotE_gen, slotE_scr, slotE_own, eC, eOp, eUn, eSc, eScL, eScR, eCh, eAnd, eOr, eNot, eIf, eTup, eLst, eCB, eIx, eIxN, eSl, eSlN, eSlS, eAddN, eLenN, eApp, eExt, ePop, eCallP_eq, eCallG_eq, eIsi, eGL, eGS, eGC, eGP, aNil, aCons, wB_eq, wTru, wTruN, wAnd, wOr, wNot, wYes, gN, gT_d, gL_own, gL_d, gsC, gsN, oNone, oSome_eq, asI_i, iLst, iTpl, iRg1, iRg2, iEnm, iEnmT, iZp, iScr, eLc_eq, hasD, slotD_eq, slotK_d, slotK_own, ownD_eq, slotO_own, isOwn, scrD, putE, asDs, asD_d, asD_own, argR_d, argR_own, argR_gen, argR_scr, asL_own, asL_d, asT_d, asB_d, sub_i, iadd_i, mul_i, fdiv_i, mod_i, pow_i, lt_i, le_i, gt_i, ge_i, add_i, add_l, add_t, cat_i, cat_l, cat_t, neg_i, eqf_i, eqt_i, lenC_l, lenC_t, absC_i, intC_i, tupC_l, tupC_t, max2C_i, min2C_i, lenC_s, reprC_b, reprA_b, reprA_i, reprA_t, reprC_i, eqf_rb, eqt_rb, eqt_ri, slD_t, max3C_i, ixt0, ixt1, ixt2, ixt3, ixl0, ixl1, ixtl, ixll, truD, lenD, startC, endP, List.map_cons, List.map_nil, List.length_cons, List.length_nil, List.cons_append, List.nil_append, List.getElem?_cons_zero, List.getElem?_cons_succ, List.set_cons_zero, List.set_cons_succ, List.replicate_succ, List.replicate_zero, Nat.reduceSub, Nat.reduceAdd, Nat.reduceLT, Option.isSome_some, true_and, and_true, ne_eq, not_false_eq_true, reduceCtorEq, if_true, if_false, Bool.false_eq_true, decide_eq_true_eq, List.mem_cons, List.not_mem_nil, or_self, or_false, false_or]
    exact ⟨by decide, hQ⟩
  · rw [if_neg hs] at hQ
    have hb : (s == 1) = false := by simpa using hs
    simp -dsimp only [hb, sSeq, sAsg, sRet, sIf, sExp, sFor_eq, sPar2, sPar3, sSetI_eq, sAug_eq, slotA_d, sSetG_eq, sRetG, sGL, sGP, sNil, sBrk, sCnt, sNo, eName_eq, slotE_d, slotE_gen, slotE_scr, slotE_own, eC, eOp, eUn, eSc, eScL, eScR, eCh, eAnd, eOr, eNot, eIf, eTup, eLst, eCB, eIx, eIxN, eSl, eSlN, eSlS, eAddN, eLenN, eApp, eExt, ePop, eCallP_eq, eCallG_eq, eIsi, eGL, eGS, eGC, eGP, aNil, aCons, wB_eq, wTru, wTruN, wAnd, wOr, wNot, wYes, gN, gT_d, gL_own, gL_d, gsC, gsN, oNone, oSome_eq, asI_i, iLst, iTpl, iRg1, iRg2, iEnm, iEnmT, iZp, iScr, eLc_eq, hasD, slotD_eq, slotK_d, slotK_own, ownD_eq, slotO_own, isOwn, scrD, putE, asDs, asD_d, asD_own, argR_d, argR_own, argR_gen, argR_scr, asL_own, asL_d, asT_d, asB_d, sub_i, iadd_i, mul_i, fdiv_i, mod_i, pow_i, lt_i, le_i, gt_i, ge_i, add_i, add_l, add_t, cat_i, cat_l, cat_t, neg_i, eqf_i, eqt_i, lenC_l, lenC_t, absC_i, intC_i, tupC_l, tupC_t, max2C_i, min2C_i, lenC_s, reprC_b, reprA_b, reprA_i, reprA_t, reprC_i, eqf_rb, eqt_rb, eqt_ri, slD_t, max3C_i, ixt0, ixt1, ixt2, ixt3, ixl0, ixl1, ixtl, ixll, truD, lenD, startC, endP, List.map_cons, List.map_nil, List.length_cons, List.length_nil, List.cons_append, List.nil_append, List.getElem?_cons_zero, List.getElem?_cons_succ, List.set_cons_zero, List.set_cons_succ, List.replicate_succ, List.replicate_zero, Nat.reduceSub, Nat.reduceAdd, Nat.reduceLT, Option.isSome_some, true_and, and_true, ne_eq, not_false_eq_true, reduceCtorEq, if_true, if_false, Bool.false_eq_true, decide_eq_true_eq, List.mem_cons, List.not_mem_nil, or_self, or_false, false_or]
    exact ⟨by decide, hQ⟩
end K

set_option Elab.async false
set_option maxRecDepth 100000
set_option linter.all false
set_option autoImplicit false
set_option maxHeartbeats 4000000
namespace K
open PySem L2 Dl
theorem cut_len {α : Type} (xs : List α) (lo hi : Option Int) : (cutX xs lo hi).length ≤ xs.length := by
  unfold cutX
  rw [List.length_take, List.length_drop]
  omega
theorem filt (ns : List Int) : ns.filterMap (fun i => if 1000000000000000000 ≤ i then some (PyData.int i) else none) = (ns.filter fun i => decide (1000000000000000000 ≤ i)).map PyData.int := by
  induction ns with
  | nil => rfl
  | cons a l ih =>
    by_cases h : 1000000000000000000 ≤ a
    · rw [List.filterMap_cons_some (by simp [h]; rfl), List.filter_cons_of_pos (by simp [h]), List.map_cons, ih]
    · rw [List.filterMap_cons_none (by simp [h]), List.filter_cons_of_neg (by simp [h]), ih]
abbrev C_law_begun : Cn := fun rs g Q => ∃ (ns : List Int) (k : Int), rs = [.scr ns, .d (.int k)] ∧ g = none ∧ 0 ≤ k ∧ k ≤ 100 ∧ ns.length ≤ 100 ∧ Q .gen (some 0)
def w_law_begun : WS :=
  (sSeq (sAsg (eOp addD (eSlS 0 (oSome (eName 1)) oNone) (eSlS 0 oNone (oSome (eName 1)))) (gN 2))
  (sSeq (sAsg (eLc (iScr 0) (gN 3) (wB (eScL 3 geD (eOp powD (eC (.int 10)) (eC (.int 18))))) (eName 3) [3]) (gN 4))
  (sSeq (sAsg (eOp addD (eC (.int 59)) (eOp mulD (eC (.int 6)) (eName 1))) (gN 5))
  (sSeq (sFor (iLst (eName 2)) (gN 3)
  (sAsg (eOp modD (eCB intC (aCons (eOp addD (eOp mulD (eName 5) (eC (.int 48271))) (eName 3)) aNil)) (eC (.int 2147483647))) (gN 5)))
  (sRetG (eIf (wB (eScL 1 ltD (eLenN 4))) (eIxN 4 (eName 1)) (eC (.int 0))) (eName 5) (eAddN 2 (eLst (aCons (eOp addD (eOp mulD (eC (.int 43)) (eName 1)) (eC (.int 17))) aNil))) (eC (.int 0)))))))
theorem len_law_begun (rs : List Rv) (g : Option Nat) (Q : Rv → Option Nat → Prop) (h : C_law_begun rs g Q) : rs.length = 2 := by
  obtain ⟨a, b, rfl, _⟩ := h
  rfl
theorem spec_law_begun (rs : List Rv) (g : Option Nat) (Q : Rv → Option Nat → Prop) (h : C_law_begun rs g Q) : w_law_begun (startC 6 rs g) (endP Q) fun _ _ => False := by
  obtain ⟨ns, k, rfl, rfl, h0, h1, hl, hQ⟩ := h
  simp only [w_law_begun, pow18]
  try simp -dsimp only [sSeq, sAsg, sRet, sIf, sExp, sFor_eq, sPar2, sPar3, sSetI_eq, sAug_eq, slotA_d, sSetG_eq, sRetG, sGL, sGP, sNil, sBrk, sCnt, sNo, eName_eq, slotE_d, slotE_gen, slotE_scr, slotE_own, eC, eOp, eUn, eSc, eScL, eScR, eCh, eAnd, eOr, eNot, eIf, eTup, eLst, eCB, eIx, eIxN, eSl, eSlN, eSlS, eAddN, eLenN, eApp, eExt, ePop, eCallP_eq, eCallG_eq, eIsi, eGL, eGS, eGC, eGP, aNil, aCons, wB_eq, wTru, wTruN, wAnd, wOr, wNot, wYes, gN, gT_d, gL_own, gL_d, gsC, gsN, oNone, oSome_eq, asI_i, iLst, iTpl, iRg1, iRg2, iEnm, iEnmT, iZp, iScr, eLc_eq, hasD, slotD_eq, slotK_d, slotK_own, ownD_eq, slotO_own, isOwn, scrD, putE, asDs, asD_d, asD_own, argR_d, argR_own, argR_gen, argR_scr, asL_own, asL_d, asT_d, asB_d, sub_i, iadd_i, mul_i, fdiv_i, mod_i, pow_i, lt_i, le_i, gt_i, ge_i, add_i, add_l, add_t, cat_i, cat_l, cat_t, neg_i, eqf_i, eqt_i, lenC_l, lenC_t, absC_i, intC_i, tupC_l, tupC_t, max2C_i, min2C_i, lenC_s, reprC_b, reprA_b, reprA_i, reprA_t, reprC_i, eqf_rb, eqt_rb, eqt_ri, slD_t, max3C_i, ixt0, ixt1, ixt2, ixt3, ixl0, ixl1, ixtl, ixll, truD, lenD, startC, endP, List.map_cons, List.map_nil, List.length_cons, List.length_nil, List.cons_append, List.nil_append, List.getElem?_cons_zero, List.getElem?_cons_succ, List.set_cons_zero, List.set_cons_succ, List.replicate_succ, List.replicate_zero, Nat.reduceSub, Nat.reduceAdd, Nat.reduceLT, Option.isSome_some, true_and, and_true, ne_eq, not_false_eq_true, reduceCtorEq, if_true, if_false, Bool.false_eq_true, decide_eq_true_eq, List.mem_cons, List.not_mem_nil, or_self, or_false, false_or]
  have hc1 := cut_len ns (some k) none
  have hc2 := cut_len ns none (some k)
  rw [← List.map_append]
  have hcl : (cutX ns (some k) none ++ cutX ns none (some k)).length ≤ 200 := by simp; omega
  refine ⟨by simp; omega, by simp [nown], ?_⟩
  generalize cutX ns (some k) none ++ cutX ns none (some k) = cs at hcl ⊢
  refine lcW_fma PyData.int (fun i => if 1000000000000000000 ≤ i then some (.int i) else none) ns [] (fun i hi R S hR hS => ?_) (by simp; omega) ?_
  · simp -dsimp only [Turn1, wipeE, sSeq, sAsg, sRet, sIf, sExp, sFor_eq, sPar2, sPar3, sSetI_eq, sAug_eq, slotA_d, sSetG_eq, sRetG, sGL, sGP, sNil, sBrk, sCnt, sNo, eName_eq, slotE_d, slotE_gen, slotE_scr, slotE_own, eC, eOp, eUn, eSc, eScL, eScR, eCh, eAnd, eOr, eNot, eIf, eTup, eLst, eCB, eIx, eIxN, eSl, eSlN, eSlS, eAddN, eLenN, eApp, eExt, ePop, eCallP_eq, eCallG_eq, eIsi, eGL, eGS, eGC, eGP, aNil, aCons, wB_eq, wTru, wTruN, wAnd, wOr, wNot, wYes, gN, gT_d, gL_own, gL_d, gsC, gsN, oNone, oSome_eq, asI_i, iLst, iTpl, iRg1, iRg2, iEnm, iEnmT, iZp, iScr, eLc_eq, hasD, slotD_eq, slotK_d, slotK_own, ownD_eq, slotO_own, isOwn, scrD, putE, asDs, asD_d, asD_own, argR_d, argR_own, argR_gen, argR_scr, asL_own, asL_d, asT_d, asB_d, sub_i, iadd_i, mul_i, fdiv_i, mod_i, pow_i, lt_i, le_i, gt_i, ge_i, add_i, add_l, add_t, cat_i, cat_l, cat_t, neg_i, eqf_i, eqt_i, lenC_l, lenC_t, absC_i, intC_i, tupC_l, tupC_t, max2C_i, min2C_i, lenC_s, reprC_b, reprA_b, reprA_i, reprA_t, reprC_i, eqf_rb, eqt_rb, eqt_ri, slD_t, max3C_i, ixt0, ixt1, ixt2, ixt3, ixl0, ixl1, ixtl, ixll, truD, lenD, startC, endP, List.map_cons, List.map_nil, List.length_cons, List.length_nil, List.cons_append, List.nil_append, List.getElem?_cons_zero, List.getElem?_cons_succ, List.set_cons_zero, List.set_cons_succ, List.replicate_succ, List.replicate_zero, Nat.reduceSub, Nat.reduceAdd, Nat.reduceLT, Option.isSome_some, true_and, and_true, ne_eq, not_false_eq_true, reduceCtorEq, if_true, if_false, Bool.false_eq_true, decide_eq_true_eq, List.mem_cons, List.not_mem_nil, or_self, or_false, false_or]
    by_cases hg : 1000000000000000000 ≤ i
    · simp -dsimp only [hg, sSeq, sAsg, sRet, sIf, sExp, sFor_eq, sPar2, sPar3, sSetI_eq, sAug_eq, slotA_d, sSetG_eq, sRetG, sGL, sGP, sNil, sBrk, sCnt, sNo, eName_eq, slotE_d, slotE_gen, slotE_scr, slotE_own, eC, eOp, eUn, eSc, eScL, eScR, eCh, eAnd, eOr, eNot, eIf, eTup, eLst, eCB, eIx, eIxN, eSl, eSlN, eSlS, eAddN, eLenN, eApp, eExt, ePop, eCallP_eq, eCallG_eq, eIsi, eGL, eGS, eGC, eGP, aNil, aCons, wB_eq, wTru, wTruN, wAnd, wOr, wNot, wYes, gN, gT_d, gL_own, gL_d, gsC, gsN, oNone, oSome_eq, asI_i, iLst, iTpl, iRg1, iRg2, iEnm, iEnmT, iZp, iScr, eLc_eq, hasD, slotD_eq, slotK_d, slotK_own, ownD_eq, slotO_own, isOwn, scrD, putE, asDs, asD_d, asD_own, argR_d, argR_own, argR_gen, argR_scr, asL_own, asL_d, asT_d, asB_d, sub_i, iadd_i, mul_i, fdiv_i, mod_i, pow_i, lt_i, le_i, gt_i, ge_i, add_i, add_l, add_t, cat_i, cat_l, cat_t, neg_i, eqf_i, eqt_i, lenC_l, lenC_t, absC_i, intC_i, tupC_l, tupC_t, max2C_i, min2C_i, lenC_s, reprC_b, reprA_b, reprA_i, reprA_t, reprC_i, eqf_rb, eqt_rb, eqt_ri, slD_t, max3C_i, ixt0, ixt1, ixt2, ixt3, ixl0, ixl1, ixtl, ixll, truD, lenD, startC, endP, List.map_cons, List.map_nil, List.length_cons, List.length_nil, List.cons_append, List.nil_append, List.getElem?_cons_zero, List.getElem?_cons_succ, List.set_cons_zero, List.set_cons_succ, List.replicate_succ, List.replicate_zero, Nat.reduceSub, Nat.reduceAdd, Nat.reduceLT, Option.isSome_some, true_and, and_true, ne_eq, not_false_eq_true, reduceCtorEq, if_true, if_false, Bool.false_eq_true, decide_eq_true_eq, List.mem_cons, List.not_mem_nil, or_self, or_false, false_or]
      exact hR _ (by simp [hg])
    · simp -dsimp only [hg, sSeq, sAsg, sRet, sIf, sExp, sFor_eq, sPar2, sPar3, sSetI_eq, sAug_eq, slotA_d, sSetG_eq, sRetG, sGL, sGP, sNil, sBrk, sCnt, sNo, eName_eq, slotE_d, slotE_gen, slotE_scr, slotE_own, eC, eOp, eUn, eSc, eScL, eScR, eCh, eAnd, eOr, eNot, eIf, eTup, eLst, eCB, eIx, eIxN, eSl, eSlN, eSlS, eAddN, eLenN, eApp, eExt, ePop, eCallP_eq, eCallG_eq, eIsi, eGL, eGS, eGC, eGP, aNil, aCons, wB_eq, wTru, wTruN, wAnd, wOr, wNot, wYes, gN, gT_d, gL_own, gL_d, gsC, gsN, oNone, oSome_eq, asI_i, iLst, iTpl, iRg1, iRg2, iEnm, iEnmT, iZp, iScr, eLc_eq, hasD, slotD_eq, slotK_d, slotK_own, ownD_eq, slotO_own, isOwn, scrD, putE, asDs, asD_d, asD_own, argR_d, argR_own, argR_gen, argR_scr, asL_own, asL_d, asT_d, asB_d, sub_i, iadd_i, mul_i, fdiv_i, mod_i, pow_i, lt_i, le_i, gt_i, ge_i, add_i, add_l, add_t, cat_i, cat_l, cat_t, neg_i, eqf_i, eqt_i, lenC_l, lenC_t, absC_i, intC_i, tupC_l, tupC_t, max2C_i, min2C_i, lenC_s, reprC_b, reprA_b, reprA_i, reprA_t, reprC_i, eqf_rb, eqt_rb, eqt_ri, slD_t, max3C_i, ixt0, ixt1, ixt2, ixt3, ixl0, ixl1, ixtl, ixll, truD, lenD, startC, endP, List.map_cons, List.map_nil, List.length_cons, List.length_nil, List.cons_append, List.nil_append, List.getElem?_cons_zero, List.getElem?_cons_succ, List.set_cons_zero, List.set_cons_succ, List.replicate_succ, List.replicate_zero, Nat.reduceSub, Nat.reduceAdd, Nat.reduceLT, Option.isSome_some, true_and, and_true, ne_eq, not_false_eq_true, reduceCtorEq, if_true, if_false, Bool.false_eq_true, decide_eq_true_eq, List.mem_cons, List.not_mem_nil, or_self, or_false, false_or]
      exact hS (by simp [hg])
  rw [List.nil_append, show ns.filterMap (fun i => if 1000000000000000000 ≤ i then some (PyData.int i) else none) = (ns.filter fun i => decide (1000000000000000000 ≤ i)).map PyData.int from filt ns]
  have hgr : ∀ i ∈ ns.filter fun i => decide (1000000000000000000 ≤ i), (0 : Int) ≤ i := fun i hi => by
    have := (List.mem_filter.mp hi).2
    simp at this
    omega
  have hgl : (ns.filter fun i => decide (1000000000000000000 ≤ i)).length ≤ 100 := Nat.le_trans (List.length_filter_le _ _) hl
  generalize (ns.filter fun i => decide (1000000000000000000 ≤ i)) = gr at hgr hgl ⊢
  try simp -dsimp only [sSeq, sAsg, sRet, sIf, sExp, sFor_eq, sPar2, sPar3, sSetI_eq, sAug_eq, slotA_d, sSetG_eq, sRetG, sGL, sGP, sNil, sBrk, sCnt, sNo, eName_eq, slotE_d, slotE_gen, slotE_scr, slotE_own, eC, eOp, eUn, eSc, eScL, eScR, eCh, eAnd, eOr, eNot, eIf, eTup, eLst, eCB, eIx, eIxN, eSl, eSlN, eSlS, eAddN, eLenN, eApp, eExt, ePop, eCallP_eq, eCallG_eq, eIsi, eGL, eGS, eGC, eGP, aNil, aCons, wB_eq, wTru, wTruN, wAnd, wOr, wNot, wYes, gN, gT_d, gL_own, gL_d, gsC, gsN, oNone, oSome_eq, asI_i, iLst, iTpl, iRg1, iRg2, iEnm, iEnmT, iZp, iScr, eLc_eq, hasD, slotD_eq, slotK_d, slotK_own, ownD_eq, slotO_own, isOwn, scrD, putE, asDs, asD_d, asD_own, argR_d, argR_own, argR_gen, argR_scr, asL_own, asL_d, asT_d, asB_d, sub_i, iadd_i, mul_i, fdiv_i, mod_i, pow_i, lt_i, le_i, gt_i, ge_i, add_i, add_l, add_t, cat_i, cat_l, cat_t, neg_i, eqf_i, eqt_i, lenC_l, lenC_t, absC_i, intC_i, tupC_l, tupC_t, max2C_i, min2C_i, lenC_s, reprC_b, reprA_b, reprA_i, reprA_t, reprC_i, eqf_rb, eqt_rb, eqt_ri, slD_t, max3C_i, ixt0, ixt1, ixt2, ixt3, ixl0, ixl1, ixtl, ixll, truD, lenD, startC, endP, List.map_cons, List.map_nil, List.length_cons, List.length_nil, List.cons_append, List.nil_append, List.getElem?_cons_zero, List.getElem?_cons_succ, List.set_cons_zero, List.set_cons_succ, List.replicate_succ, List.replicate_zero, Nat.reduceSub, Nat.reduceAdd, Nat.reduceLT, Option.isSome_some, true_and, and_true, ne_eq, not_false_eq_true, reduceCtorEq, if_true, if_false, Bool.false_eq_true, decide_eq_true_eq, List.mem_cons, List.not_mem_nil, or_self, or_false, false_or]
  refine ⟨CMul2.l (by decide) (by decide), ?_⟩
  refine forW_ind _ (fun i c => ∃ (b : Int) (x3 : Option Rv), 0 ≤ b ∧ b < 2147483647 ∧ c = ⟨[some (.scr ns), some (.d (.int k)), some (.d (.list (cs.map .int))), x3, some (.own (gr.map .int)), some (.d (.int b))], none⟩) (fun i x c hx hI R hR => ?_) (fun c hI => ?_) _ ⟨59 + 6 * k, _, by omega, by omega, rfl⟩
  · obtain ⟨b, x3, hb0, hb1, rfl⟩ := hI
    obtain ⟨a, ha, rfl⟩ := map_at hx
    try simp -dsimp only [sSeq, sAsg, sRet, sIf, sExp, sFor_eq, sPar2, sPar3, sSetI_eq, sAug_eq, slotA_d, sSetG_eq, sRetG, sGL, sGP, sNil, sBrk, sCnt, sNo, eName_eq, slotE_d, slotE_gen, slotE_scr, slotE_own, eC, eOp, eUn, eSc, eScL, eScR, eCh, eAnd, eOr, eNot, eIf, eTup, eLst, eCB, eIx, eIxN, eSl, eSlN, eSlS, eAddN, eLenN, eApp, eExt, ePop, eCallP_eq, eCallG_eq, eIsi, eGL, eGS, eGC, eGP, aNil, aCons, wB_eq, wTru, wTruN, wAnd, wOr, wNot, wYes, gN, gT_d, gL_own, gL_d, gsC, gsN, oNone, oSome_eq, asI_i, iLst, iTpl, iRg1, iRg2, iEnm, iEnmT, iZp, iScr, eLc_eq, hasD, slotD_eq, slotK_d, slotK_own, ownD_eq, slotO_own, isOwn, scrD, putE, asDs, asD_d, asD_own, argR_d, argR_own, argR_gen, argR_scr, asL_own, asL_d, asT_d, asB_d, sub_i, iadd_i, mul_i, fdiv_i, mod_i, pow_i, lt_i, le_i, gt_i, ge_i, add_i, add_l, add_t, cat_i, cat_l, cat_t, neg_i, eqf_i, eqt_i, lenC_l, lenC_t, absC_i, intC_i, tupC_l, tupC_t, max2C_i, min2C_i, lenC_s, reprC_b, reprA_b, reprA_i, reprA_t, reprC_i, eqf_rb, eqt_rb, eqt_ri, slD_t, max3C_i, ixt0, ixt1, ixt2, ixt3, ixl0, ixl1, ixtl, ixll, truD, lenD, startC, endP, List.map_cons, List.map_nil, List.length_cons, List.length_nil, List.cons_append, List.nil_append, List.getElem?_cons_zero, List.getElem?_cons_succ, List.set_cons_zero, List.set_cons_succ, List.replicate_succ, List.replicate_zero, Nat.reduceSub, Nat.reduceAdd, Nat.reduceLT, Option.isSome_some, true_and, and_true, ne_eq, not_false_eq_true, reduceCtorEq, if_true, if_false, Bool.false_eq_true, decide_eq_true_eq, List.mem_cons, List.not_mem_nil, or_self, or_false, false_or]
    have hf := fmod_b (i := b * 48271 + a) (b := 2147483647) (by omega)
    exact ⟨CMul2.r (by omega) (by omega), by decide, hR _ ⟨_, _, hf.1, hf.2, rfl⟩⟩
  · obtain ⟨b, x3, hb0, hb1, rfl⟩ := hI
    try simp -dsimp only [sSeq, sAsg, sRet, sIf, sExp, sFor_eq, sPar2, sPar3, sSetI_eq, sAug_eq, slotA_d, sSetG_eq, sRetG, sGL, sGP, sNil, sBrk, sCnt, sNo, eName_eq, slotE_d, slotE_gen, slotE_scr, slotE_own, eC, eOp, eUn, eSc, eScL, eScR, eCh, eAnd, eOr, eNot, eIf, eTup, eLst, eCB, eIx, eIxN, eSl, eSlN, eSlS, eAddN, eLenN, eApp, eExt, ePop, eCallP_eq, eCallG_eq, eIsi, eGL, eGS, eGC, eGP, aNil, aCons, wB_eq, wTru, wTruN, wAnd, wOr, wNot, wYes, gN, gT_d, gL_own, gL_d, gsC, gsN, oNone, oSome_eq, asI_i, iLst, iTpl, iRg1, iRg2, iEnm, iEnmT, iZp, iScr, eLc_eq, hasD, slotD_eq, slotK_d, slotK_own, ownD_eq, slotO_own, isOwn, scrD, putE, asDs, asD_d, asD_own, argR_d, argR_own, argR_gen, argR_scr, asL_own, asL_d, asT_d, asB_d, sub_i, iadd_i, mul_i, fdiv_i, mod_i, pow_i, lt_i, le_i, gt_i, ge_i, add_i, add_l, add_t, cat_i, cat_l, cat_t, neg_i, eqf_i, eqt_i, lenC_l, lenC_t, absC_i, intC_i, tupC_l, tupC_t, max2C_i, min2C_i, lenC_s, reprC_b, reprA_b, reprA_i, reprA_t, reprC_i, eqf_rb, eqt_rb, eqt_ri, slD_t, max3C_i, ixt0, ixt1, ixt2, ixt3, ixl0, ixl1, ixtl, ixll, truD, lenD, startC, endP, List.map_cons, List.map_nil, List.length_cons, List.length_nil, List.cons_append, List.nil_append, List.getElem?_cons_zero, List.getElem?_cons_succ, List.set_cons_zero, List.set_cons_succ, List.replicate_succ, List.replicate_zero, Nat.reduceSub, Nat.reduceAdd, Nat.reduceLT, Option.isSome_some, true_and, and_true, ne_eq, not_false_eq_true, reduceCtorEq, if_true, if_false, Bool.false_eq_true, decide_eq_true_eq, List.mem_cons, List.not_mem_nil, or_self, or_false, false_or]
    have fin : 0 ≤ b ∧ b < 2147483647 ∧ CMul2 43 k ∧ 1 ≤ 1000000 ∧ (cs.map PyData.int).length + 1 ≤ 1000000 ∧ ∃ ns : List Int, cs.map PyData.int ++ [PyData.int (43 * k + 17)] = ns.map PyData.int ∧ ¬ns = [] ∧ ns.length ≤ 1000 ∧ Q Rv.gen (some 0) :=
      ⟨hb0, hb1, CMul2.l (by decide) (by decide), by decide, by simp; omega, cs ++ [43 * k + 17], by simp, by simp, by simp; omega, hQ⟩
    by_cases hk : k < ((gr.map PyData.int).length : Int)
    · rw [if_pos hk]
      refine ixl_of h0 hk fun x hx => ?_
      obtain ⟨a, ha, rfl⟩ := List.mem_map.mp hx
      exact ⟨hgr a ha, fin⟩
    · rw [if_neg hk]
      exact ⟨by decide, fin⟩
end K

set_option Elab.async false
set_option maxRecDepth 100000
set_option linter.all false
set_option autoImplicit false
set_option maxHeartbeats 4000000
namespace K
open PySem L2 Dl
/-! ### judging values of drawn kinds -/
inductive Nice : Px → Prop
  | non : Nice .none
  | bl (b : Bool) : Nice (.bool b)
  | int (i : Int) : Nice (.int i)
  | str (s : Str) : Nice (.str s)
  | tup {xs : List Px} : (∀ x ∈ xs, Nice x) → Nice (.tuple xs)
def isInt : Px → Bool
  | .int _ => true
  | _ => false
def inR (lo hi : Int) : Px → Bool
  | .int i => decide (lo ≤ i) && decide (i ≤ hi)
  | _ => false
def turnsB : Px → Bool
  | .int i => decide ((i.natAbs : Int) < top300)
  | _ => false
def sideB : Px → Bool
  | .int i => (i.natAbs : Int) == 1
  | _ => false
def tupN (n : Int) : Px → Bool
  | .tuple xs => (xs.length : Int) == n
  | _ => false
def tupU (n : Int) : Px → Bool
  | .tuple xs => decide ((xs.length : Int) ≤ n)
  | _ => false
theorem isi_int {x : Px} (h : Nice x) : kitB (kindD x) "int" = some (isiD "int" x) ∧ kitB (kindD x) "bool" = some (isiD "bool" x) ∧ kitB (kindD x) "tuple" = some (isiD "tuple" x) := by
  cases h <;> exact ⟨rfl, rfl, rfl⟩
theorem isi_eq {x : Px} (h : Nice x) : (if isiD "int" x = true then !isiD "bool" x else false) = isInt x := by
  cases h <;> rfl
abbrev Cis_integer : Cn := fun rs g Q => ∃ x, rs = [.d x] ∧ Nice x ∧ Q (.d (.bool (isInt x))) g
def wis_integer : WS :=
  (sRet (eAnd (eIsi "int" (eName 0)) (eNot (eIsi "bool" (eName 0)))))
theorem lenis_integer (rs : List Rv) (g : Option Nat) (Q : Rv → Option Nat → Prop) (h : Cis_integer rs g Q) : rs.length = 1 := by
  obtain ⟨k, rfl, _⟩ := h
  rfl
theorem specis_integer (rs : List Rv) (g : Option Nat) (Q : Rv → Option Nat → Prop) (h : Cis_integer rs g Q) : wis_integer (startC 1 rs g) (endP Q) fun _ _ => False := by
  obtain ⟨x, rfl, hx, hQ⟩ := h
  simp -dsimp only [wis_integer, sSeq, sAsg, sRet, sIf, sExp, sFor_eq, sPar2, sPar3, sSetI_eq, sAug_eq, slotA_d, sSetG_eq, sRetG, sGL, sGP, sNil, sBrk, sCnt, sNo, eName_eq, slotE_d, slotE_gen, slotE_scr, slotE_own, eC, eOp, eUn, eSc, eScL, eScR, eCh, eAnd, eOr, eNot, eIf, eTup, eLst, eCB, eIx, eIxN, eSl, eSlN, eSlS, eAddN, eLenN, eApp, eExt, ePop, eCallP_eq, eCallG_eq, eIsi, eGL, eGS, eGC, eGP, aNil, aCons, wB_eq, wTru, wTruN, wAnd, wOr, wNot, wYes, gN, gT_d, gL_own, gL_d, gsC, gsN, oNone, oSome_eq, asI_i, iLst, iTpl, iRg1, iRg2, iEnm, iEnmT, iZp, iScr, eLc_eq, hasD, slotD_eq, slotK_d, slotK_own, ownD_eq, slotO_own, isOwn, scrD, putE, asDs, asD_d, asD_own, argR_d, argR_own, argR_gen, argR_scr, asL_own, asL_d, asT_d, asB_d, sub_i, iadd_i, mul_i, fdiv_i, mod_i, pow_i, lt_i, le_i, gt_i, ge_i, add_i, add_l, add_t, cat_i, cat_l, cat_t, neg_i, eqf_i, eqt_i, lenC_l, lenC_t, absC_i, intC_i, tupC_l, tupC_t, max2C_i, min2C_i, lenC_s, reprC_b, reprA_b, reprA_i, reprA_t, reprC_i, eqf_rb, eqt_rb, eqt_ri, slD_t, max3C_i, ixt0, ixt1, ixt2, ixt3, ixl0, ixl1, ixtl, ixll, truD, lenD, startC, endP, List.map_cons, List.map_nil, List.length_cons, List.length_nil, List.cons_append, List.nil_append, List.getElem?_cons_zero, List.getElem?_cons_succ, List.set_cons_zero, List.set_cons_succ, List.replicate_succ, List.replicate_zero, Nat.reduceSub, Nat.reduceAdd, Nat.reduceLT, Option.isSome_some, true_and, and_true, ne_eq, not_false_eq_true, reduceCtorEq, if_true, if_false, Bool.false_eq_true, decide_eq_true_eq, List.mem_cons, List.not_mem_nil, or_self, or_false, false_or]
  obtain ⟨h1, h2, h3⟩ := isi_int hx
  have e := isi_eq hx
  refine ⟨h1, ?_⟩
  cases hi : isiD "int" x
  · rw [hi] at e
    rw [← e] at hQ
    simpa using hQ
  · rw [hi] at e
    rw [← e] at hQ
    simp only [if_true]
    exact ⟨h2, by simpa using hQ⟩
abbrev Cis_integer_from : Cn := fun rs g Q => ∃ x lo hi, rs = [.d x, .d (.int lo), .d (.int hi)] ∧ Nice x ∧ Q (.d (.bool (inR lo hi x))) g
def wis_integer_from : WS :=
  (sRet (eAnd (eCallP Cis_integer (aCons (eName 0) aNil)) (eCh leD leD (eName 1) (eName 0) (eName 2))))
theorem lenis_integer_from (rs : List Rv) (g : Option Nat) (Q : Rv → Option Nat → Prop) (h : Cis_integer_from rs g Q) : rs.length = 3 := by
  obtain ⟨k, _, _, rfl, _⟩ := h
  rfl
theorem specis_integer_from (rs : List Rv) (g : Option Nat) (Q : Rv → Option Nat → Prop) (h : Cis_integer_from rs g Q) : wis_integer_from (startC 3 rs g) (endP Q) fun _ _ => False := by
  obtain ⟨x, lo, hi, rfl, hx, hQ⟩ := h
  simp -dsimp only [wis_integer_from, sSeq, sAsg, sRet, sIf, sExp, sFor_eq, sPar2, sPar3, sSetI_eq, sAug_eq, slotA_d, sSetG_eq, sRetG, sGL, sGP, sNil, sBrk, sCnt, sNo, eName_eq, slotE_d, slotE_gen, slotE_scr, slotE_own, eC, eOp, eUn, eSc, eScL, eScR, eCh, eAnd, eOr, eNot, eIf, eTup, eLst, eCB, eIx, eIxN, eSl, eSlN, eSlS, eAddN, eLenN, eApp, eExt, ePop, eCallP_eq, eCallG_eq, eIsi, eGL, eGS, eGC, eGP, aNil, aCons, wB_eq, wTru, wTruN, wAnd, wOr, wNot, wYes, gN, gT_d, gL_own, gL_d, gsC, gsN, oNone, oSome_eq, asI_i, iLst, iTpl, iRg1, iRg2, iEnm, iEnmT, iZp, iScr, eLc_eq, hasD, slotD_eq, slotK_d, slotK_own, ownD_eq, slotO_own, isOwn, scrD, putE, asDs, asD_d, asD_own, argR_d, argR_own, argR_gen, argR_scr, asL_own, asL_d, asT_d, asB_d, sub_i, iadd_i, mul_i, fdiv_i, mod_i, pow_i, lt_i, le_i, gt_i, ge_i, add_i, add_l, add_t, cat_i, cat_l, cat_t, neg_i, eqf_i, eqt_i, lenC_l, lenC_t, absC_i, intC_i, tupC_l, tupC_t, max2C_i, min2C_i, lenC_s, reprC_b, reprA_b, reprA_i, reprA_t, reprC_i, eqf_rb, eqt_rb, eqt_ri, slD_t, max3C_i, ixt0, ixt1, ixt2, ixt3, ixl0, ixl1, ixtl, ixll, truD, lenD, startC, endP, List.map_cons, List.map_nil, List.length_cons, List.length_nil, List.cons_append, List.nil_append, List.getElem?_cons_zero, List.getElem?_cons_succ, List.set_cons_zero, List.set_cons_succ, List.replicate_succ, List.replicate_zero, Nat.reduceSub, Nat.reduceAdd, Nat.reduceLT, Option.isSome_some, true_and, and_true, ne_eq, not_false_eq_true, reduceCtorEq, if_true, if_false, Bool.false_eq_true, decide_eq_true_eq, List.mem_cons, List.not_mem_nil, or_self, or_false, false_or]
  refine ⟨x, rfl, hx, ?_⟩
  cases hx with
  | int i =>
    simp -dsimp only [isInt, inR, sSeq, sAsg, sRet, sIf, sExp, sFor_eq, sPar2, sPar3, sSetI_eq, sAug_eq, slotA_d, sSetG_eq, sRetG, sGL, sGP, sNil, sBrk, sCnt, sNo, eName_eq, slotE_d, slotE_gen, slotE_scr, slotE_own, eC, eOp, eUn, eSc, eScL, eScR, eCh, eAnd, eOr, eNot, eIf, eTup, eLst, eCB, eIx, eIxN, eSl, eSlN, eSlS, eAddN, eLenN, eApp, eExt, ePop, eCallP_eq, eCallG_eq, eIsi, eGL, eGS, eGC, eGP, aNil, aCons, wB_eq, wTru, wTruN, wAnd, wOr, wNot, wYes, gN, gT_d, gL_own, gL_d, gsC, gsN, oNone, oSome_eq, asI_i, iLst, iTpl, iRg1, iRg2, iEnm, iEnmT, iZp, iScr, eLc_eq, hasD, slotD_eq, slotK_d, slotK_own, ownD_eq, slotO_own, isOwn, scrD, putE, asDs, asD_d, asD_own, argR_d, argR_own, argR_gen, argR_scr, asL_own, asL_d, asT_d, asB_d, sub_i, iadd_i, mul_i, fdiv_i, mod_i, pow_i, lt_i, le_i, gt_i, ge_i, add_i, add_l, add_t, cat_i, cat_l, cat_t, neg_i, eqf_i, eqt_i, lenC_l, lenC_t, absC_i, intC_i, tupC_l, tupC_t, max2C_i, min2C_i, lenC_s, reprC_b, reprA_b, reprA_i, reprA_t, reprC_i, eqf_rb, eqt_rb, eqt_ri, slD_t, max3C_i, ixt0, ixt1, ixt2, ixt3, ixl0, ixl1, ixtl, ixll, truD, lenD, startC, endP, List.map_cons, List.map_nil, List.length_cons, List.length_nil, List.cons_append, List.nil_append, List.getElem?_cons_zero, List.getElem?_cons_succ, List.set_cons_zero, List.set_cons_succ, List.replicate_succ, List.replicate_zero, Nat.reduceSub, Nat.reduceAdd, Nat.reduceLT, Option.isSome_some, true_and, and_true, ne_eq, not_false_eq_true, reduceCtorEq, if_true, if_false, Bool.false_eq_true, decide_eq_true_eq, List.mem_cons, List.not_mem_nil, or_self, or_false, false_or] at hQ ⊢
    by_cases h : lo ≤ i
    · simpa [h] using hQ
    · simpa [h] using hQ
  | non => simp -dsimp only [isInt, sSeq, sAsg, sRet, sIf, sExp, sFor_eq, sPar2, sPar3, sSetI_eq, sAug_eq, slotA_d, sSetG_eq, sRetG, sGL, sGP, sNil, sBrk, sCnt, sNo, eName_eq, slotE_d, slotE_gen, slotE_scr, slotE_own, eC, eOp, eUn, eSc, eScL, eScR, eCh, eAnd, eOr, eNot, eIf, eTup, eLst, eCB, eIx, eIxN, eSl, eSlN, eSlS, eAddN, eLenN, eApp, eExt, ePop, eCallP_eq, eCallG_eq, eIsi, eGL, eGS, eGC, eGP, aNil, aCons, wB_eq, wTru, wTruN, wAnd, wOr, wNot, wYes, gN, gT_d, gL_own, gL_d, gsC, gsN, oNone, oSome_eq, asI_i, iLst, iTpl, iRg1, iRg2, iEnm, iEnmT, iZp, iScr, eLc_eq, hasD, slotD_eq, slotK_d, slotK_own, ownD_eq, slotO_own, isOwn, scrD, putE, asDs, asD_d, asD_own, argR_d, argR_own, argR_gen, argR_scr, asL_own, asL_d, asT_d, asB_d, sub_i, iadd_i, mul_i, fdiv_i, mod_i, pow_i, lt_i, le_i, gt_i, ge_i, add_i, add_l, add_t, cat_i, cat_l, cat_t, neg_i, eqf_i, eqt_i, lenC_l, lenC_t, absC_i, intC_i, tupC_l, tupC_t, max2C_i, min2C_i, lenC_s, reprC_b, reprA_b, reprA_i, reprA_t, reprC_i, eqf_rb, eqt_rb, eqt_ri, slD_t, max3C_i, ixt0, ixt1, ixt2, ixt3, ixl0, ixl1, ixtl, ixll, truD, lenD, startC, endP, List.map_cons, List.map_nil, List.length_cons, List.length_nil, List.cons_append, List.nil_append, List.getElem?_cons_zero, List.getElem?_cons_succ, List.set_cons_zero, List.set_cons_succ, List.replicate_succ, List.replicate_zero, Nat.reduceSub, Nat.reduceAdd, Nat.reduceLT, Option.isSome_some, true_and, and_true, ne_eq, not_false_eq_true, reduceCtorEq, if_true, if_false, Bool.false_eq_true, decide_eq_true_eq, List.mem_cons, List.not_mem_nil, or_self, or_false, false_or]; exact hQ
  | bl b => simp -dsimp only [isInt, sSeq, sAsg, sRet, sIf, sExp, sFor_eq, sPar2, sPar3, sSetI_eq, sAug_eq, slotA_d, sSetG_eq, sRetG, sGL, sGP, sNil, sBrk, sCnt, sNo, eName_eq, slotE_d, slotE_gen, slotE_scr, slotE_own, eC, eOp, eUn, eSc, eScL, eScR, eCh, eAnd, eOr, eNot, eIf, eTup, eLst, eCB, eIx, eIxN, eSl, eSlN, eSlS, eAddN, eLenN, eApp, eExt, ePop, eCallP_eq, eCallG_eq, eIsi, eGL, eGS, eGC, eGP, aNil, aCons, wB_eq, wTru, wTruN, wAnd, wOr, wNot, wYes, gN, gT_d, gL_own, gL_d, gsC, gsN, oNone, oSome_eq, asI_i, iLst, iTpl, iRg1, iRg2, iEnm, iEnmT, iZp, iScr, eLc_eq, hasD, slotD_eq, slotK_d, slotK_own, ownD_eq, slotO_own, isOwn, scrD, putE, asDs, asD_d, asD_own, argR_d, argR_own, argR_gen, argR_scr, asL_own, asL_d, asT_d, asB_d, sub_i, iadd_i, mul_i, fdiv_i, mod_i, pow_i, lt_i, le_i, gt_i, ge_i, add_i, add_l, add_t, cat_i, cat_l, cat_t, neg_i, eqf_i, eqt_i, lenC_l, lenC_t, absC_i, intC_i, tupC_l, tupC_t, max2C_i, min2C_i, lenC_s, reprC_b, reprA_b, reprA_i, reprA_t, reprC_i, eqf_rb, eqt_rb, eqt_ri, slD_t, max3C_i, ixt0, ixt1, ixt2, ixt3, ixl0, ixl1, ixtl, ixll, truD, lenD, startC, endP, List.map_cons, List.map_nil, List.length_cons, List.length_nil, List.cons_append, List.nil_append, List.getElem?_cons_zero, List.getElem?_cons_succ, List.set_cons_zero, List.set_cons_succ, List.replicate_succ, List.replicate_zero, Nat.reduceSub, Nat.reduceAdd, Nat.reduceLT, Option.isSome_some, true_and, and_true, ne_eq, not_false_eq_true, reduceCtorEq, if_true, if_false, Bool.false_eq_true, decide_eq_true_eq, List.mem_cons, List.not_mem_nil, or_self, or_false, false_or]; exact hQ
  | str s => simp -dsimp only [isInt, sSeq, sAsg, sRet, sIf, sExp, sFor_eq, sPar2, sPar3, sSetI_eq, sAug_eq, slotA_d, sSetG_eq, sRetG, sGL, sGP, sNil, sBrk, sCnt, sNo, eName_eq, slotE_d, slotE_gen, slotE_scr, slotE_own, eC, eOp, eUn, eSc, eScL, eScR, eCh, eAnd, eOr, eNot, eIf, eTup, eLst, eCB, eIx, eIxN, eSl, eSlN, eSlS, eAddN, eLenN, eApp, eExt, ePop, eCallP_eq, eCallG_eq, eIsi, eGL, eGS, eGC, eGP, aNil, aCons, wB_eq, wTru, wTruN, wAnd, wOr, wNot, wYes, gN, gT_d, gL_own, gL_d, gsC, gsN, oNone, oSome_eq, asI_i, iLst, iTpl, iRg1, iRg2, iEnm, iEnmT, iZp, iScr, eLc_eq, hasD, slotD_eq, slotK_d, slotK_own, ownD_eq, slotO_own, isOwn, scrD, putE, asDs, asD_d, asD_own, argR_d, argR_own, argR_gen, argR_scr, asL_own, asL_d, asT_d, asB_d, sub_i, iadd_i, mul_i, fdiv_i, mod_i, pow_i, lt_i, le_i, gt_i, ge_i, add_i, add_l, add_t, cat_i, cat_l, cat_t, neg_i, eqf_i, eqt_i, lenC_l, lenC_t, absC_i, intC_i, tupC_l, tupC_t, max2C_i, min2C_i, lenC_s, reprC_b, reprA_b, reprA_i, reprA_t, reprC_i, eqf_rb, eqt_rb, eqt_ri, slD_t, max3C_i, ixt0, ixt1, ixt2, ixt3, ixl0, ixl1, ixtl, ixll, truD, lenD, startC, endP, List.map_cons, List.map_nil, List.length_cons, List.length_nil, List.cons_append, List.nil_append, List.getElem?_cons_zero, List.getElem?_cons_succ, List.set_cons_zero, List.set_cons_succ, List.replicate_succ, List.replicate_zero, Nat.reduceSub, Nat.reduceAdd, Nat.reduceLT, Option.isSome_some, true_and, and_true, ne_eq, not_false_eq_true, reduceCtorEq, if_true, if_false, Bool.false_eq_true, decide_eq_true_eq, List.mem_cons, List.not_mem_nil, or_self, or_false, false_or]; exact hQ
  | tup h => simp -dsimp only [isInt, sSeq, sAsg, sRet, sIf, sExp, sFor_eq, sPar2, sPar3, sSetI_eq, sAug_eq, slotA_d, sSetG_eq, sRetG, sGL, sGP, sNil, sBrk, sCnt, sNo, eName_eq, slotE_d, slotE_gen, slotE_scr, slotE_own, eC, eOp, eUn, eSc, eScL, eScR, eCh, eAnd, eOr, eNot, eIf, eTup, eLst, eCB, eIx, eIxN, eSl, eSlN, eSlS, eAddN, eLenN, eApp, eExt, ePop, eCallP_eq, eCallG_eq, eIsi, eGL, eGS, eGC, eGP, aNil, aCons, wB_eq, wTru, wTruN, wAnd, wOr, wNot, wYes, gN, gT_d, gL_own, gL_d, gsC, gsN, oNone, oSome_eq, asI_i, iLst, iTpl, iRg1, iRg2, iEnm, iEnmT, iZp, iScr, eLc_eq, hasD, slotD_eq, slotK_d, slotK_own, ownD_eq, slotO_own, isOwn, scrD, putE, asDs, asD_d, asD_own, argR_d, argR_own, argR_gen, argR_scr, asL_own, asL_d, asT_d, asB_d, sub_i, iadd_i, mul_i, fdiv_i, mod_i, pow_i, lt_i, le_i, gt_i, ge_i, add_i, add_l, add_t, cat_i, cat_l, cat_t, neg_i, eqf_i, eqt_i, lenC_l, lenC_t, absC_i, intC_i, tupC_l, tupC_t, max2C_i, min2C_i, lenC_s, reprC_b, reprA_b, reprA_i, reprA_t, reprC_i, eqf_rb, eqt_rb, eqt_ri, slD_t, max3C_i, ixt0, ixt1, ixt2, ixt3, ixl0, ixl1, ixtl, ixll, truD, lenD, startC, endP, List.map_cons, List.map_nil, List.length_cons, List.length_nil, List.cons_append, List.nil_append, List.getElem?_cons_zero, List.getElem?_cons_succ, List.set_cons_zero, List.set_cons_succ, List.replicate_succ, List.replicate_zero, Nat.reduceSub, Nat.reduceAdd, Nat.reduceLT, Option.isSome_some, true_and, and_true, ne_eq, not_false_eq_true, reduceCtorEq, if_true, if_false, Bool.false_eq_true, decide_eq_true_eq, List.mem_cons, List.not_mem_nil, or_self, or_false, false_or]; exact hQ
abbrev Cis_tuple_of : Cn := fun rs g Q => ∃ x n, rs = [.d x, .d (.int n)] ∧ Nice x ∧ Q (.d (.bool (tupN n x))) g
def wis_tuple_of : WS :=
  (sRet (eAnd (eIsi "tuple" (eName 0)) (eScR 1 (eqD false) (eLenN 0))))
theorem lenis_tuple_of (rs : List Rv) (g : Option Nat) (Q : Rv → Option Nat → Prop) (h : Cis_tuple_of rs g Q) : rs.length = 2 := by
  obtain ⟨_, _, rfl, _⟩ := h
  rfl
theorem specis_tuple_of (rs : List Rv) (g : Option Nat) (Q : Rv → Option Nat → Prop) (h : Cis_tuple_of rs g Q) : wis_tuple_of (startC 2 rs g) (endP Q) fun _ _ => False := by
  obtain ⟨x, n, rfl, hx, hQ⟩ := h
  simp -dsimp only [wis_tuple_of, sSeq, sAsg, sRet, sIf, sExp, sFor_eq, sPar2, sPar3, sSetI_eq, sAug_eq, slotA_d, sSetG_eq, sRetG, sGL, sGP, sNil, sBrk, sCnt, sNo, eName_eq, slotE_d, slotE_gen, slotE_scr, slotE_own, eC, eOp, eUn, eSc, eScL, eScR, eCh, eAnd, eOr, eNot, eIf, eTup, eLst, eCB, eIx, eIxN, eSl, eSlN, eSlS, eAddN, eLenN, eApp, eExt, ePop, eCallP_eq, eCallG_eq, eIsi, eGL, eGS, eGC, eGP, aNil, aCons, wB_eq, wTru, wTruN, wAnd, wOr, wNot, wYes, gN, gT_d, gL_own, gL_d, gsC, gsN, oNone, oSome_eq, asI_i, iLst, iTpl, iRg1, iRg2, iEnm, iEnmT, iZp, iScr, eLc_eq, hasD, slotD_eq, slotK_d, slotK_own, ownD_eq, slotO_own, isOwn, scrD, putE, asDs, asD_d, asD_own, argR_d, argR_own, argR_gen, argR_scr, asL_own, asL_d, asT_d, asB_d, sub_i, iadd_i, mul_i, fdiv_i, mod_i, pow_i, lt_i, le_i, gt_i, ge_i, add_i, add_l, add_t, cat_i, cat_l, cat_t, neg_i, eqf_i, eqt_i, lenC_l, lenC_t, absC_i, intC_i, tupC_l, tupC_t, max2C_i, min2C_i, lenC_s, reprC_b, reprA_b, reprA_i, reprA_t, reprC_i, eqf_rb, eqt_rb, eqt_ri, slD_t, max3C_i, ixt0, ixt1, ixt2, ixt3, ixl0, ixl1, ixtl, ixll, truD, lenD, startC, endP, List.map_cons, List.map_nil, List.length_cons, List.length_nil, List.cons_append, List.nil_append, List.getElem?_cons_zero, List.getElem?_cons_succ, List.set_cons_zero, List.set_cons_succ, List.replicate_succ, List.replicate_zero, Nat.reduceSub, Nat.reduceAdd, Nat.reduceLT, Option.isSome_some, true_and, and_true, ne_eq, not_false_eq_true, reduceCtorEq, if_true, if_false, Bool.false_eq_true, decide_eq_true_eq, List.mem_cons, List.not_mem_nil, or_self, or_false, false_or]
  refine ⟨(isi_int hx).2.2, ?_⟩
  cases hx with
  | tup h =>
    simp -dsimp only [show ∀ xs : List Px, isiD "tuple" (PyData.tuple xs) = true from fun _ => rfl, tupN, sSeq, sAsg, sRet, sIf, sExp, sFor_eq, sPar2, sPar3, sSetI_eq, sAug_eq, slotA_d, sSetG_eq, sRetG, sGL, sGP, sNil, sBrk, sCnt, sNo, eName_eq, slotE_d, slotE_gen, slotE_scr, slotE_own, eC, eOp, eUn, eSc, eScL, eScR, eCh, eAnd, eOr, eNot, eIf, eTup, eLst, eCB, eIx, eIxN, eSl, eSlN, eSlS, eAddN, eLenN, eApp, eExt, ePop, eCallP_eq, eCallG_eq, eIsi, eGL, eGS, eGC, eGP, aNil, aCons, wB_eq, wTru, wTruN, wAnd, wOr, wNot, wYes, gN, gT_d, gL_own, gL_d, gsC, gsN, oNone, oSome_eq, asI_i, iLst, iTpl, iRg1, iRg2, iEnm, iEnmT, iZp, iScr, eLc_eq, hasD, slotD_eq, slotK_d, slotK_own, ownD_eq, slotO_own, isOwn, scrD, putE, asDs, asD_d, asD_own, argR_d, argR_own, argR_gen, argR_scr, asL_own, asL_d, asT_d, asB_d, sub_i, iadd_i, mul_i, fdiv_i, mod_i, pow_i, lt_i, le_i, gt_i, ge_i, add_i, add_l, add_t, cat_i, cat_l, cat_t, neg_i, eqf_i, eqt_i, lenC_l, lenC_t, absC_i, intC_i, tupC_l, tupC_t, max2C_i, min2C_i, lenC_s, reprC_b, reprA_b, reprA_i, reprA_t, reprC_i, eqf_rb, eqt_rb, eqt_ri, slD_t, max3C_i, ixt0, ixt1, ixt2, ixt3, ixl0, ixl1, ixtl, ixll, truD, lenD, startC, endP, List.map_cons, List.map_nil, List.length_cons, List.length_nil, List.cons_append, List.nil_append, List.getElem?_cons_zero, List.getElem?_cons_succ, List.set_cons_zero, List.set_cons_succ, List.replicate_succ, List.replicate_zero, Nat.reduceSub, Nat.reduceAdd, Nat.reduceLT, Option.isSome_some, true_and, and_true, ne_eq, not_false_eq_true, reduceCtorEq, if_true, if_false, Bool.false_eq_true, decide_eq_true_eq, List.mem_cons, List.not_mem_nil, or_self, or_false, false_or] at hQ ⊢
    exact hQ
  | non => exact hQ
  | bl b => exact hQ
  | str s => exact hQ
  | int h => exact hQ
abbrev Cis_tuple_up_to : Cn := fun rs g Q => ∃ x n, rs = [.d x, .d (.int n)] ∧ Nice x ∧ Q (.d (.bool (tupU n x))) g
def wis_tuple_up_to : WS :=
  (sRet (eAnd (eIsi "tuple" (eName 0)) (eScR 1 leD (eLenN 0))))
theorem lenis_tuple_up_to (rs : List Rv) (g : Option Nat) (Q : Rv → Option Nat → Prop) (h : Cis_tuple_up_to rs g Q) : rs.length = 2 := by
  obtain ⟨_, _, rfl, _⟩ := h
  rfl
theorem specis_tuple_up_to (rs : List Rv) (g : Option Nat) (Q : Rv → Option Nat → Prop) (h : Cis_tuple_up_to rs g Q) : wis_tuple_up_to (startC 2 rs g) (endP Q) fun _ _ => False := by
  obtain ⟨x, n, rfl, hx, hQ⟩ := h
  simp -dsimp only [wis_tuple_up_to, sSeq, sAsg, sRet, sIf, sExp, sFor_eq, sPar2, sPar3, sSetI_eq, sAug_eq, slotA_d, sSetG_eq, sRetG, sGL, sGP, sNil, sBrk, sCnt, sNo, eName_eq, slotE_d, slotE_gen, slotE_scr, slotE_own, eC, eOp, eUn, eSc, eScL, eScR, eCh, eAnd, eOr, eNot, eIf, eTup, eLst, eCB, eIx, eIxN, eSl, eSlN, eSlS, eAddN, eLenN, eApp, eExt, ePop, eCallP_eq, eCallG_eq, eIsi, eGL, eGS, eGC, eGP, aNil, aCons, wB_eq, wTru, wTruN, wAnd, wOr, wNot, wYes, gN, gT_d, gL_own, gL_d, gsC, gsN, oNone, oSome_eq, asI_i, iLst, iTpl, iRg1, iRg2, iEnm, iEnmT, iZp, iScr, eLc_eq, hasD, slotD_eq, slotK_d, slotK_own, ownD_eq, slotO_own, isOwn, scrD, putE, asDs, asD_d, asD_own, argR_d, argR_own, argR_gen, argR_scr, asL_own, asL_d, asT_d, asB_d, sub_i, iadd_i, mul_i, fdiv_i, mod_i, pow_i, lt_i, le_i, gt_i, ge_i, add_i, add_l, add_t, cat_i, cat_l, cat_t, neg_i, eqf_i, eqt_i, lenC_l, lenC_t, absC_i, intC_i, tupC_l, tupC_t, max2C_i, min2C_i, lenC_s, reprC_b, reprA_b, reprA_i, reprA_t, reprC_i, eqf_rb, eqt_rb, eqt_ri, slD_t, max3C_i, ixt0, ixt1, ixt2, ixt3, ixl0, ixl1, ixtl, ixll, truD, lenD, startC, endP, List.map_cons, List.map_nil, List.length_cons, List.length_nil, List.cons_append, List.nil_append, List.getElem?_cons_zero, List.getElem?_cons_succ, List.set_cons_zero, List.set_cons_succ, List.replicate_succ, List.replicate_zero, Nat.reduceSub, Nat.reduceAdd, Nat.reduceLT, Option.isSome_some, true_and, and_true, ne_eq, not_false_eq_true, reduceCtorEq, if_true, if_false, Bool.false_eq_true, decide_eq_true_eq, List.mem_cons, List.not_mem_nil, or_self, or_false, false_or]
  refine ⟨(isi_int hx).2.2, ?_⟩
  cases hx with
  | tup h =>
    simp -dsimp only [show ∀ xs : List Px, isiD "tuple" (PyData.tuple xs) = true from fun _ => rfl, tupU, sSeq, sAsg, sRet, sIf, sExp, sFor_eq, sPar2, sPar3, sSetI_eq, sAug_eq, slotA_d, sSetG_eq, sRetG, sGL, sGP, sNil, sBrk, sCnt, sNo, eName_eq, slotE_d, slotE_gen, slotE_scr, slotE_own, eC, eOp, eUn, eSc, eScL, eScR, eCh, eAnd, eOr, eNot, eIf, eTup, eLst, eCB, eIx, eIxN, eSl, eSlN, eSlS, eAddN, eLenN, eApp, eExt, ePop, eCallP_eq, eCallG_eq, eIsi, eGL, eGS, eGC, eGP, aNil, aCons, wB_eq, wTru, wTruN, wAnd, wOr, wNot, wYes, gN, gT_d, gL_own, gL_d, gsC, gsN, oNone, oSome_eq, asI_i, iLst, iTpl, iRg1, iRg2, iEnm, iEnmT, iZp, iScr, eLc_eq, hasD, slotD_eq, slotK_d, slotK_own, ownD_eq, slotO_own, isOwn, scrD, putE, asDs, asD_d, asD_own, argR_d, argR_own, argR_gen, argR_scr, asL_own, asL_d, asT_d, asB_d, sub_i, iadd_i, mul_i, fdiv_i, mod_i, pow_i, lt_i, le_i, gt_i, ge_i, add_i, add_l, add_t, cat_i, cat_l, cat_t, neg_i, eqf_i, eqt_i, lenC_l, lenC_t, absC_i, intC_i, tupC_l, tupC_t, max2C_i, min2C_i, lenC_s, reprC_b, reprA_b, reprA_i, reprA_t, reprC_i, eqf_rb, eqt_rb, eqt_ri, slD_t, max3C_i, ixt0, ixt1, ixt2, ixt3, ixl0, ixl1, ixtl, ixll, truD, lenD, startC, endP, List.map_cons, List.map_nil, List.length_cons, List.length_nil, List.cons_append, List.nil_append, List.getElem?_cons_zero, List.getElem?_cons_succ, List.set_cons_zero, List.set_cons_succ, List.replicate_succ, List.replicate_zero, Nat.reduceSub, Nat.reduceAdd, Nat.reduceLT, Option.isSome_some, true_and, and_true, ne_eq, not_false_eq_true, reduceCtorEq, if_true, if_false, Bool.false_eq_true, decide_eq_true_eq, List.mem_cons, List.not_mem_nil, or_self, or_false, false_or] at hQ ⊢
    exact hQ
  | non => exact hQ
  | bl b => exact hQ
  | str s => exact hQ
  | int h => exact hQ
abbrev C_law_is_whole : Cn := fun rs g Q => ∃ x, rs = [.d x] ∧ Nice x ∧ Q (.d (.bool (isInt x))) g
def w_law_is_whole : WS :=
  (sRet (eAnd (eIsi "int" (eName 0)) (eNot (eIsi "bool" (eName 0)))))
theorem len_law_is_whole (rs : List Rv) (g : Option Nat) (Q : Rv → Option Nat → Prop) (h : C_law_is_whole rs g Q) : rs.length = 1 := by
  obtain ⟨k, rfl, _⟩ := h
  rfl
theorem spec_law_is_whole (rs : List Rv) (g : Option Nat) (Q : Rv → Option Nat → Prop) (h : C_law_is_whole rs g Q) : w_law_is_whole (startC 1 rs g) (endP Q) fun _ _ => False := specis_integer rs g Q h
end K

set_option Elab.async false
set_option maxRecDepth 100000
set_option linter.all false
set_option autoImplicit false
set_option maxHeartbeats 4000000
namespace K
open PySem L2 Dl
/-! ### judging ties and webs -/
def endB : Px → Bool
  | .int i => (decide (-1000 ≤ i) && decide (i ≤ 1000)) && !(i == 0)
  | _ => false
def tieB (n : Int) : Px → Bool
  | .tuple [v, w, p, q] => (inR 0 (n - 1) v && inR 0 (n - 1) w) && (endB p && endB q)
  | _ => false
def webB : Px → Bool
  | .tuple [.int n, .tuple ts] => inR 1 5 (.int n) && (decide ((ts.length : Int) ≤ 7) && ts.all (tieB n))
  | _ => false
abbrev Care_rooms : Cn := fun rs g Q => ∃ n v w, rs = [.d (.int n), .d v, .d w] ∧ (Nice v ∧ Nice w) ∧ Q (.d (.bool (inR 0 (n - 1) v && inR 0 (n - 1) w))) g
def ware_rooms : WS :=
  (sRet (eAnd (eCallP Cis_integer_from (aCons (eName 1) (aCons (eC (.int 0)) (aCons (eOp subD (eName 0) (eC (.int 1))) aNil)))) (eCallP Cis_integer_from (aCons (eName 2) (aCons (eC (.int 0)) (aCons (eOp subD (eName 0) (eC (.int 1))) aNil))))))
theorem lenare_rooms (rs : List Rv) (g : Option Nat) (Q : Rv → Option Nat → Prop) (h : Care_rooms rs g Q) : rs.length = 3 := by
  obtain ⟨_, _, _, rfl, _⟩ := h
  rfl
theorem specare_rooms (rs : List Rv) (g : Option Nat) (Q : Rv → Option Nat → Prop) (h : Care_rooms rs g Q) : ware_rooms (startC 3 rs g) (endP Q) fun _ _ => False := by
  obtain ⟨n, v, w, rfl, ⟨hv, hw⟩, hQ⟩ := h
  simp -dsimp only [ware_rooms, sSeq, sAsg, sRet, sIf, sExp, sFor_eq, sPar2, sPar3, sSetI_eq, sAug_eq, slotA_d, sSetG_eq, sRetG, sGL, sGP, sNil, sBrk, sCnt, sNo, eName_eq, slotE_d, slotE_gen, slotE_scr, slotE_own, eC, eOp, eUn, eSc, eScL, eScR, eCh, eAnd, eOr, eNot, eIf, eTup, eLst, eCB, eIx, eIxN, eSl, eSlN, eSlS, eAddN, eLenN, eApp, eExt, ePop, eCallP_eq, eCallG_eq, eIsi, eGL, eGS, eGC, eGP, aNil, aCons, wB_eq, wTru, wTruN, wAnd, wOr, wNot, wYes, gN, gT_d, gL_own, gL_d, gsC, gsN, oNone, oSome_eq, asI_i, iLst, iTpl, iRg1, iRg2, iEnm, iEnmT, iZp, iScr, eLc_eq, hasD, slotD_eq, slotK_d, slotK_own, ownD_eq, slotO_own, isOwn, scrD, putE, asDs, asD_d, asD_own, argR_d, argR_own, argR_gen, argR_scr, asL_own, asL_d, asT_d, asB_d, sub_i, iadd_i, mul_i, fdiv_i, mod_i, pow_i, lt_i, le_i, gt_i, ge_i, add_i, add_l, add_t, cat_i, cat_l, cat_t, neg_i, eqf_i, eqt_i, lenC_l, lenC_t, absC_i, intC_i, tupC_l, tupC_t, max2C_i, min2C_i, lenC_s, reprC_b, reprA_b, reprA_i, reprA_t, reprC_i, eqf_rb, eqt_rb, eqt_ri, slD_t, max3C_i, ixt0, ixt1, ixt2, ixt3, ixl0, ixl1, ixtl, ixll, truD, lenD, startC, endP, List.map_cons, List.map_nil, List.length_cons, List.length_nil, List.cons_append, List.nil_append, List.getElem?_cons_zero, List.getElem?_cons_succ, List.set_cons_zero, List.set_cons_succ, List.replicate_succ, List.replicate_zero, Nat.reduceSub, Nat.reduceAdd, Nat.reduceLT, Option.isSome_some, true_and, and_true, ne_eq, not_false_eq_true, reduceCtorEq, if_true, if_false, Bool.false_eq_true, decide_eq_true_eq, List.mem_cons, List.not_mem_nil, or_self, or_false, false_or]
  refine ⟨v, 0, n - 1, rfl, hv, ?_⟩
  try simp -dsimp only [sSeq, sAsg, sRet, sIf, sExp, sFor_eq, sPar2, sPar3, sSetI_eq, sAug_eq, slotA_d, sSetG_eq, sRetG, sGL, sGP, sNil, sBrk, sCnt, sNo, eName_eq, slotE_d, slotE_gen, slotE_scr, slotE_own, eC, eOp, eUn, eSc, eScL, eScR, eCh, eAnd, eOr, eNot, eIf, eTup, eLst, eCB, eIx, eIxN, eSl, eSlN, eSlS, eAddN, eLenN, eApp, eExt, ePop, eCallP_eq, eCallG_eq, eIsi, eGL, eGS, eGC, eGP, aNil, aCons, wB_eq, wTru, wTruN, wAnd, wOr, wNot, wYes, gN, gT_d, gL_own, gL_d, gsC, gsN, oNone, oSome_eq, asI_i, iLst, iTpl, iRg1, iRg2, iEnm, iEnmT, iZp, iScr, eLc_eq, hasD, slotD_eq, slotK_d, slotK_own, ownD_eq, slotO_own, isOwn, scrD, putE, asDs, asD_d, asD_own, argR_d, argR_own, argR_gen, argR_scr, asL_own, asL_d, asT_d, asB_d, sub_i, iadd_i, mul_i, fdiv_i, mod_i, pow_i, lt_i, le_i, gt_i, ge_i, add_i, add_l, add_t, cat_i, cat_l, cat_t, neg_i, eqf_i, eqt_i, lenC_l, lenC_t, absC_i, intC_i, tupC_l, tupC_t, max2C_i, min2C_i, lenC_s, reprC_b, reprA_b, reprA_i, reprA_t, reprC_i, eqf_rb, eqt_rb, eqt_ri, slD_t, max3C_i, ixt0, ixt1, ixt2, ixt3, ixl0, ixl1, ixtl, ixll, truD, lenD, startC, endP, List.map_cons, List.map_nil, List.length_cons, List.length_nil, List.cons_append, List.nil_append, List.getElem?_cons_zero, List.getElem?_cons_succ, List.set_cons_zero, List.set_cons_succ, List.replicate_succ, List.replicate_zero, Nat.reduceSub, Nat.reduceAdd, Nat.reduceLT, Option.isSome_some, true_and, and_true, ne_eq, not_false_eq_true, reduceCtorEq, if_true, if_false, Bool.false_eq_true, decide_eq_true_eq, List.mem_cons, List.not_mem_nil, or_self, or_false, false_or]
  cases h1 : inR 0 (n - 1) v
  · rw [h1] at hQ
    exact hQ
  · rw [h1, Bool.true_and] at hQ
    try simp -dsimp only [sSeq, sAsg, sRet, sIf, sExp, sFor_eq, sPar2, sPar3, sSetI_eq, sAug_eq, slotA_d, sSetG_eq, sRetG, sGL, sGP, sNil, sBrk, sCnt, sNo, eName_eq, slotE_d, slotE_gen, slotE_scr, slotE_own, eC, eOp, eUn, eSc, eScL, eScR, eCh, eAnd, eOr, eNot, eIf, eTup, eLst, eCB, eIx, eIxN, eSl, eSlN, eSlS, eAddN, eLenN, eApp, eExt, ePop, eCallP_eq, eCallG_eq, eIsi, eGL, eGS, eGC, eGP, aNil, aCons, wB_eq, wTru, wTruN, wAnd, wOr, wNot, wYes, gN, gT_d, gL_own, gL_d, gsC, gsN, oNone, oSome_eq, asI_i, iLst, iTpl, iRg1, iRg2, iEnm, iEnmT, iZp, iScr, eLc_eq, hasD, slotD_eq, slotK_d, slotK_own, ownD_eq, slotO_own, isOwn, scrD, putE, asDs, asD_d, asD_own, argR_d, argR_own, argR_gen, argR_scr, asL_own, asL_d, asT_d, asB_d, sub_i, iadd_i, mul_i, fdiv_i, mod_i, pow_i, lt_i, le_i, gt_i, ge_i, add_i, add_l, add_t, cat_i, cat_l, cat_t, neg_i, eqf_i, eqt_i, lenC_l, lenC_t, absC_i, intC_i, tupC_l, tupC_t, max2C_i, min2C_i, lenC_s, reprC_b, reprA_b, reprA_i, reprA_t, reprC_i, eqf_rb, eqt_rb, eqt_ri, slD_t, max3C_i, ixt0, ixt1, ixt2, ixt3, ixl0, ixl1, ixtl, ixll, truD, lenD, startC, endP, List.map_cons, List.map_nil, List.length_cons, List.length_nil, List.cons_append, List.nil_append, List.getElem?_cons_zero, List.getElem?_cons_succ, List.set_cons_zero, List.set_cons_succ, List.replicate_succ, List.replicate_zero, Nat.reduceSub, Nat.reduceAdd, Nat.reduceLT, Option.isSome_some, true_and, and_true, ne_eq, not_false_eq_true, reduceCtorEq, if_true, if_false, Bool.false_eq_true, decide_eq_true_eq, List.mem_cons, List.not_mem_nil, or_self, or_false, false_or]
    refine ⟨w, 0, n - 1, rfl, hw, ?_⟩
    try simp -dsimp only [sSeq, sAsg, sRet, sIf, sExp, sFor_eq, sPar2, sPar3, sSetI_eq, sAug_eq, slotA_d, sSetG_eq, sRetG, sGL, sGP, sNil, sBrk, sCnt, sNo, eName_eq, slotE_d, slotE_gen, slotE_scr, slotE_own, eC, eOp, eUn, eSc, eScL, eScR, eCh, eAnd, eOr, eNot, eIf, eTup, eLst, eCB, eIx, eIxN, eSl, eSlN, eSlS, eAddN, eLenN, eApp, eExt, ePop, eCallP_eq, eCallG_eq, eIsi, eGL, eGS, eGC, eGP, aNil, aCons, wB_eq, wTru, wTruN, wAnd, wOr, wNot, wYes, gN, gT_d, gL_own, gL_d, gsC, gsN, oNone, oSome_eq, asI_i, iLst, iTpl, iRg1, iRg2, iEnm, iEnmT, iZp, iScr, eLc_eq, hasD, slotD_eq, slotK_d, slotK_own, ownD_eq, slotO_own, isOwn, scrD, putE, asDs, asD_d, asD_own, argR_d, argR_own, argR_gen, argR_scr, asL_own, asL_d, asT_d, asB_d, sub_i, iadd_i, mul_i, fdiv_i, mod_i, pow_i, lt_i, le_i, gt_i, ge_i, add_i, add_l, add_t, cat_i, cat_l, cat_t, neg_i, eqf_i, eqt_i, lenC_l, lenC_t, absC_i, intC_i, tupC_l, tupC_t, max2C_i, min2C_i, lenC_s, reprC_b, reprA_b, reprA_i, reprA_t, reprC_i, eqf_rb, eqt_rb, eqt_ri, slD_t, max3C_i, ixt0, ixt1, ixt2, ixt3, ixl0, ixl1, ixtl, ixll, truD, lenD, startC, endP, List.map_cons, List.map_nil, List.length_cons, List.length_nil, List.cons_append, List.nil_append, List.getElem?_cons_zero, List.getElem?_cons_succ, List.set_cons_zero, List.set_cons_succ, List.replicate_succ, List.replicate_zero, Nat.reduceSub, Nat.reduceAdd, Nat.reduceLT, Option.isSome_some, true_and, and_true, ne_eq, not_false_eq_true, reduceCtorEq, if_true, if_false, Bool.false_eq_true, decide_eq_true_eq, List.mem_cons, List.not_mem_nil, or_self, or_false, false_or]
    exact hQ
abbrev Cis_end : Cn := fun rs g Q => ∃ x, rs = [.d x] ∧ Nice x ∧ Q (.d (.bool (endB x))) g
def wis_end : WS :=
  (sRet (eAnd (eCallP Cis_integer_from (aCons (eName 0) (aCons (eUn negD (eC (.int 1000))) (aCons (eC (.int 1000)) aNil)))) (eScL 0 (eqD true) (eC (.int 0)))))
theorem lenis_end (rs : List Rv) (g : Option Nat) (Q : Rv → Option Nat → Prop) (h : Cis_end rs g Q) : rs.length = 1 := by
  obtain ⟨_, rfl, _⟩ := h
  rfl
theorem specis_end (rs : List Rv) (g : Option Nat) (Q : Rv → Option Nat → Prop) (h : Cis_end rs g Q) : wis_end (startC 1 rs g) (endP Q) fun _ _ => False := by
  obtain ⟨x, rfl, hx, hQ⟩ := h
  simp -dsimp only [wis_end, sSeq, sAsg, sRet, sIf, sExp, sFor_eq, sPar2, sPar3, sSetI_eq, sAug_eq, slotA_d, sSetG_eq, sRetG, sGL, sGP, sNil, sBrk, sCnt, sNo, eName_eq, slotE_d, slotE_gen, slotE_scr, slotE_own, eC, eOp, eUn, eSc, eScL, eScR, eCh, eAnd, eOr, eNot, eIf, eTup, eLst, eCB, eIx, eIxN, eSl, eSlN, eSlS, eAddN, eLenN, eApp, eExt, ePop, eCallP_eq, eCallG_eq, eIsi, eGL, eGS, eGC, eGP, aNil, aCons, wB_eq, wTru, wTruN, wAnd, wOr, wNot, wYes, gN, gT_d, gL_own, gL_d, gsC, gsN, oNone, oSome_eq, asI_i, iLst, iTpl, iRg1, iRg2, iEnm, iEnmT, iZp, iScr, eLc_eq, hasD, slotD_eq, slotK_d, slotK_own, ownD_eq, slotO_own, isOwn, scrD, putE, asDs, asD_d, asD_own, argR_d, argR_own, argR_gen, argR_scr, asL_own, asL_d, asT_d, asB_d, sub_i, iadd_i, mul_i, fdiv_i, mod_i, pow_i, lt_i, le_i, gt_i, ge_i, add_i, add_l, add_t, cat_i, cat_l, cat_t, neg_i, eqf_i, eqt_i, lenC_l, lenC_t, absC_i, intC_i, tupC_l, tupC_t, max2C_i, min2C_i, lenC_s, reprC_b, reprA_b, reprA_i, reprA_t, reprC_i, eqf_rb, eqt_rb, eqt_ri, slD_t, max3C_i, ixt0, ixt1, ixt2, ixt3, ixl0, ixl1, ixtl, ixll, truD, lenD, startC, endP, List.map_cons, List.map_nil, List.length_cons, List.length_nil, List.cons_append, List.nil_append, List.getElem?_cons_zero, List.getElem?_cons_succ, List.set_cons_zero, List.set_cons_succ, List.replicate_succ, List.replicate_zero, Nat.reduceSub, Nat.reduceAdd, Nat.reduceLT, Option.isSome_some, true_and, and_true, ne_eq, not_false_eq_true, reduceCtorEq, if_true, if_false, Bool.false_eq_true, decide_eq_true_eq, List.mem_cons, List.not_mem_nil, or_self, or_false, false_or]
  refine ⟨x, -1000, 1000, rfl, hx, ?_⟩
  try simp -dsimp only [sSeq, sAsg, sRet, sIf, sExp, sFor_eq, sPar2, sPar3, sSetI_eq, sAug_eq, slotA_d, sSetG_eq, sRetG, sGL, sGP, sNil, sBrk, sCnt, sNo, eName_eq, slotE_d, slotE_gen, slotE_scr, slotE_own, eC, eOp, eUn, eSc, eScL, eScR, eCh, eAnd, eOr, eNot, eIf, eTup, eLst, eCB, eIx, eIxN, eSl, eSlN, eSlS, eAddN, eLenN, eApp, eExt, ePop, eCallP_eq, eCallG_eq, eIsi, eGL, eGS, eGC, eGP, aNil, aCons, wB_eq, wTru, wTruN, wAnd, wOr, wNot, wYes, gN, gT_d, gL_own, gL_d, gsC, gsN, oNone, oSome_eq, asI_i, iLst, iTpl, iRg1, iRg2, iEnm, iEnmT, iZp, iScr, eLc_eq, hasD, slotD_eq, slotK_d, slotK_own, ownD_eq, slotO_own, isOwn, scrD, putE, asDs, asD_d, asD_own, argR_d, argR_own, argR_gen, argR_scr, asL_own, asL_d, asT_d, asB_d, sub_i, iadd_i, mul_i, fdiv_i, mod_i, pow_i, lt_i, le_i, gt_i, ge_i, add_i, add_l, add_t, cat_i, cat_l, cat_t, neg_i, eqf_i, eqt_i, lenC_l, lenC_t, absC_i, intC_i, tupC_l, tupC_t, max2C_i, min2C_i, lenC_s, reprC_b, reprA_b, reprA_i, reprA_t, reprC_i, eqf_rb, eqt_rb, eqt_ri, slD_t, max3C_i, ixt0, ixt1, ixt2, ixt3, ixl0, ixl1, ixtl, ixll, truD, lenD, startC, endP, List.map_cons, List.map_nil, List.length_cons, List.length_nil, List.cons_append, List.nil_append, List.getElem?_cons_zero, List.getElem?_cons_succ, List.set_cons_zero, List.set_cons_succ, List.replicate_succ, List.replicate_zero, Nat.reduceSub, Nat.reduceAdd, Nat.reduceLT, Option.isSome_some, true_and, and_true, ne_eq, not_false_eq_true, reduceCtorEq, if_true, if_false, Bool.false_eq_true, decide_eq_true_eq, List.mem_cons, List.not_mem_nil, or_self, or_false, false_or]
  cases hx with
  | non => exact hQ
  | bl b => exact hQ
  | str s => exact hQ
  | tup h => exact hQ
  | int i =>
    have e : endB (.int i) = (inR (-1000) 1000 (.int i) && !(i == 0)) := rfl
    rw [e] at hQ
    cases h1 : inR (-1000) 1000 (.int i)
    · rw [h1] at hQ
      exact hQ
    · rw [h1, Bool.true_and] at hQ
      try simp -dsimp only [sSeq, sAsg, sRet, sIf, sExp, sFor_eq, sPar2, sPar3, sSetI_eq, sAug_eq, slotA_d, sSetG_eq, sRetG, sGL, sGP, sNil, sBrk, sCnt, sNo, eName_eq, slotE_d, slotE_gen, slotE_scr, slotE_own, eC, eOp, eUn, eSc, eScL, eScR, eCh, eAnd, eOr, eNot, eIf, eTup, eLst, eCB, eIx, eIxN, eSl, eSlN, eSlS, eAddN, eLenN, eApp, eExt, ePop, eCallP_eq, eCallG_eq, eIsi, eGL, eGS, eGC, eGP, aNil, aCons, wB_eq, wTru, wTruN, wAnd, wOr, wNot, wYes, gN, gT_d, gL_own, gL_d, gsC, gsN, oNone, oSome_eq, asI_i, iLst, iTpl, iRg1, iRg2, iEnm, iEnmT, iZp, iScr, eLc_eq, hasD, slotD_eq, slotK_d, slotK_own, ownD_eq, slotO_own, isOwn, scrD, putE, asDs, asD_d, asD_own, argR_d, argR_own, argR_gen, argR_scr, asL_own, asL_d, asT_d, asB_d, sub_i, iadd_i, mul_i, fdiv_i, mod_i, pow_i, lt_i, le_i, gt_i, ge_i, add_i, add_l, add_t, cat_i, cat_l, cat_t, neg_i, eqf_i, eqt_i, lenC_l, lenC_t, absC_i, intC_i, tupC_l, tupC_t, max2C_i, min2C_i, lenC_s, reprC_b, reprA_b, reprA_i, reprA_t, reprC_i, eqf_rb, eqt_rb, eqt_ri, slD_t, max3C_i, ixt0, ixt1, ixt2, ixt3, ixl0, ixl1, ixtl, ixll, truD, lenD, startC, endP, List.map_cons, List.map_nil, List.length_cons, List.length_nil, List.cons_append, List.nil_append, List.getElem?_cons_zero, List.getElem?_cons_succ, List.set_cons_zero, List.set_cons_succ, List.replicate_succ, List.replicate_zero, Nat.reduceSub, Nat.reduceAdd, Nat.reduceLT, Option.isSome_some, true_and, and_true, ne_eq, not_false_eq_true, reduceCtorEq, if_true, if_false, Bool.false_eq_true, decide_eq_true_eq, List.mem_cons, List.not_mem_nil, or_self, or_false, false_or]
      exact hQ
theorem tup4 {x : Px} (hx : Nice x) (h : tupN 4 x = true) : ∃ a b c d, x = .tuple [a, b, c, d] ∧ Nice a ∧ Nice b ∧ Nice c ∧ Nice d := by
  cases hx with
  | tup hs =>
    rename_i xs
    match xs, hs, h with
    | [a, b, c, d], hs, _ => exact ⟨a, b, c, d, rfl, hs a (by simp), hs b (by simp), hs c (by simp), hs d (by simp)⟩
    | [], _, h => simp [tupN] at h
    | [a], _, h => simp [tupN] at h
    | [a, b], _, h => simp [tupN] at h
    | [a, b, c], _, h => simp [tupN] at h
    | a :: b :: c :: d :: e :: l, _, h =>
      simp only [tupN, List.length_cons, beq_iff_eq] at h
      omega
  | _ => cases h
theorem tieB_not {n : Int} {x : Px} (h : tupN 4 x = false) : tieB n x = false := by
  unfold tieB
  split
  · simp [tupN] at h
  · rfl
abbrev Cis_tie : Cn := fun rs g Q => ∃ n x, rs = [.d (.int n), .d x] ∧ Nice x ∧ Q (.d (.bool (tieB n x))) g
def wis_tie : WS :=
  (sSeq (sIf (wNot (wTru (eCallP Cis_tuple_of (aCons (eName 1) (aCons (eC (.int 4)) aNil))))) (sRet (eC (.bool false))) sNil)
  (sSeq (sAsg (eName 1) (gT 4 (gsCons (gN 2) (gsCons (gN 3) (gsCons (gN 4) (gsCons (gN 5) gsNil))))))
  (sRet (eAnd (eCallP Care_rooms (aCons (eName 0) (aCons (eName 2) (aCons (eName 3) aNil)))) (eAnd (eCallP Cis_end (aCons (eName 4) aNil)) (eCallP Cis_end (aCons (eName 5) aNil)))))))
theorem lenis_tie (rs : List Rv) (g : Option Nat) (Q : Rv → Option Nat → Prop) (h : Cis_tie rs g Q) : rs.length = 2 := by
  obtain ⟨_, _, rfl, _⟩ := h
  rfl
theorem specis_tie (rs : List Rv) (g : Option Nat) (Q : Rv → Option Nat → Prop) (h : Cis_tie rs g Q) : wis_tie (startC 6 rs g) (endP Q) fun _ _ => False := by
  obtain ⟨n, x, rfl, hx, hQ⟩ := h
  simp -dsimp only [wis_tie, sSeq, sAsg, sRet, sIf, sExp, sFor_eq, sPar2, sPar3, sSetI_eq, sAug_eq, slotA_d, sSetG_eq, sRetG, sGL, sGP, sNil, sBrk, sCnt, sNo, eName_eq, slotE_d, slotE_gen, slotE_scr, slotE_own, eC, eOp, eUn, eSc, eScL, eScR, eCh, eAnd, eOr, eNot, eIf, eTup, eLst, eCB, eIx, eIxN, eSl, eSlN, eSlS, eAddN, eLenN, eApp, eExt, ePop, eCallP_eq, eCallG_eq, eIsi, eGL, eGS, eGC, eGP, aNil, aCons, wB_eq, wTru, wTruN, wAnd, wOr, wNot, wYes, gN, gT_d, gL_own, gL_d, gsC, gsN, oNone, oSome_eq, asI_i, iLst, iTpl, iRg1, iRg2, iEnm, iEnmT, iZp, iScr, eLc_eq, hasD, slotD_eq, slotK_d, slotK_own, ownD_eq, slotO_own, isOwn, scrD, putE, asDs, asD_d, asD_own, argR_d, argR_own, argR_gen, argR_scr, asL_own, asL_d, asT_d, asB_d, sub_i, iadd_i, mul_i, fdiv_i, mod_i, pow_i, lt_i, le_i, gt_i, ge_i, add_i, add_l, add_t, cat_i, cat_l, cat_t, neg_i, eqf_i, eqt_i, lenC_l, lenC_t, absC_i, intC_i, tupC_l, tupC_t, max2C_i, min2C_i, lenC_s, reprC_b, reprA_b, reprA_i, reprA_t, reprC_i, eqf_rb, eqt_rb, eqt_ri, slD_t, max3C_i, ixt0, ixt1, ixt2, ixt3, ixl0, ixl1, ixtl, ixll, truD, lenD, startC, endP, List.map_cons, List.map_nil, List.length_cons, List.length_nil, List.cons_append, List.nil_append, List.getElem?_cons_zero, List.getElem?_cons_succ, List.set_cons_zero, List.set_cons_succ, List.replicate_succ, List.replicate_zero, Nat.reduceSub, Nat.reduceAdd, Nat.reduceLT, Option.isSome_some, true_and, and_true, ne_eq, not_false_eq_true, reduceCtorEq, if_true, if_false, Bool.false_eq_true, decide_eq_true_eq, List.mem_cons, List.not_mem_nil, or_self, or_false, false_or]
  refine ⟨x, 4, rfl, hx, ?_⟩
  try simp -dsimp only [sSeq, sAsg, sRet, sIf, sExp, sFor_eq, sPar2, sPar3, sSetI_eq, sAug_eq, slotA_d, sSetG_eq, sRetG, sGL, sGP, sNil, sBrk, sCnt, sNo, eName_eq, slotE_d, slotE_gen, slotE_scr, slotE_own, eC, eOp, eUn, eSc, eScL, eScR, eCh, eAnd, eOr, eNot, eIf, eTup, eLst, eCB, eIx, eIxN, eSl, eSlN, eSlS, eAddN, eLenN, eApp, eExt, ePop, eCallP_eq, eCallG_eq, eIsi, eGL, eGS, eGC, eGP, aNil, aCons, wB_eq, wTru, wTruN, wAnd, wOr, wNot, wYes, gN, gT_d, gL_own, gL_d, gsC, gsN, oNone, oSome_eq, asI_i, iLst, iTpl, iRg1, iRg2, iEnm, iEnmT, iZp, iScr, eLc_eq, hasD, slotD_eq, slotK_d, slotK_own, ownD_eq, slotO_own, isOwn, scrD, putE, asDs, asD_d, asD_own, argR_d, argR_own, argR_gen, argR_scr, asL_own, asL_d, asT_d, asB_d, sub_i, iadd_i, mul_i, fdiv_i, mod_i, pow_i, lt_i, le_i, gt_i, ge_i, add_i, add_l, add_t, cat_i, cat_l, cat_t, neg_i, eqf_i, eqt_i, lenC_l, lenC_t, absC_i, intC_i, tupC_l, tupC_t, max2C_i, min2C_i, lenC_s, reprC_b, reprA_b, reprA_i, reprA_t, reprC_i, eqf_rb, eqt_rb, eqt_ri, slD_t, max3C_i, ixt0, ixt1, ixt2, ixt3, ixl0, ixl1, ixtl, ixll, truD, lenD, startC, endP, List.map_cons, List.map_nil, List.length_cons, List.length_nil, List.cons_append, List.nil_append, List.getElem?_cons_zero, List.getElem?_cons_succ, List.set_cons_zero, List.set_cons_succ, List.replicate_succ, List.replicate_zero, Nat.reduceSub, Nat.reduceAdd, Nat.reduceLT, Option.isSome_some, true_and, and_true, ne_eq, not_false_eq_true, reduceCtorEq, if_true, if_false, Bool.false_eq_true, decide_eq_true_eq, List.mem_cons, List.not_mem_nil, or_self, or_false, false_or]
  cases hb : tupN 4 x
  · rw [tieB_not hb] at hQ
    simpa using hQ
  · obtain ⟨v, w, p, q, rfl, hv, hw, hp, hq⟩ := tup4 hx hb
    simp -dsimp only [Bool.not_true, sSeq, sAsg, sRet, sIf, sExp, sFor_eq, sPar2, sPar3, sSetI_eq, sAug_eq, slotA_d, sSetG_eq, sRetG, sGL, sGP, sNil, sBrk, sCnt, sNo, eName_eq, slotE_d, slotE_gen, slotE_scr, slotE_own, eC, eOp, eUn, eSc, eScL, eScR, eCh, eAnd, eOr, eNot, eIf, eTup, eLst, eCB, eIx, eIxN, eSl, eSlN, eSlS, eAddN, eLenN, eApp, eExt, ePop, eCallP_eq, eCallG_eq, eIsi, eGL, eGS, eGC, eGP, aNil, aCons, wB_eq, wTru, wTruN, wAnd, wOr, wNot, wYes, gN, gT_d, gL_own, gL_d, gsC, gsN, oNone, oSome_eq, asI_i, iLst, iTpl, iRg1, iRg2, iEnm, iEnmT, iZp, iScr, eLc_eq, hasD, slotD_eq, slotK_d, slotK_own, ownD_eq, slotO_own, isOwn, scrD, putE, asDs, asD_d, asD_own, argR_d, argR_own, argR_gen, argR_scr, asL_own, asL_d, asT_d, asB_d, sub_i, iadd_i, mul_i, fdiv_i, mod_i, pow_i, lt_i, le_i, gt_i, ge_i, add_i, add_l, add_t, cat_i, cat_l, cat_t, neg_i, eqf_i, eqt_i, lenC_l, lenC_t, absC_i, intC_i, tupC_l, tupC_t, max2C_i, min2C_i, lenC_s, reprC_b, reprA_b, reprA_i, reprA_t, reprC_i, eqf_rb, eqt_rb, eqt_ri, slD_t, max3C_i, ixt0, ixt1, ixt2, ixt3, ixl0, ixl1, ixtl, ixll, truD, lenD, startC, endP, List.map_cons, List.map_nil, List.length_cons, List.length_nil, List.cons_append, List.nil_append, List.getElem?_cons_zero, List.getElem?_cons_succ, List.set_cons_zero, List.set_cons_succ, List.replicate_succ, List.replicate_zero, Nat.reduceSub, Nat.reduceAdd, Nat.reduceLT, Option.isSome_some, true_and, and_true, ne_eq, not_false_eq_true, reduceCtorEq, if_true, if_false, Bool.false_eq_true, decide_eq_true_eq, List.mem_cons, List.not_mem_nil, or_self, or_false, false_or]
    refine ⟨n, v, w, rfl, ⟨hv, hw⟩, ?_⟩
    simp only [tieB] at hQ
    try simp -dsimp only [sSeq, sAsg, sRet, sIf, sExp, sFor_eq, sPar2, sPar3, sSetI_eq, sAug_eq, slotA_d, sSetG_eq, sRetG, sGL, sGP, sNil, sBrk, sCnt, sNo, eName_eq, slotE_d, slotE_gen, slotE_scr, slotE_own, eC, eOp, eUn, eSc, eScL, eScR, eCh, eAnd, eOr, eNot, eIf, eTup, eLst, eCB, eIx, eIxN, eSl, eSlN, eSlS, eAddN, eLenN, eApp, eExt, ePop, eCallP_eq, eCallG_eq, eIsi, eGL, eGS, eGC, eGP, aNil, aCons, wB_eq, wTru, wTruN, wAnd, wOr, wNot, wYes, gN, gT_d, gL_own, gL_d, gsC, gsN, oNone, oSome_eq, asI_i, iLst, iTpl, iRg1, iRg2, iEnm, iEnmT, iZp, iScr, eLc_eq, hasD, slotD_eq, slotK_d, slotK_own, ownD_eq, slotO_own, isOwn, scrD, putE, asDs, asD_d, asD_own, argR_d, argR_own, argR_gen, argR_scr, asL_own, asL_d, asT_d, asB_d, sub_i, iadd_i, mul_i, fdiv_i, mod_i, pow_i, lt_i, le_i, gt_i, ge_i, add_i, add_l, add_t, cat_i, cat_l, cat_t, neg_i, eqf_i, eqt_i, lenC_l, lenC_t, absC_i, intC_i, tupC_l, tupC_t, max2C_i, min2C_i, lenC_s, reprC_b, reprA_b, reprA_i, reprA_t, reprC_i, eqf_rb, eqt_rb, eqt_ri, slD_t, max3C_i, ixt0, ixt1, ixt2, ixt3, ixl0, ixl1, ixtl, ixll, truD, lenD, startC, endP, List.map_cons, List.map_nil, List.length_cons, List.length_nil, List.cons_append, List.nil_append, List.getElem?_cons_zero, List.getElem?_cons_succ, List.set_cons_zero, List.set_cons_succ, List.replicate_succ, List.replicate_zero, Nat.reduceSub, Nat.reduceAdd, Nat.reduceLT, Option.isSome_some, true_and, and_true, ne_eq, not_false_eq_true, reduceCtorEq, if_true, if_false, Bool.false_eq_true, decide_eq_true_eq, List.mem_cons, List.not_mem_nil, or_self, or_false, false_or]
    cases h1 : inR 0 (n - 1) v && inR 0 (n - 1) w
    · rw [h1] at hQ
      exact hQ
    · rw [h1, Bool.true_and] at hQ
      try simp -dsimp only [sSeq, sAsg, sRet, sIf, sExp, sFor_eq, sPar2, sPar3, sSetI_eq, sAug_eq, slotA_d, sSetG_eq, sRetG, sGL, sGP, sNil, sBrk, sCnt, sNo, eName_eq, slotE_d, slotE_gen, slotE_scr, slotE_own, eC, eOp, eUn, eSc, eScL, eScR, eCh, eAnd, eOr, eNot, eIf, eTup, eLst, eCB, eIx, eIxN, eSl, eSlN, eSlS, eAddN, eLenN, eApp, eExt, ePop, eCallP_eq, eCallG_eq, eIsi, eGL, eGS, eGC, eGP, aNil, aCons, wB_eq, wTru, wTruN, wAnd, wOr, wNot, wYes, gN, gT_d, gL_own, gL_d, gsC, gsN, oNone, oSome_eq, asI_i, iLst, iTpl, iRg1, iRg2, iEnm, iEnmT, iZp, iScr, eLc_eq, hasD, slotD_eq, slotK_d, slotK_own, ownD_eq, slotO_own, isOwn, scrD, putE, asDs, asD_d, asD_own, argR_d, argR_own, argR_gen, argR_scr, asL_own, asL_d, asT_d, asB_d, sub_i, iadd_i, mul_i, fdiv_i, mod_i, pow_i, lt_i, le_i, gt_i, ge_i, add_i, add_l, add_t, cat_i, cat_l, cat_t, neg_i, eqf_i, eqt_i, lenC_l, lenC_t, absC_i, intC_i, tupC_l, tupC_t, max2C_i, min2C_i, lenC_s, reprC_b, reprA_b, reprA_i, reprA_t, reprC_i, eqf_rb, eqt_rb, eqt_ri, slD_t, max3C_i, ixt0, ixt1, ixt2, ixt3, ixl0, ixl1, ixtl, ixll, truD, lenD, startC, endP, List.map_cons, List.map_nil, List.length_cons, List.length_nil, List.cons_append, List.nil_append, List.getElem?_cons_zero, List.getElem?_cons_succ, List.set_cons_zero, List.set_cons_succ, List.replicate_succ, List.replicate_zero, Nat.reduceSub, Nat.reduceAdd, Nat.reduceLT, Option.isSome_some, true_and, and_true, ne_eq, not_false_eq_true, reduceCtorEq, if_true, if_false, Bool.false_eq_true, decide_eq_true_eq, List.mem_cons, List.not_mem_nil, or_self, or_false, false_or]
      refine ⟨p, rfl, hp, ?_⟩
      try simp -dsimp only [sSeq, sAsg, sRet, sIf, sExp, sFor_eq, sPar2, sPar3, sSetI_eq, sAug_eq, slotA_d, sSetG_eq, sRetG, sGL, sGP, sNil, sBrk, sCnt, sNo, eName_eq, slotE_d, slotE_gen, slotE_scr, slotE_own, eC, eOp, eUn, eSc, eScL, eScR, eCh, eAnd, eOr, eNot, eIf, eTup, eLst, eCB, eIx, eIxN, eSl, eSlN, eSlS, eAddN, eLenN, eApp, eExt, ePop, eCallP_eq, eCallG_eq, eIsi, eGL, eGS, eGC, eGP, aNil, aCons, wB_eq, wTru, wTruN, wAnd, wOr, wNot, wYes, gN, gT_d, gL_own, gL_d, gsC, gsN, oNone, oSome_eq, asI_i, iLst, iTpl, iRg1, iRg2, iEnm, iEnmT, iZp, iScr, eLc_eq, hasD, slotD_eq, slotK_d, slotK_own, ownD_eq, slotO_own, isOwn, scrD, putE, asDs, asD_d, asD_own, argR_d, argR_own, argR_gen, argR_scr, asL_own, asL_d, asT_d, asB_d, sub_i, iadd_i, mul_i, fdiv_i, mod_i, pow_i, lt_i, le_i, gt_i, ge_i, add_i, add_l, add_t, cat_i, cat_l, cat_t, neg_i, eqf_i, eqt_i, lenC_l, lenC_t, absC_i, intC_i, tupC_l, tupC_t, max2C_i, min2C_i, lenC_s, reprC_b, reprA_b, reprA_i, reprA_t, reprC_i, eqf_rb, eqt_rb, eqt_ri, slD_t, max3C_i, ixt0, ixt1, ixt2, ixt3, ixl0, ixl1, ixtl, ixll, truD, lenD, startC, endP, List.map_cons, List.map_nil, List.length_cons, List.length_nil, List.cons_append, List.nil_append, List.getElem?_cons_zero, List.getElem?_cons_succ, List.set_cons_zero, List.set_cons_succ, List.replicate_succ, List.replicate_zero, Nat.reduceSub, Nat.reduceAdd, Nat.reduceLT, Option.isSome_some, true_and, and_true, ne_eq, not_false_eq_true, reduceCtorEq, if_true, if_false, Bool.false_eq_true, decide_eq_true_eq, List.mem_cons, List.not_mem_nil, or_self, or_false, false_or]
      cases h2 : endB p
      · rw [h2] at hQ
        exact hQ
      · rw [h2, Bool.true_and] at hQ
        try simp -dsimp only [sSeq, sAsg, sRet, sIf, sExp, sFor_eq, sPar2, sPar3, sSetI_eq, sAug_eq, slotA_d, sSetG_eq, sRetG, sGL, sGP, sNil, sBrk, sCnt, sNo, eName_eq, slotE_d, slotE_gen, slotE_scr, slotE_own, eC, eOp, eUn, eSc, eScL, eScR, eCh, eAnd, eOr, eNot, eIf, eTup, eLst, eCB, eIx, eIxN, eSl, eSlN, eSlS, eAddN, eLenN, eApp, eExt, ePop, eCallP_eq, eCallG_eq, eIsi, eGL, eGS, eGC, eGP, aNil, aCons, wB_eq, wTru, wTruN, wAnd, wOr, wNot, wYes, gN, gT_d, gL_own, gL_d, gsC, gsN, oNone, oSome_eq, asI_i, iLst, iTpl, iRg1, iRg2, iEnm, iEnmT, iZp, iScr, eLc_eq, hasD, slotD_eq, slotK_d, slotK_own, ownD_eq, slotO_own, isOwn, scrD, putE, asDs, asD_d, asD_own, argR_d, argR_own, argR_gen, argR_scr, asL_own, asL_d, asT_d, asB_d, sub_i, iadd_i, mul_i, fdiv_i, mod_i, pow_i, lt_i, le_i, gt_i, ge_i, add_i, add_l, add_t, cat_i, cat_l, cat_t, neg_i, eqf_i, eqt_i, lenC_l, lenC_t, absC_i, intC_i, tupC_l, tupC_t, max2C_i, min2C_i, lenC_s, reprC_b, reprA_b, reprA_i, reprA_t, reprC_i, eqf_rb, eqt_rb, eqt_ri, slD_t, max3C_i, ixt0, ixt1, ixt2, ixt3, ixl0, ixl1, ixtl, ixll, truD, lenD, startC, endP, List.map_cons, List.map_nil, List.length_cons, List.length_nil, List.cons_append, List.nil_append, List.getElem?_cons_zero, List.getElem?_cons_succ, List.set_cons_zero, List.set_cons_succ, List.replicate_succ, List.replicate_zero, Nat.reduceSub, Nat.reduceAdd, Nat.reduceLT, Option.isSome_some, true_and, and_true, ne_eq, not_false_eq_true, reduceCtorEq, if_true, if_false, Bool.false_eq_true, decide_eq_true_eq, List.mem_cons, List.not_mem_nil, or_self, or_false, false_or]
        refine ⟨q, rfl, hq, ?_⟩
        try simp -dsimp only [sSeq, sAsg, sRet, sIf, sExp, sFor_eq, sPar2, sPar3, sSetI_eq, sAug_eq, slotA_d, sSetG_eq, sRetG, sGL, sGP, sNil, sBrk, sCnt, sNo, eName_eq, slotE_d, slotE_gen, slotE_scr, slotE_own, eC, eOp, eUn, eSc, eScL, eScR, eCh, eAnd, eOr, eNot, eIf, eTup, eLst, eCB, eIx, eIxN, eSl, eSlN, eSlS, eAddN, eLenN, eApp, eExt, ePop, eCallP_eq, eCallG_eq, eIsi, eGL, eGS, eGC, eGP, aNil, aCons, wB_eq, wTru, wTruN, wAnd, wOr, wNot, wYes, gN, gT_d, gL_own, gL_d, gsC, gsN, oNone, oSome_eq, asI_i, iLst, iTpl, iRg1, iRg2, iEnm, iEnmT, iZp, iScr, eLc_eq, hasD, slotD_eq, slotK_d, slotK_own, ownD_eq, slotO_own, isOwn, scrD, putE, asDs, asD_d, asD_own, argR_d, argR_own, argR_gen, argR_scr, asL_own, asL_d, asT_d, asB_d, sub_i, iadd_i, mul_i, fdiv_i, mod_i, pow_i, lt_i, le_i, gt_i, ge_i, add_i, add_l, add_t, cat_i, cat_l, cat_t, neg_i, eqf_i, eqt_i, lenC_l, lenC_t, absC_i, intC_i, tupC_l, tupC_t, max2C_i, min2C_i, lenC_s, reprC_b, reprA_b, reprA_i, reprA_t, reprC_i, eqf_rb, eqt_rb, eqt_ri, slD_t, max3C_i, ixt0, ixt1, ixt2, ixt3, ixl0, ixl1, ixtl, ixll, truD, lenD, startC, endP, List.map_cons, List.map_nil, List.length_cons, List.length_nil, List.cons_append, List.nil_append, List.getElem?_cons_zero, List.getElem?_cons_succ, List.set_cons_zero, List.set_cons_succ, List.replicate_succ, List.replicate_zero, Nat.reduceSub, Nat.reduceAdd, Nat.reduceLT, Option.isSome_some, true_and, and_true, ne_eq, not_false_eq_true, reduceCtorEq, if_true, if_false, Bool.false_eq_true, decide_eq_true_eq, List.mem_cons, List.not_mem_nil, or_self, or_false, false_or]
        exact hQ
end K

set_option Elab.async false
set_option maxRecDepth 100000
set_option linter.all false
set_option autoImplicit false
set_option maxHeartbeats 4000000
namespace K
open PySem L2 Dl
theorem Shp.up {n m : Nat} {x : Px} (h : Shp n x) (k : n ≤ m) : Shp m x := ⟨h.1, Nat.le_trans h.2 k⟩
theorem lay_all : ∀ {xs : List Px} {n : Nat}, PyData.canLayAll0 xs = true → PyData.depthAll xs ≤ n → ∀ x ∈ xs, Shp n x
  | [], _, _, _ => fun x h => by cases h
  | y :: ys, n, h1, h2 => fun x hx => by
    simp only [PyData.canLayAll0, Bool.and_eq_true] at h1
    simp only [PyData.depthAll] at h2
    rcases List.mem_cons.mp hx with rfl | hx
    · exact ⟨h1.1, by omega⟩
    · exact lay_all h1.2 (by omega) x hx
theorem Shp.items {n : Nat} {xs : List Px} (h : Shp (n + 1) (.tuple xs)) : ∀ x ∈ xs, Shp n x :=
  lay_all (by simpa [PyData.canLay0] using h.1) (by have := h.2; simp only [PyData.depth] at this; omega)
theorem int_of {x : Px} (h : isInt x = true) : ∃ i, x = .int i := by
  cases x with
  | int i => exact ⟨i, rfl⟩
  | _ => simp [isInt] at h
theorem inR_int {lo hi : Int} {x : Px} (h : inR lo hi x = true) : isInt x = true := by
  cases x <;> first | rfl | simp [inR] at h
theorem endB_int {x : Px} (h : endB x = true) : isInt x = true := by
  cases x <;> first | rfl | simp [endB] at h
/-- the items that are no integers -/
def nonI (x : Px) : Option Px := if isInt x = true then none else some x
theorem nonI_mem {xs : List Px} {y : Px} (h : y ∈ xs.filterMap nonI) : y ∈ xs := by
  obtain ⟨x, hx, e⟩ := List.mem_filterMap.mp h
  unfold nonI at e
  split at e
  · cases e
  · cases e; exact hx
theorem nonI4 (a b c d : Px) : ([a, b, c, d].filterMap nonI).isEmpty = (isInt a && (isInt b && (isInt c && isInt d))) := by
  simp only [List.filterMap_cons, List.filterMap_nil, nonI]
  cases isInt a <;> cases isInt b <;> cases isInt c <;> cases isInt d <;> rfl
def badE (x : Px) : Option Px := if endB x = true then none else some x
theorem badE_mem {xs : List Px} {y : Px} (h : y ∈ xs.filterMap badE) : y ∈ xs := by
  obtain ⟨x, hx, e⟩ := List.mem_filterMap.mp h
  unfold badE at e
  split at e
  · cases e
  · cases e; exact hx
theorem eqf_nil {xs : List Px} {P : Rv → Prop} (h : ∀ x ∈ xs, Shp 60 x) : eqD false (.list xs) (.list []) P = P (.d (.bool xs.isEmpty)) := by
  have h1 : SeqAt.shaped (.list xs) = true := (Shp.lst h).sh
  have h2 : SeqAt.shaped (.list []) = true := (Shp.lst (n := 60) (xs := []) (by simp)).sh
  simp only [eqD, h1, h2, eqv_nil, true_and]
  simp
abbrev C_law_is_tie : Cn := fun rs g Q => ∃ x n, rs = [.d x, .d (.int n)] ∧ (Nice x ∧ Shp 50 x) ∧ Q (.d (.bool (tieB n x))) g
def w_law_is_tie : WS :=
  (sSeq (sIf (wOr (wNot (wTru (eIsi "tuple" (eName 0)))) (wOr (wB (eSc (eqD true) (eLenN 0) (eC (.int 4)))) (wB (eSc (eqD true) (eLc (iTpl (eName 0)) (gN 3) (wNot (wTru (eCallP C_law_is_whole (aCons (eName 3) aNil)))) (eName 3) [3]) (eLst aNil))))) (sRet (eC (.bool false))) sNil)
  (sSeq (sIf (wOr (wNot (wB (eCh leD ltD (eC (.int 0)) (eIxN 0 (eC (.int 0))) (eName 1)))) (wNot (wB (eCh leD ltD (eC (.int 0)) (eIxN 0 (eC (.int 1))) (eName 1))))) (sRet (eC (.bool false))) sNil)
  (sRet (eSc (eqD false) (eLc (iTpl (eSlN 0 (oSome (eC (.int 2))) oNone)) (gN 2) (wOr (wB (eScL 2 (eqD false) (eC (.int 0)))) (wB (eSc gtD (eCB absC (aCons (eName 2) aNil)) (eC (.int 1000))))) (eName 2) [2]) (eLst aNil)))))
theorem len_law_is_tie (rs : List Rv) (g : Option Nat) (Q : Rv → Option Nat → Prop) (h : C_law_is_tie rs g Q) : rs.length = 2 := by
  obtain ⟨_, _, rfl, _⟩ := h
  rfl
theorem spec_law_is_tie (rs : List Rv) (g : Option Nat) (Q : Rv → Option Nat → Prop) (h : C_law_is_tie rs g Q) : w_law_is_tie (startC 4 rs g) (endP Q) fun _ _ => False := by
  obtain ⟨x, n, rfl, ⟨hx, hs⟩, hQ⟩ := h
  simp -dsimp only [w_law_is_tie, sSeq, sAsg, sRet, sIf, sExp, sFor_eq, sPar2, sPar3, sSetI_eq, sAug_eq, slotA_d, sSetG_eq, sRetG, sGL, sGP, sNil, sBrk, sCnt, sNo, eName_eq, slotE_d, slotE_gen, slotE_scr, slotE_own, eC, eOp, eUn, eSc, eScL, eScR, eCh, eAnd, eOr, eNot, eIf, eTup, eLst, eCB, eIx, eIxN, eSl, eSlN, eSlS, eAddN, eLenN, eApp, eExt, ePop, eCallP_eq, eCallG_eq, eIsi, eGL, eGS, eGC, eGP, aNil, aCons, wB_eq, wTru, wTruN, wAnd, wOr, wNot, wYes, gN, gT_d, gL_own, gL_d, gsC, gsN, oNone, oSome_eq, asI_i, iLst, iTpl, iRg1, iRg2, iEnm, iEnmT, iZp, iScr, eLc_eq, hasD, slotD_eq, slotK_d, slotK_own, ownD_eq, slotO_own, isOwn, scrD, putE, asDs, asD_d, asD_own, argR_d, argR_own, argR_gen, argR_scr, asL_own, asL_d, asT_d, asB_d, sub_i, iadd_i, mul_i, fdiv_i, mod_i, pow_i, lt_i, le_i, gt_i, ge_i, add_i, add_l, add_t, cat_i, cat_l, cat_t, neg_i, eqf_i, eqt_i, lenC_l, lenC_t, absC_i, intC_i, tupC_l, tupC_t, max2C_i, min2C_i, lenC_s, reprC_b, reprA_b, reprA_i, reprA_t, reprC_i, eqf_rb, eqt_rb, eqt_ri, slD_t, max3C_i, ixt0, ixt1, ixt2, ixt3, ixl0, ixl1, ixtl, ixll, truD, lenD, startC, endP, List.map_cons, List.map_nil, List.length_cons, List.length_nil, List.cons_append, List.nil_append, List.getElem?_cons_zero, List.getElem?_cons_succ, List.set_cons_zero, List.set_cons_succ, List.replicate_succ, List.replicate_zero, Nat.reduceSub, Nat.reduceAdd, Nat.reduceLT, Option.isSome_some, true_and, and_true, ne_eq, not_false_eq_true, reduceCtorEq, if_true, if_false, Bool.false_eq_true, decide_eq_true_eq, List.mem_cons, List.not_mem_nil, or_self, or_false, false_or]
  refine ⟨(isi_int hx).2.2, ?_⟩
  have hx2 := hx
  cases hx with
  | non => exact hQ
  | bl b => exact hQ
  | str s => exact hQ
  | int i => exact hQ
  | tup hxs =>
    rename_i xs
    simp -dsimp only [show isiD "tuple" (PyData.tuple xs) = true from rfl, Bool.not_true, sSeq, sAsg, sRet, sIf, sExp, sFor_eq, sPar2, sPar3, sSetI_eq, sAug_eq, slotA_d, sSetG_eq, sRetG, sGL, sGP, sNil, sBrk, sCnt, sNo, eName_eq, slotE_d, slotE_gen, slotE_scr, slotE_own, eC, eOp, eUn, eSc, eScL, eScR, eCh, eAnd, eOr, eNot, eIf, eTup, eLst, eCB, eIx, eIxN, eSl, eSlN, eSlS, eAddN, eLenN, eApp, eExt, ePop, eCallP_eq, eCallG_eq, eIsi, eGL, eGS, eGC, eGP, aNil, aCons, wB_eq, wTru, wTruN, wAnd, wOr, wNot, wYes, gN, gT_d, gL_own, gL_d, gsC, gsN, oNone, oSome_eq, asI_i, iLst, iTpl, iRg1, iRg2, iEnm, iEnmT, iZp, iScr, eLc_eq, hasD, slotD_eq, slotK_d, slotK_own, ownD_eq, slotO_own, isOwn, scrD, putE, asDs, asD_d, asD_own, argR_d, argR_own, argR_gen, argR_scr, asL_own, asL_d, asT_d, asB_d, sub_i, iadd_i, mul_i, fdiv_i, mod_i, pow_i, lt_i, le_i, gt_i, ge_i, add_i, add_l, add_t, cat_i, cat_l, cat_t, neg_i, eqf_i, eqt_i, lenC_l, lenC_t, absC_i, intC_i, tupC_l, tupC_t, max2C_i, min2C_i, lenC_s, reprC_b, reprA_b, reprA_i, reprA_t, reprC_i, eqf_rb, eqt_rb, eqt_ri, slD_t, max3C_i, ixt0, ixt1, ixt2, ixt3, ixl0, ixl1, ixtl, ixll, truD, lenD, startC, endP, List.map_cons, List.map_nil, List.length_cons, List.length_nil, List.cons_append, List.nil_append, List.getElem?_cons_zero, List.getElem?_cons_succ, List.set_cons_zero, List.set_cons_succ, List.replicate_succ, List.replicate_zero, Nat.reduceSub, Nat.reduceAdd, Nat.reduceLT, Option.isSome_some, true_and, and_true, ne_eq, not_false_eq_true, reduceCtorEq, if_true, if_false, Bool.false_eq_true, decide_eq_true_eq, List.mem_cons, List.not_mem_nil, or_self, or_false, false_or]
    cases hb : tupN 4 (.tuple xs)
    · rw [tieB_not hb] at hQ
      have hb2 : ((xs.length : Int) == 4) = false := hb
      simp -dsimp only [hb2, Bool.not_false, sSeq, sAsg, sRet, sIf, sExp, sFor_eq, sPar2, sPar3, sSetI_eq, sAug_eq, slotA_d, sSetG_eq, sRetG, sGL, sGP, sNil, sBrk, sCnt, sNo, eName_eq, slotE_d, slotE_gen, slotE_scr, slotE_own, eC, eOp, eUn, eSc, eScL, eScR, eCh, eAnd, eOr, eNot, eIf, eTup, eLst, eCB, eIx, eIxN, eSl, eSlN, eSlS, eAddN, eLenN, eApp, eExt, ePop, eCallP_eq, eCallG_eq, eIsi, eGL, eGS, eGC, eGP, aNil, aCons, wB_eq, wTru, wTruN, wAnd, wOr, wNot, wYes, gN, gT_d, gL_own, gL_d, gsC, gsN, oNone, oSome_eq, asI_i, iLst, iTpl, iRg1, iRg2, iEnm, iEnmT, iZp, iScr, eLc_eq, hasD, slotD_eq, slotK_d, slotK_own, ownD_eq, slotO_own, isOwn, scrD, putE, asDs, asD_d, asD_own, argR_d, argR_own, argR_gen, argR_scr, asL_own, asL_d, asT_d, asB_d, sub_i, iadd_i, mul_i, fdiv_i, mod_i, pow_i, lt_i, le_i, gt_i, ge_i, add_i, add_l, add_t, cat_i, cat_l, cat_t, neg_i, eqf_i, eqt_i, lenC_l, lenC_t, absC_i, intC_i, tupC_l, tupC_t, max2C_i, min2C_i, lenC_s, reprC_b, reprA_b, reprA_i, reprA_t, reprC_i, eqf_rb, eqt_rb, eqt_ri, slD_t, max3C_i, ixt0, ixt1, ixt2, ixt3, ixl0, ixl1, ixtl, ixll, truD, lenD, startC, endP, List.map_cons, List.map_nil, List.length_cons, List.length_nil, List.cons_append, List.nil_append, List.getElem?_cons_zero, List.getElem?_cons_succ, List.set_cons_zero, List.set_cons_succ, List.replicate_succ, List.replicate_zero, Nat.reduceSub, Nat.reduceAdd, Nat.reduceLT, Option.isSome_some, true_and, and_true, ne_eq, not_false_eq_true, reduceCtorEq, if_true, if_false, Bool.false_eq_true, decide_eq_true_eq, List.mem_cons, List.not_mem_nil, or_self, or_false, false_or]
      exact hQ
    · have hb2 : ((xs.length : Int) == 4) = true := hb
      obtain ⟨a, b, c, d, e, ha, hb', hc, hd⟩ := tup4 hx2 hb
      cases e
      have hsi := Shp.items (n := 50) (Shp.up hs (by decide))
      simp -dsimp only [hb2, Bool.not_true, sSeq, sAsg, sRet, sIf, sExp, sFor_eq, sPar2, sPar3, sSetI_eq, sAug_eq, slotA_d, sSetG_eq, sRetG, sGL, sGP, sNil, sBrk, sCnt, sNo, eName_eq, slotE_d, slotE_gen, slotE_scr, slotE_own, eC, eOp, eUn, eSc, eScL, eScR, eCh, eAnd, eOr, eNot, eIf, eTup, eLst, eCB, eIx, eIxN, eSl, eSlN, eSlS, eAddN, eLenN, eApp, eExt, ePop, eCallP_eq, eCallG_eq, eIsi, eGL, eGS, eGC, eGP, aNil, aCons, wB_eq, wTru, wTruN, wAnd, wOr, wNot, wYes, gN, gT_d, gL_own, gL_d, gsC, gsN, oNone, oSome_eq, asI_i, iLst, iTpl, iRg1, iRg2, iEnm, iEnmT, iZp, iScr, eLc_eq, hasD, slotD_eq, slotK_d, slotK_own, ownD_eq, slotO_own, isOwn, scrD, putE, asDs, asD_d, asD_own, argR_d, argR_own, argR_gen, argR_scr, asL_own, asL_d, asT_d, asB_d, sub_i, iadd_i, mul_i, fdiv_i, mod_i, pow_i, lt_i, le_i, gt_i, ge_i, add_i, add_l, add_t, cat_i, cat_l, cat_t, neg_i, eqf_i, eqt_i, lenC_l, lenC_t, absC_i, intC_i, tupC_l, tupC_t, max2C_i, min2C_i, lenC_s, reprC_b, reprA_b, reprA_i, reprA_t, reprC_i, eqf_rb, eqt_rb, eqt_ri, slD_t, max3C_i, ixt0, ixt1, ixt2, ixt3, ixl0, ixl1, ixtl, ixll, truD, lenD, startC, endP, List.map_cons, List.map_nil, List.length_cons, List.length_nil, List.cons_append, List.nil_append, List.getElem?_cons_zero, List.getElem?_cons_succ, List.set_cons_zero, List.set_cons_succ, List.replicate_succ, List.replicate_zero, Nat.reduceSub, Nat.reduceAdd, Nat.reduceLT, Option.isSome_some, true_and, and_true, ne_eq, not_false_eq_true, reduceCtorEq, if_true, if_false, Bool.false_eq_true, decide_eq_true_eq, List.mem_cons, List.not_mem_nil, or_self, or_false, false_or]
      refine ⟨by simp [nown], ?_⟩
      refine lcW_fm nonI _ [] (fun x hx R S hR hS => ?_) (by simp) ?_
      · simp -dsimp only [Turn1, wipeE, sSeq, sAsg, sRet, sIf, sExp, sFor_eq, sPar2, sPar3, sSetI_eq, sAug_eq, slotA_d, sSetG_eq, sRetG, sGL, sGP, sNil, sBrk, sCnt, sNo, eName_eq, slotE_d, slotE_gen, slotE_scr, slotE_own, eC, eOp, eUn, eSc, eScL, eScR, eCh, eAnd, eOr, eNot, eIf, eTup, eLst, eCB, eIx, eIxN, eSl, eSlN, eSlS, eAddN, eLenN, eApp, eExt, ePop, eCallP_eq, eCallG_eq, eIsi, eGL, eGS, eGC, eGP, aNil, aCons, wB_eq, wTru, wTruN, wAnd, wOr, wNot, wYes, gN, gT_d, gL_own, gL_d, gsC, gsN, oNone, oSome_eq, asI_i, iLst, iTpl, iRg1, iRg2, iEnm, iEnmT, iZp, iScr, eLc_eq, hasD, slotD_eq, slotK_d, slotK_own, ownD_eq, slotO_own, isOwn, scrD, putE, asDs, asD_d, asD_own, argR_d, argR_own, argR_gen, argR_scr, asL_own, asL_d, asT_d, asB_d, sub_i, iadd_i, mul_i, fdiv_i, mod_i, pow_i, lt_i, le_i, gt_i, ge_i, add_i, add_l, add_t, cat_i, cat_l, cat_t, neg_i, eqf_i, eqt_i, lenC_l, lenC_t, absC_i, intC_i, tupC_l, tupC_t, max2C_i, min2C_i, lenC_s, reprC_b, reprA_b, reprA_i, reprA_t, reprC_i, eqf_rb, eqt_rb, eqt_ri, slD_t, max3C_i, ixt0, ixt1, ixt2, ixt3, ixl0, ixl1, ixtl, ixll, truD, lenD, startC, endP, List.map_cons, List.map_nil, List.length_cons, List.length_nil, List.cons_append, List.nil_append, List.getElem?_cons_zero, List.getElem?_cons_succ, List.set_cons_zero, List.set_cons_succ, List.replicate_succ, List.replicate_zero, Nat.reduceSub, Nat.reduceAdd, Nat.reduceLT, Option.isSome_some, true_and, and_true, ne_eq, not_false_eq_true, reduceCtorEq, if_true, if_false, Bool.false_eq_true, decide_eq_true_eq, List.mem_cons, List.not_mem_nil, or_self, or_false, false_or]
        refine ⟨x, rfl, hxs x hx, ?_⟩
        try simp -dsimp only [sSeq, sAsg, sRet, sIf, sExp, sFor_eq, sPar2, sPar3, sSetI_eq, sAug_eq, slotA_d, sSetG_eq, sRetG, sGL, sGP, sNil, sBrk, sCnt, sNo, eName_eq, slotE_d, slotE_gen, slotE_scr, slotE_own, eC, eOp, eUn, eSc, eScL, eScR, eCh, eAnd, eOr, eNot, eIf, eTup, eLst, eCB, eIx, eIxN, eSl, eSlN, eSlS, eAddN, eLenN, eApp, eExt, ePop, eCallP_eq, eCallG_eq, eIsi, eGL, eGS, eGC, eGP, aNil, aCons, wB_eq, wTru, wTruN, wAnd, wOr, wNot, wYes, gN, gT_d, gL_own, gL_d, gsC, gsN, oNone, oSome_eq, asI_i, iLst, iTpl, iRg1, iRg2, iEnm, iEnmT, iZp, iScr, eLc_eq, hasD, slotD_eq, slotK_d, slotK_own, ownD_eq, slotO_own, isOwn, scrD, putE, asDs, asD_d, asD_own, argR_d, argR_own, argR_gen, argR_scr, asL_own, asL_d, asT_d, asB_d, sub_i, iadd_i, mul_i, fdiv_i, mod_i, pow_i, lt_i, le_i, gt_i, ge_i, add_i, add_l, add_t, cat_i, cat_l, cat_t, neg_i, eqf_i, eqt_i, lenC_l, lenC_t, absC_i, intC_i, tupC_l, tupC_t, max2C_i, min2C_i, lenC_s, reprC_b, reprA_b, reprA_i, reprA_t, reprC_i, eqf_rb, eqt_rb, eqt_ri, slD_t, max3C_i, ixt0, ixt1, ixt2, ixt3, ixl0, ixl1, ixtl, ixll, truD, lenD, startC, endP, List.map_cons, List.map_nil, List.length_cons, List.length_nil, List.cons_append, List.nil_append, List.getElem?_cons_zero, List.getElem?_cons_succ, List.set_cons_zero, List.set_cons_succ, List.replicate_succ, List.replicate_zero, Nat.reduceSub, Nat.reduceAdd, Nat.reduceLT, Option.isSome_some, true_and, and_true, ne_eq, not_false_eq_true, reduceCtorEq, if_true, if_false, Bool.false_eq_true, decide_eq_true_eq, List.mem_cons, List.not_mem_nil, or_self, or_false, false_or]
        unfold nonI at hR hS
        cases hi : isInt x
        · rw [hi] at hR
          simp -dsimp only [Bool.not_false, sSeq, sAsg, sRet, sIf, sExp, sFor_eq, sPar2, sPar3, sSetI_eq, sAug_eq, slotA_d, sSetG_eq, sRetG, sGL, sGP, sNil, sBrk, sCnt, sNo, eName_eq, slotE_d, slotE_gen, slotE_scr, slotE_own, eC, eOp, eUn, eSc, eScL, eScR, eCh, eAnd, eOr, eNot, eIf, eTup, eLst, eCB, eIx, eIxN, eSl, eSlN, eSlS, eAddN, eLenN, eApp, eExt, ePop, eCallP_eq, eCallG_eq, eIsi, eGL, eGS, eGC, eGP, aNil, aCons, wB_eq, wTru, wTruN, wAnd, wOr, wNot, wYes, gN, gT_d, gL_own, gL_d, gsC, gsN, oNone, oSome_eq, asI_i, iLst, iTpl, iRg1, iRg2, iEnm, iEnmT, iZp, iScr, eLc_eq, hasD, slotD_eq, slotK_d, slotK_own, ownD_eq, slotO_own, isOwn, scrD, putE, asDs, asD_d, asD_own, argR_d, argR_own, argR_gen, argR_scr, asL_own, asL_d, asT_d, asB_d, sub_i, iadd_i, mul_i, fdiv_i, mod_i, pow_i, lt_i, le_i, gt_i, ge_i, add_i, add_l, add_t, cat_i, cat_l, cat_t, neg_i, eqf_i, eqt_i, lenC_l, lenC_t, absC_i, intC_i, tupC_l, tupC_t, max2C_i, min2C_i, lenC_s, reprC_b, reprA_b, reprA_i, reprA_t, reprC_i, eqf_rb, eqt_rb, eqt_ri, slD_t, max3C_i, ixt0, ixt1, ixt2, ixt3, ixl0, ixl1, ixtl, ixll, truD, lenD, startC, endP, List.map_cons, List.map_nil, List.length_cons, List.length_nil, List.cons_append, List.nil_append, List.getElem?_cons_zero, List.getElem?_cons_succ, List.set_cons_zero, List.set_cons_succ, List.replicate_succ, List.replicate_zero, Nat.reduceSub, Nat.reduceAdd, Nat.reduceLT, Option.isSome_some, true_and, and_true, ne_eq, not_false_eq_true, reduceCtorEq, if_true, if_false, Bool.false_eq_true, decide_eq_true_eq, List.mem_cons, List.not_mem_nil, or_self, or_false, false_or]
          exact hR x rfl
        · rw [hi] at hS
          simp -dsimp only [Bool.not_true, sSeq, sAsg, sRet, sIf, sExp, sFor_eq, sPar2, sPar3, sSetI_eq, sAug_eq, slotA_d, sSetG_eq, sRetG, sGL, sGP, sNil, sBrk, sCnt, sNo, eName_eq, slotE_d, slotE_gen, slotE_scr, slotE_own, eC, eOp, eUn, eSc, eScL, eScR, eCh, eAnd, eOr, eNot, eIf, eTup, eLst, eCB, eIx, eIxN, eSl, eSlN, eSlS, eAddN, eLenN, eApp, eExt, ePop, eCallP_eq, eCallG_eq, eIsi, eGL, eGS, eGC, eGP, aNil, aCons, wB_eq, wTru, wTruN, wAnd, wOr, wNot, wYes, gN, gT_d, gL_own, gL_d, gsC, gsN, oNone, oSome_eq, asI_i, iLst, iTpl, iRg1, iRg2, iEnm, iEnmT, iZp, iScr, eLc_eq, hasD, slotD_eq, slotK_d, slotK_own, ownD_eq, slotO_own, isOwn, scrD, putE, asDs, asD_d, asD_own, argR_d, argR_own, argR_gen, argR_scr, asL_own, asL_d, asT_d, asB_d, sub_i, iadd_i, mul_i, fdiv_i, mod_i, pow_i, lt_i, le_i, gt_i, ge_i, add_i, add_l, add_t, cat_i, cat_l, cat_t, neg_i, eqf_i, eqt_i, lenC_l, lenC_t, absC_i, intC_i, tupC_l, tupC_t, max2C_i, min2C_i, lenC_s, reprC_b, reprA_b, reprA_i, reprA_t, reprC_i, eqf_rb, eqt_rb, eqt_ri, slD_t, max3C_i, ixt0, ixt1, ixt2, ixt3, ixl0, ixl1, ixtl, ixll, truD, lenD, startC, endP, List.map_cons, List.map_nil, List.length_cons, List.length_nil, List.cons_append, List.nil_append, List.getElem?_cons_zero, List.getElem?_cons_succ, List.set_cons_zero, List.set_cons_succ, List.replicate_succ, List.replicate_zero, Nat.reduceSub, Nat.reduceAdd, Nat.reduceLT, Option.isSome_some, true_and, and_true, ne_eq, not_false_eq_true, reduceCtorEq, if_true, if_false, Bool.false_eq_true, decide_eq_true_eq, List.mem_cons, List.not_mem_nil, or_self, or_false, false_or]
          exact hS rfl
      try simp -dsimp only [sSeq, sAsg, sRet, sIf, sExp, sFor_eq, sPar2, sPar3, sSetI_eq, sAug_eq, slotA_d, sSetG_eq, sRetG, sGL, sGP, sNil, sBrk, sCnt, sNo, eName_eq, slotE_d, slotE_gen, slotE_scr, slotE_own, eC, eOp, eUn, eSc, eScL, eScR, eCh, eAnd, eOr, eNot, eIf, eTup, eLst, eCB, eIx, eIxN, eSl, eSlN, eSlS, eAddN, eLenN, eApp, eExt, ePop, eCallP_eq, eCallG_eq, eIsi, eGL, eGS, eGC, eGP, aNil, aCons, wB_eq, wTru, wTruN, wAnd, wOr, wNot, wYes, gN, gT_d, gL_own, gL_d, gsC, gsN, oNone, oSome_eq, asI_i, iLst, iTpl, iRg1, iRg2, iEnm, iEnmT, iZp, iScr, eLc_eq, hasD, slotD_eq, slotK_d, slotK_own, ownD_eq, slotO_own, isOwn, scrD, putE, asDs, asD_d, asD_own, argR_d, argR_own, argR_gen, argR_scr, asL_own, asL_d, asT_d, asB_d, sub_i, iadd_i, mul_i, fdiv_i, mod_i, pow_i, lt_i, le_i, gt_i, ge_i, add_i, add_l, add_t, cat_i, cat_l, cat_t, neg_i, eqf_i, eqt_i, lenC_l, lenC_t, absC_i, intC_i, tupC_l, tupC_t, max2C_i, min2C_i, lenC_s, reprC_b, reprA_b, reprA_i, reprA_t, reprC_i, eqf_rb, eqt_rb, eqt_ri, slD_t, max3C_i, ixt0, ixt1, ixt2, ixt3, ixl0, ixl1, ixtl, ixll, truD, lenD, startC, endP, List.map_cons, List.map_nil, List.length_cons, List.length_nil, List.cons_append, List.nil_append, List.getElem?_cons_zero, List.getElem?_cons_succ, List.set_cons_zero, List.set_cons_succ, List.replicate_succ, List.replicate_zero, Nat.reduceSub, Nat.reduceAdd, Nat.reduceLT, Option.isSome_some, true_and, and_true, ne_eq, not_false_eq_true, reduceCtorEq, if_true, if_false, Bool.false_eq_true, decide_eq_true_eq, List.mem_cons, List.not_mem_nil, or_self, or_false, false_or]
      rw [eqt_nil fun x hx => Shp.up (hsi x (nonI_mem hx)) (by decide)]
      rw [nonI4]
      try simp -dsimp only [sSeq, sAsg, sRet, sIf, sExp, sFor_eq, sPar2, sPar3, sSetI_eq, sAug_eq, slotA_d, sSetG_eq, sRetG, sGL, sGP, sNil, sBrk, sCnt, sNo, eName_eq, slotE_d, slotE_gen, slotE_scr, slotE_own, eC, eOp, eUn, eSc, eScL, eScR, eCh, eAnd, eOr, eNot, eIf, eTup, eLst, eCB, eIx, eIxN, eSl, eSlN, eSlS, eAddN, eLenN, eApp, eExt, ePop, eCallP_eq, eCallG_eq, eIsi, eGL, eGS, eGC, eGP, aNil, aCons, wB_eq, wTru, wTruN, wAnd, wOr, wNot, wYes, gN, gT_d, gL_own, gL_d, gsC, gsN, oNone, oSome_eq, asI_i, iLst, iTpl, iRg1, iRg2, iEnm, iEnmT, iZp, iScr, eLc_eq, hasD, slotD_eq, slotK_d, slotK_own, ownD_eq, slotO_own, isOwn, scrD, putE, asDs, asD_d, asD_own, argR_d, argR_own, argR_gen, argR_scr, asL_own, asL_d, asT_d, asB_d, sub_i, iadd_i, mul_i, fdiv_i, mod_i, pow_i, lt_i, le_i, gt_i, ge_i, add_i, add_l, add_t, cat_i, cat_l, cat_t, neg_i, eqf_i, eqt_i, lenC_l, lenC_t, absC_i, intC_i, tupC_l, tupC_t, max2C_i, min2C_i, lenC_s, reprC_b, reprA_b, reprA_i, reprA_t, reprC_i, eqf_rb, eqt_rb, eqt_ri, slD_t, max3C_i, ixt0, ixt1, ixt2, ixt3, ixl0, ixl1, ixtl, ixll, truD, lenD, startC, endP, List.map_cons, List.map_nil, List.length_cons, List.length_nil, List.cons_append, List.nil_append, List.getElem?_cons_zero, List.getElem?_cons_succ, List.set_cons_zero, List.set_cons_succ, List.replicate_succ, List.replicate_zero, Nat.reduceSub, Nat.reduceAdd, Nat.reduceLT, Option.isSome_some, true_and, and_true, ne_eq, not_false_eq_true, reduceCtorEq, if_true, if_false, Bool.false_eq_true, decide_eq_true_eq, List.mem_cons, List.not_mem_nil, or_self, or_false, false_or]
      refine ⟨by decide, ?_⟩
      cases hk : (isInt a && (isInt b && (isInt c && isInt d)))
      · have e : tieB n (.tuple [a, b, c, d]) = false := by
          cases ht : tieB n (.tuple [a, b, c, d]) with
          | false => rfl
          | true =>
            simp only [tieB, Bool.and_eq_true] at ht
            rw [inR_int ht.1.1, inR_int ht.1.2, endB_int ht.2.1, endB_int ht.2.2] at hk
            cases hk
        rw [e] at hQ
        simp -dsimp only [Bool.not_false, sSeq, sAsg, sRet, sIf, sExp, sFor_eq, sPar2, sPar3, sSetI_eq, sAug_eq, slotA_d, sSetG_eq, sRetG, sGL, sGP, sNil, sBrk, sCnt, sNo, eName_eq, slotE_d, slotE_gen, slotE_scr, slotE_own, eC, eOp, eUn, eSc, eScL, eScR, eCh, eAnd, eOr, eNot, eIf, eTup, eLst, eCB, eIx, eIxN, eSl, eSlN, eSlS, eAddN, eLenN, eApp, eExt, ePop, eCallP_eq, eCallG_eq, eIsi, eGL, eGS, eGC, eGP, aNil, aCons, wB_eq, wTru, wTruN, wAnd, wOr, wNot, wYes, gN, gT_d, gL_own, gL_d, gsC, gsN, oNone, oSome_eq, asI_i, iLst, iTpl, iRg1, iRg2, iEnm, iEnmT, iZp, iScr, eLc_eq, hasD, slotD_eq, slotK_d, slotK_own, ownD_eq, slotO_own, isOwn, scrD, putE, asDs, asD_d, asD_own, argR_d, argR_own, argR_gen, argR_scr, asL_own, asL_d, asT_d, asB_d, sub_i, iadd_i, mul_i, fdiv_i, mod_i, pow_i, lt_i, le_i, gt_i, ge_i, add_i, add_l, add_t, cat_i, cat_l, cat_t, neg_i, eqf_i, eqt_i, lenC_l, lenC_t, absC_i, intC_i, tupC_l, tupC_t, max2C_i, min2C_i, lenC_s, reprC_b, reprA_b, reprA_i, reprA_t, reprC_i, eqf_rb, eqt_rb, eqt_ri, slD_t, max3C_i, ixt0, ixt1, ixt2, ixt3, ixl0, ixl1, ixtl, ixll, truD, lenD, startC, endP, List.map_cons, List.map_nil, List.length_cons, List.length_nil, List.cons_append, List.nil_append, List.getElem?_cons_zero, List.getElem?_cons_succ, List.set_cons_zero, List.set_cons_succ, List.replicate_succ, List.replicate_zero, Nat.reduceSub, Nat.reduceAdd, Nat.reduceLT, Option.isSome_some, true_and, and_true, ne_eq, not_false_eq_true, reduceCtorEq, if_true, if_false, Bool.false_eq_true, decide_eq_true_eq, List.mem_cons, List.not_mem_nil, or_self, or_false, false_or]
        exact hQ
      · simp only [Bool.and_eq_true] at hk
        obtain ⟨v, rfl⟩ := int_of hk.1
        obtain ⟨w, rfl⟩ := int_of hk.2.1
        obtain ⟨p, rfl⟩ := int_of hk.2.2.1
        obtain ⟨q, rfl⟩ := int_of hk.2.2.2
        simp -dsimp only [Bool.not_true, sSeq, sAsg, sRet, sIf, sExp, sFor_eq, sPar2, sPar3, sSetI_eq, sAug_eq, slotA_d, sSetG_eq, sRetG, sGL, sGP, sNil, sBrk, sCnt, sNo, eName_eq, slotE_d, slotE_gen, slotE_scr, slotE_own, eC, eOp, eUn, eSc, eScL, eScR, eCh, eAnd, eOr, eNot, eIf, eTup, eLst, eCB, eIx, eIxN, eSl, eSlN, eSlS, eAddN, eLenN, eApp, eExt, ePop, eCallP_eq, eCallG_eq, eIsi, eGL, eGS, eGC, eGP, aNil, aCons, wB_eq, wTru, wTruN, wAnd, wOr, wNot, wYes, gN, gT_d, gL_own, gL_d, gsC, gsN, oNone, oSome_eq, asI_i, iLst, iTpl, iRg1, iRg2, iEnm, iEnmT, iZp, iScr, eLc_eq, hasD, slotD_eq, slotK_d, slotK_own, ownD_eq, slotO_own, isOwn, scrD, putE, asDs, asD_d, asD_own, argR_d, argR_own, argR_gen, argR_scr, asL_own, asL_d, asT_d, asB_d, sub_i, iadd_i, mul_i, fdiv_i, mod_i, pow_i, lt_i, le_i, gt_i, ge_i, add_i, add_l, add_t, cat_i, cat_l, cat_t, neg_i, eqf_i, eqt_i, lenC_l, lenC_t, absC_i, intC_i, tupC_l, tupC_t, max2C_i, min2C_i, lenC_s, reprC_b, reprA_b, reprA_i, reprA_t, reprC_i, eqf_rb, eqt_rb, eqt_ri, slD_t, max3C_i, ixt0, ixt1, ixt2, ixt3, ixl0, ixl1, ixtl, ixll, truD, lenD, startC, endP, List.map_cons, List.map_nil, List.length_cons, List.length_nil, List.cons_append, List.nil_append, List.getElem?_cons_zero, List.getElem?_cons_succ, List.set_cons_zero, List.set_cons_succ, List.replicate_succ, List.replicate_zero, Nat.reduceSub, Nat.reduceAdd, Nat.reduceLT, Option.isSome_some, true_and, and_true, ne_eq, not_false_eq_true, reduceCtorEq, if_true, if_false, Bool.false_eq_true, decide_eq_true_eq, List.mem_cons, List.not_mem_nil, or_self, or_false, false_or]
        have hno : ¬ ((0 ≤ v ∧ v < n) ∧ (0 ≤ w ∧ w < n)) → Q (.d (.bool false)) g := fun hh => by
          have e : tieB n (.tuple [.int v, .int w, .int p, .int q]) = false := by
            cases ht : tieB n (.tuple [.int v, .int w, .int p, .int q]) with
            | false => rfl
            | true =>
              simp only [tieB, inR, Bool.and_eq_true, decide_eq_true_eq] at ht
              omega
          rw [e] at hQ
          exact hQ
        by_cases h0 : 0 ≤ v
        · by_cases h1 : v < n
          · by_cases h2 : 0 ≤ w
            · by_cases h3 : w < n
              · simp -dsimp only [h0, h1, h2, h3, decide_true, Bool.not_true, sSeq, sAsg, sRet, sIf, sExp, sFor_eq, sPar2, sPar3, sSetI_eq, sAug_eq, slotA_d, sSetG_eq, sRetG, sGL, sGP, sNil, sBrk, sCnt, sNo, eName_eq, slotE_d, slotE_gen, slotE_scr, slotE_own, eC, eOp, eUn, eSc, eScL, eScR, eCh, eAnd, eOr, eNot, eIf, eTup, eLst, eCB, eIx, eIxN, eSl, eSlN, eSlS, eAddN, eLenN, eApp, eExt, ePop, eCallP_eq, eCallG_eq, eIsi, eGL, eGS, eGC, eGP, aNil, aCons, wB_eq, wTru, wTruN, wAnd, wOr, wNot, wYes, gN, gT_d, gL_own, gL_d, gsC, gsN, oNone, oSome_eq, asI_i, iLst, iTpl, iRg1, iRg2, iEnm, iEnmT, iZp, iScr, eLc_eq, hasD, slotD_eq, slotK_d, slotK_own, ownD_eq, slotO_own, isOwn, scrD, putE, asDs, asD_d, asD_own, argR_d, argR_own, argR_gen, argR_scr, asL_own, asL_d, asT_d, asB_d, sub_i, iadd_i, mul_i, fdiv_i, mod_i, pow_i, lt_i, le_i, gt_i, ge_i, add_i, add_l, add_t, cat_i, cat_l, cat_t, neg_i, eqf_i, eqt_i, lenC_l, lenC_t, absC_i, intC_i, tupC_l, tupC_t, max2C_i, min2C_i, lenC_s, reprC_b, reprA_b, reprA_i, reprA_t, reprC_i, eqf_rb, eqt_rb, eqt_ri, slD_t, max3C_i, ixt0, ixt1, ixt2, ixt3, ixl0, ixl1, ixtl, ixll, truD, lenD, startC, endP, List.map_cons, List.map_nil, List.length_cons, List.length_nil, List.cons_append, List.nil_append, List.getElem?_cons_zero, List.getElem?_cons_succ, List.set_cons_zero, List.set_cons_succ, List.replicate_succ, List.replicate_zero, Nat.reduceSub, Nat.reduceAdd, Nat.reduceLT, Option.isSome_some, true_and, and_true, ne_eq, not_false_eq_true, reduceCtorEq, if_true, if_false, Bool.false_eq_true, decide_eq_true_eq, List.mem_cons, List.not_mem_nil, or_self, or_false, false_or]
                rw [show cutX [PyData.int v, .int w, .int p, .int q] (some 2) none = [.int p, .int q] from cut_tl (i := 2) [PyData.int v, .int w, .int p, .int q] (by simp)]
                refine ⟨by simp [nown], ?_⟩
                refine lcW_fm badE _ [] (fun x hx R S hR hS => ?_) (by simp) ?_
                · obtain ⟨i, rfl⟩ : ∃ i, x = PyData.int i := by
                    simp only [List.mem_cons, List.not_mem_nil, or_false] at hx
                    rcases hx with rfl | rfl
                    · exact ⟨p, rfl⟩
                    · exact ⟨q, rfl⟩
                  simp -dsimp only [Turn1, wipeE, sSeq, sAsg, sRet, sIf, sExp, sFor_eq, sPar2, sPar3, sSetI_eq, sAug_eq, slotA_d, sSetG_eq, sRetG, sGL, sGP, sNil, sBrk, sCnt, sNo, eName_eq, slotE_d, slotE_gen, slotE_scr, slotE_own, eC, eOp, eUn, eSc, eScL, eScR, eCh, eAnd, eOr, eNot, eIf, eTup, eLst, eCB, eIx, eIxN, eSl, eSlN, eSlS, eAddN, eLenN, eApp, eExt, ePop, eCallP_eq, eCallG_eq, eIsi, eGL, eGS, eGC, eGP, aNil, aCons, wB_eq, wTru, wTruN, wAnd, wOr, wNot, wYes, gN, gT_d, gL_own, gL_d, gsC, gsN, oNone, oSome_eq, asI_i, iLst, iTpl, iRg1, iRg2, iEnm, iEnmT, iZp, iScr, eLc_eq, hasD, slotD_eq, slotK_d, slotK_own, ownD_eq, slotO_own, isOwn, scrD, putE, asDs, asD_d, asD_own, argR_d, argR_own, argR_gen, argR_scr, asL_own, asL_d, asT_d, asB_d, sub_i, iadd_i, mul_i, fdiv_i, mod_i, pow_i, lt_i, le_i, gt_i, ge_i, add_i, add_l, add_t, cat_i, cat_l, cat_t, neg_i, eqf_i, eqt_i, lenC_l, lenC_t, absC_i, intC_i, tupC_l, tupC_t, max2C_i, min2C_i, lenC_s, reprC_b, reprA_b, reprA_i, reprA_t, reprC_i, eqf_rb, eqt_rb, eqt_ri, slD_t, max3C_i, ixt0, ixt1, ixt2, ixt3, ixl0, ixl1, ixtl, ixll, truD, lenD, startC, endP, List.map_cons, List.map_nil, List.length_cons, List.length_nil, List.cons_append, List.nil_append, List.getElem?_cons_zero, List.getElem?_cons_succ, List.set_cons_zero, List.set_cons_succ, List.replicate_succ, List.replicate_zero, Nat.reduceSub, Nat.reduceAdd, Nat.reduceLT, Option.isSome_some, true_and, and_true, ne_eq, not_false_eq_true, reduceCtorEq, if_true, if_false, Bool.false_eq_true, decide_eq_true_eq, List.mem_cons, List.not_mem_nil, or_self, or_false, false_or]
                  have hb : endB (.int i) = (!(i == 0) && !decide (1000 < (i.natAbs : Int))) := by
                    rw [Bool.eq_iff_iff]
                    simp only [endB, Bool.and_eq_true, decide_eq_true_eq, Bool.not_eq_true', beq_eq_false_iff_ne, decide_eq_false_iff_not]
                    omega
                  by_cases hz : i = 0
                  · simp -dsimp only [hz, beq_self_eq_true, sSeq, sAsg, sRet, sIf, sExp, sFor_eq, sPar2, sPar3, sSetI_eq, sAug_eq, slotA_d, sSetG_eq, sRetG, sGL, sGP, sNil, sBrk, sCnt, sNo, eName_eq, slotE_d, slotE_gen, slotE_scr, slotE_own, eC, eOp, eUn, eSc, eScL, eScR, eCh, eAnd, eOr, eNot, eIf, eTup, eLst, eCB, eIx, eIxN, eSl, eSlN, eSlS, eAddN, eLenN, eApp, eExt, ePop, eCallP_eq, eCallG_eq, eIsi, eGL, eGS, eGC, eGP, aNil, aCons, wB_eq, wTru, wTruN, wAnd, wOr, wNot, wYes, gN, gT_d, gL_own, gL_d, gsC, gsN, oNone, oSome_eq, asI_i, iLst, iTpl, iRg1, iRg2, iEnm, iEnmT, iZp, iScr, eLc_eq, hasD, slotD_eq, slotK_d, slotK_own, ownD_eq, slotO_own, isOwn, scrD, putE, asDs, asD_d, asD_own, argR_d, argR_own, argR_gen, argR_scr, asL_own, asL_d, asT_d, asB_d, sub_i, iadd_i, mul_i, fdiv_i, mod_i, pow_i, lt_i, le_i, gt_i, ge_i, add_i, add_l, add_t, cat_i, cat_l, cat_t, neg_i, eqf_i, eqt_i, lenC_l, lenC_t, absC_i, intC_i, tupC_l, tupC_t, max2C_i, min2C_i, lenC_s, reprC_b, reprA_b, reprA_i, reprA_t, reprC_i, eqf_rb, eqt_rb, eqt_ri, slD_t, max3C_i, ixt0, ixt1, ixt2, ixt3, ixl0, ixl1, ixtl, ixll, truD, lenD, startC, endP, List.map_cons, List.map_nil, List.length_cons, List.length_nil, List.cons_append, List.nil_append, List.getElem?_cons_zero, List.getElem?_cons_succ, List.set_cons_zero, List.set_cons_succ, List.replicate_succ, List.replicate_zero, Nat.reduceSub, Nat.reduceAdd, Nat.reduceLT, Option.isSome_some, true_and, and_true, ne_eq, not_false_eq_true, reduceCtorEq, if_true, if_false, Bool.false_eq_true, decide_eq_true_eq, List.mem_cons, List.not_mem_nil, or_self, or_false, false_or]
                    exact hR _ (by simp [badE, hz, show endB (.int 0) = false from rfl])
                  · have hzb : (i == 0) = false := by simpa using hz
                    simp -dsimp only [hzb, sSeq, sAsg, sRet, sIf, sExp, sFor_eq, sPar2, sPar3, sSetI_eq, sAug_eq, slotA_d, sSetG_eq, sRetG, sGL, sGP, sNil, sBrk, sCnt, sNo, eName_eq, slotE_d, slotE_gen, slotE_scr, slotE_own, eC, eOp, eUn, eSc, eScL, eScR, eCh, eAnd, eOr, eNot, eIf, eTup, eLst, eCB, eIx, eIxN, eSl, eSlN, eSlS, eAddN, eLenN, eApp, eExt, ePop, eCallP_eq, eCallG_eq, eIsi, eGL, eGS, eGC, eGP, aNil, aCons, wB_eq, wTru, wTruN, wAnd, wOr, wNot, wYes, gN, gT_d, gL_own, gL_d, gsC, gsN, oNone, oSome_eq, asI_i, iLst, iTpl, iRg1, iRg2, iEnm, iEnmT, iZp, iScr, eLc_eq, hasD, slotD_eq, slotK_d, slotK_own, ownD_eq, slotO_own, isOwn, scrD, putE, asDs, asD_d, asD_own, argR_d, argR_own, argR_gen, argR_scr, asL_own, asL_d, asT_d, asB_d, sub_i, iadd_i, mul_i, fdiv_i, mod_i, pow_i, lt_i, le_i, gt_i, ge_i, add_i, add_l, add_t, cat_i, cat_l, cat_t, neg_i, eqf_i, eqt_i, lenC_l, lenC_t, absC_i, intC_i, tupC_l, tupC_t, max2C_i, min2C_i, lenC_s, reprC_b, reprA_b, reprA_i, reprA_t, reprC_i, eqf_rb, eqt_rb, eqt_ri, slD_t, max3C_i, ixt0, ixt1, ixt2, ixt3, ixl0, ixl1, ixtl, ixll, truD, lenD, startC, endP, List.map_cons, List.map_nil, List.length_cons, List.length_nil, List.cons_append, List.nil_append, List.getElem?_cons_zero, List.getElem?_cons_succ, List.set_cons_zero, List.set_cons_succ, List.replicate_succ, List.replicate_zero, Nat.reduceSub, Nat.reduceAdd, Nat.reduceLT, Option.isSome_some, true_and, and_true, ne_eq, not_false_eq_true, reduceCtorEq, if_true, if_false, Bool.false_eq_true, decide_eq_true_eq, List.mem_cons, List.not_mem_nil, or_self, or_false, false_or]
                    by_cases hg : 1000 < (i.natAbs : Int)
                    · simp -dsimp only [hg, sSeq, sAsg, sRet, sIf, sExp, sFor_eq, sPar2, sPar3, sSetI_eq, sAug_eq, slotA_d, sSetG_eq, sRetG, sGL, sGP, sNil, sBrk, sCnt, sNo, eName_eq, slotE_d, slotE_gen, slotE_scr, slotE_own, eC, eOp, eUn, eSc, eScL, eScR, eCh, eAnd, eOr, eNot, eIf, eTup, eLst, eCB, eIx, eIxN, eSl, eSlN, eSlS, eAddN, eLenN, eApp, eExt, ePop, eCallP_eq, eCallG_eq, eIsi, eGL, eGS, eGC, eGP, aNil, aCons, wB_eq, wTru, wTruN, wAnd, wOr, wNot, wYes, gN, gT_d, gL_own, gL_d, gsC, gsN, oNone, oSome_eq, asI_i, iLst, iTpl, iRg1, iRg2, iEnm, iEnmT, iZp, iScr, eLc_eq, hasD, slotD_eq, slotK_d, slotK_own, ownD_eq, slotO_own, isOwn, scrD, putE, asDs, asD_d, asD_own, argR_d, argR_own, argR_gen, argR_scr, asL_own, asL_d, asT_d, asB_d, sub_i, iadd_i, mul_i, fdiv_i, mod_i, pow_i, lt_i, le_i, gt_i, ge_i, add_i, add_l, add_t, cat_i, cat_l, cat_t, neg_i, eqf_i, eqt_i, lenC_l, lenC_t, absC_i, intC_i, tupC_l, tupC_t, max2C_i, min2C_i, lenC_s, reprC_b, reprA_b, reprA_i, reprA_t, reprC_i, eqf_rb, eqt_rb, eqt_ri, slD_t, max3C_i, ixt0, ixt1, ixt2, ixt3, ixl0, ixl1, ixtl, ixll, truD, lenD, startC, endP, List.map_cons, List.map_nil, List.length_cons, List.length_nil, List.cons_append, List.nil_append, List.getElem?_cons_zero, List.getElem?_cons_succ, List.set_cons_zero, List.set_cons_succ, List.replicate_succ, List.replicate_zero, Nat.reduceSub, Nat.reduceAdd, Nat.reduceLT, Option.isSome_some, true_and, and_true, ne_eq, not_false_eq_true, reduceCtorEq, if_true, if_false, Bool.false_eq_true, decide_eq_true_eq, List.mem_cons, List.not_mem_nil, or_self, or_false, false_or]
                      exact hR _ (by simp [badE, hb, hzb, hg])
                    · simp -dsimp only [hg, sSeq, sAsg, sRet, sIf, sExp, sFor_eq, sPar2, sPar3, sSetI_eq, sAug_eq, slotA_d, sSetG_eq, sRetG, sGL, sGP, sNil, sBrk, sCnt, sNo, eName_eq, slotE_d, slotE_gen, slotE_scr, slotE_own, eC, eOp, eUn, eSc, eScL, eScR, eCh, eAnd, eOr, eNot, eIf, eTup, eLst, eCB, eIx, eIxN, eSl, eSlN, eSlS, eAddN, eLenN, eApp, eExt, ePop, eCallP_eq, eCallG_eq, eIsi, eGL, eGS, eGC, eGP, aNil, aCons, wB_eq, wTru, wTruN, wAnd, wOr, wNot, wYes, gN, gT_d, gL_own, gL_d, gsC, gsN, oNone, oSome_eq, asI_i, iLst, iTpl, iRg1, iRg2, iEnm, iEnmT, iZp, iScr, eLc_eq, hasD, slotD_eq, slotK_d, slotK_own, ownD_eq, slotO_own, isOwn, scrD, putE, asDs, asD_d, asD_own, argR_d, argR_own, argR_gen, argR_scr, asL_own, asL_d, asT_d, asB_d, sub_i, iadd_i, mul_i, fdiv_i, mod_i, pow_i, lt_i, le_i, gt_i, ge_i, add_i, add_l, add_t, cat_i, cat_l, cat_t, neg_i, eqf_i, eqt_i, lenC_l, lenC_t, absC_i, intC_i, tupC_l, tupC_t, max2C_i, min2C_i, lenC_s, reprC_b, reprA_b, reprA_i, reprA_t, reprC_i, eqf_rb, eqt_rb, eqt_ri, slD_t, max3C_i, ixt0, ixt1, ixt2, ixt3, ixl0, ixl1, ixtl, ixll, truD, lenD, startC, endP, List.map_cons, List.map_nil, List.length_cons, List.length_nil, List.cons_append, List.nil_append, List.getElem?_cons_zero, List.getElem?_cons_succ, List.set_cons_zero, List.set_cons_succ, List.replicate_succ, List.replicate_zero, Nat.reduceSub, Nat.reduceAdd, Nat.reduceLT, Option.isSome_some, true_and, and_true, ne_eq, not_false_eq_true, reduceCtorEq, if_true, if_false, Bool.false_eq_true, decide_eq_true_eq, List.mem_cons, List.not_mem_nil, or_self, or_false, false_or]
                      exact hS (by simp [badE, hb, hzb, hg])
                try simp -dsimp only [sSeq, sAsg, sRet, sIf, sExp, sFor_eq, sPar2, sPar3, sSetI_eq, sAug_eq, slotA_d, sSetG_eq, sRetG, sGL, sGP, sNil, sBrk, sCnt, sNo, eName_eq, slotE_d, slotE_gen, slotE_scr, slotE_own, eC, eOp, eUn, eSc, eScL, eScR, eCh, eAnd, eOr, eNot, eIf, eTup, eLst, eCB, eIx, eIxN, eSl, eSlN, eSlS, eAddN, eLenN, eApp, eExt, ePop, eCallP_eq, eCallG_eq, eIsi, eGL, eGS, eGC, eGP, aNil, aCons, wB_eq, wTru, wTruN, wAnd, wOr, wNot, wYes, gN, gT_d, gL_own, gL_d, gsC, gsN, oNone, oSome_eq, asI_i, iLst, iTpl, iRg1, iRg2, iEnm, iEnmT, iZp, iScr, eLc_eq, hasD, slotD_eq, slotK_d, slotK_own, ownD_eq, slotO_own, isOwn, scrD, putE, asDs, asD_d, asD_own, argR_d, argR_own, argR_gen, argR_scr, asL_own, asL_d, asT_d, asB_d, sub_i, iadd_i, mul_i, fdiv_i, mod_i, pow_i, lt_i, le_i, gt_i, ge_i, add_i, add_l, add_t, cat_i, cat_l, cat_t, neg_i, eqf_i, eqt_i, lenC_l, lenC_t, absC_i, intC_i, tupC_l, tupC_t, max2C_i, min2C_i, lenC_s, reprC_b, reprA_b, reprA_i, reprA_t, reprC_i, eqf_rb, eqt_rb, eqt_ri, slD_t, max3C_i, ixt0, ixt1, ixt2, ixt3, ixl0, ixl1, ixtl, ixll, truD, lenD, startC, endP, List.map_cons, List.map_nil, List.length_cons, List.length_nil, List.cons_append, List.nil_append, List.getElem?_cons_zero, List.getElem?_cons_succ, List.set_cons_zero, List.set_cons_succ, List.replicate_succ, List.replicate_zero, Nat.reduceSub, Nat.reduceAdd, Nat.reduceLT, Option.isSome_some, true_and, and_true, ne_eq, not_false_eq_true, reduceCtorEq, if_true, if_false, Bool.false_eq_true, decide_eq_true_eq, List.mem_cons, List.not_mem_nil, or_self, or_false, false_or]
                rw [eqf_nil fun x hx => Shp.up (hsi x (by
                  have := badE_mem hx
                  simp only [List.mem_cons, List.not_mem_nil, or_false] at this ⊢
                  rcases this with h | h <;> simp [h])) (by decide)]
                have e : ([PyData.int p, .int q].filterMap badE).isEmpty = tieB n (.tuple [.int v, .int w, .int p, .int q]) := by
                  have r1 : inR 0 (n - 1) (.int v) = true := by
                    simp only [inR, Bool.and_eq_true, decide_eq_true_eq]; omega
                  have r2 : inR 0 (n - 1) (.int w) = true := by
                    simp only [inR, Bool.and_eq_true, decide_eq_true_eq]; omega
                  simp only [tieB, r1, r2, List.filterMap_cons, List.filterMap_nil, badE]
                  cases endB (.int p) <;> cases endB (.int q) <;> rfl
                rw [e]
                exact ⟨by decide, hQ⟩
              · simp -dsimp only [h0, h1, h2, h3, decide_true, decide_false, Bool.not_true, Bool.not_false, sSeq, sAsg, sRet, sIf, sExp, sFor_eq, sPar2, sPar3, sSetI_eq, sAug_eq, slotA_d, sSetG_eq, sRetG, sGL, sGP, sNil, sBrk, sCnt, sNo, eName_eq, slotE_d, slotE_gen, slotE_scr, slotE_own, eC, eOp, eUn, eSc, eScL, eScR, eCh, eAnd, eOr, eNot, eIf, eTup, eLst, eCB, eIx, eIxN, eSl, eSlN, eSlS, eAddN, eLenN, eApp, eExt, ePop, eCallP_eq, eCallG_eq, eIsi, eGL, eGS, eGC, eGP, aNil, aCons, wB_eq, wTru, wTruN, wAnd, wOr, wNot, wYes, gN, gT_d, gL_own, gL_d, gsC, gsN, oNone, oSome_eq, asI_i, iLst, iTpl, iRg1, iRg2, iEnm, iEnmT, iZp, iScr, eLc_eq, hasD, slotD_eq, slotK_d, slotK_own, ownD_eq, slotO_own, isOwn, scrD, putE, asDs, asD_d, asD_own, argR_d, argR_own, argR_gen, argR_scr, asL_own, asL_d, asT_d, asB_d, sub_i, iadd_i, mul_i, fdiv_i, mod_i, pow_i, lt_i, le_i, gt_i, ge_i, add_i, add_l, add_t, cat_i, cat_l, cat_t, neg_i, eqf_i, eqt_i, lenC_l, lenC_t, absC_i, intC_i, tupC_l, tupC_t, max2C_i, min2C_i, lenC_s, reprC_b, reprA_b, reprA_i, reprA_t, reprC_i, eqf_rb, eqt_rb, eqt_ri, slD_t, max3C_i, ixt0, ixt1, ixt2, ixt3, ixl0, ixl1, ixtl, ixll, truD, lenD, startC, endP, List.map_cons, List.map_nil, List.length_cons, List.length_nil, List.cons_append, List.nil_append, List.getElem?_cons_zero, List.getElem?_cons_succ, List.set_cons_zero, List.set_cons_succ, List.replicate_succ, List.replicate_zero, Nat.reduceSub, Nat.reduceAdd, Nat.reduceLT, Option.isSome_some, true_and, and_true, ne_eq, not_false_eq_true, reduceCtorEq, if_true, if_false, Bool.false_eq_true, decide_eq_true_eq, List.mem_cons, List.not_mem_nil, or_self, or_false, false_or]
                exact hno (by omega)
            · simp -dsimp only [h0, h1, h2, decide_true, decide_false, Bool.not_true, Bool.not_false, sSeq, sAsg, sRet, sIf, sExp, sFor_eq, sPar2, sPar3, sSetI_eq, sAug_eq, slotA_d, sSetG_eq, sRetG, sGL, sGP, sNil, sBrk, sCnt, sNo, eName_eq, slotE_d, slotE_gen, slotE_scr, slotE_own, eC, eOp, eUn, eSc, eScL, eScR, eCh, eAnd, eOr, eNot, eIf, eTup, eLst, eCB, eIx, eIxN, eSl, eSlN, eSlS, eAddN, eLenN, eApp, eExt, ePop, eCallP_eq, eCallG_eq, eIsi, eGL, eGS, eGC, eGP, aNil, aCons, wB_eq, wTru, wTruN, wAnd, wOr, wNot, wYes, gN, gT_d, gL_own, gL_d, gsC, gsN, oNone, oSome_eq, asI_i, iLst, iTpl, iRg1, iRg2, iEnm, iEnmT, iZp, iScr, eLc_eq, hasD, slotD_eq, slotK_d, slotK_own, ownD_eq, slotO_own, isOwn, scrD, putE, asDs, asD_d, asD_own, argR_d, argR_own, argR_gen, argR_scr, asL_own, asL_d, asT_d, asB_d, sub_i, iadd_i, mul_i, fdiv_i, mod_i, pow_i, lt_i, le_i, gt_i, ge_i, add_i, add_l, add_t, cat_i, cat_l, cat_t, neg_i, eqf_i, eqt_i, lenC_l, lenC_t, absC_i, intC_i, tupC_l, tupC_t, max2C_i, min2C_i, lenC_s, reprC_b, reprA_b, reprA_i, reprA_t, reprC_i, eqf_rb, eqt_rb, eqt_ri, slD_t, max3C_i, ixt0, ixt1, ixt2, ixt3, ixl0, ixl1, ixtl, ixll, truD, lenD, startC, endP, List.map_cons, List.map_nil, List.length_cons, List.length_nil, List.cons_append, List.nil_append, List.getElem?_cons_zero, List.getElem?_cons_succ, List.set_cons_zero, List.set_cons_succ, List.replicate_succ, List.replicate_zero, Nat.reduceSub, Nat.reduceAdd, Nat.reduceLT, Option.isSome_some, true_and, and_true, ne_eq, not_false_eq_true, reduceCtorEq, if_true, if_false, Bool.false_eq_true, decide_eq_true_eq, List.mem_cons, List.not_mem_nil, or_self, or_false, false_or]
              exact hno (by omega)
          · simp -dsimp only [h0, h1, decide_true, decide_false, Bool.not_true, Bool.not_false, sSeq, sAsg, sRet, sIf, sExp, sFor_eq, sPar2, sPar3, sSetI_eq, sAug_eq, slotA_d, sSetG_eq, sRetG, sGL, sGP, sNil, sBrk, sCnt, sNo, eName_eq, slotE_d, slotE_gen, slotE_scr, slotE_own, eC, eOp, eUn, eSc, eScL, eScR, eCh, eAnd, eOr, eNot, eIf, eTup, eLst, eCB, eIx, eIxN, eSl, eSlN, eSlS, eAddN, eLenN, eApp, eExt, ePop, eCallP_eq, eCallG_eq, eIsi, eGL, eGS, eGC, eGP, aNil, aCons, wB_eq, wTru, wTruN, wAnd, wOr, wNot, wYes, gN, gT_d, gL_own, gL_d, gsC, gsN, oNone, oSome_eq, asI_i, iLst, iTpl, iRg1, iRg2, iEnm, iEnmT, iZp, iScr, eLc_eq, hasD, slotD_eq, slotK_d, slotK_own, ownD_eq, slotO_own, isOwn, scrD, putE, asDs, asD_d, asD_own, argR_d, argR_own, argR_gen, argR_scr, asL_own, asL_d, asT_d, asB_d, sub_i, iadd_i, mul_i, fdiv_i, mod_i, pow_i, lt_i, le_i, gt_i, ge_i, add_i, add_l, add_t, cat_i, cat_l, cat_t, neg_i, eqf_i, eqt_i, lenC_l, lenC_t, absC_i, intC_i, tupC_l, tupC_t, max2C_i, min2C_i, lenC_s, reprC_b, reprA_b, reprA_i, reprA_t, reprC_i, eqf_rb, eqt_rb, eqt_ri, slD_t, max3C_i, ixt0, ixt1, ixt2, ixt3, ixl0, ixl1, ixtl, ixll, truD, lenD, startC, endP, List.map_cons, List.map_nil, List.length_cons, List.length_nil, List.cons_append, List.nil_append, List.getElem?_cons_zero, List.getElem?_cons_succ, List.set_cons_zero, List.set_cons_succ, List.replicate_succ, List.replicate_zero, Nat.reduceSub, Nat.reduceAdd, Nat.reduceLT, Option.isSome_some, true_and, and_true, ne_eq, not_false_eq_true, reduceCtorEq, if_true, if_false, Bool.false_eq_true, decide_eq_true_eq, List.mem_cons, List.not_mem_nil, or_self, or_false, false_or]
            exact hno (by omega)
        · simp -dsimp only [h0, decide_false, Bool.not_false, sSeq, sAsg, sRet, sIf, sExp, sFor_eq, sPar2, sPar3, sSetI_eq, sAug_eq, slotA_d, sSetG_eq, sRetG, sGL, sGP, sNil, sBrk, sCnt, sNo, eName_eq, slotE_d, slotE_gen, slotE_scr, slotE_own, eC, eOp, eUn, eSc, eScL, eScR, eCh, eAnd, eOr, eNot, eIf, eTup, eLst, eCB, eIx, eIxN, eSl, eSlN, eSlS, eAddN, eLenN, eApp, eExt, ePop, eCallP_eq, eCallG_eq, eIsi, eGL, eGS, eGC, eGP, aNil, aCons, wB_eq, wTru, wTruN, wAnd, wOr, wNot, wYes, gN, gT_d, gL_own, gL_d, gsC, gsN, oNone, oSome_eq, asI_i, iLst, iTpl, iRg1, iRg2, iEnm, iEnmT, iZp, iScr, eLc_eq, hasD, slotD_eq, slotK_d, slotK_own, ownD_eq, slotO_own, isOwn, scrD, putE, asDs, asD_d, asD_own, argR_d, argR_own, argR_gen, argR_scr, asL_own, asL_d, asT_d, asB_d, sub_i, iadd_i, mul_i, fdiv_i, mod_i, pow_i, lt_i, le_i, gt_i, ge_i, add_i, add_l, add_t, cat_i, cat_l, cat_t, neg_i, eqf_i, eqt_i, lenC_l, lenC_t, absC_i, intC_i, tupC_l, tupC_t, max2C_i, min2C_i, lenC_s, reprC_b, reprA_b, reprA_i, reprA_t, reprC_i, eqf_rb, eqt_rb, eqt_ri, slD_t, max3C_i, ixt0, ixt1, ixt2, ixt3, ixl0, ixl1, ixtl, ixll, truD, lenD, startC, endP, List.map_cons, List.map_nil, List.length_cons, List.length_nil, List.cons_append, List.nil_append, List.getElem?_cons_zero, List.getElem?_cons_succ, List.set_cons_zero, List.set_cons_succ, List.replicate_succ, List.replicate_zero, Nat.reduceSub, Nat.reduceAdd, Nat.reduceLT, Option.isSome_some, true_and, and_true, ne_eq, not_false_eq_true, reduceCtorEq, if_true, if_false, Bool.false_eq_true, decide_eq_true_eq, List.mem_cons, List.not_mem_nil, or_self, or_false, false_or]
          exact hno (by omega)
abbrev Cis_web : Cn := fun rs g Q => ∃ x, rs = [.d x] ∧ Nice x ∧ Q (.d (.bool (webB x))) g
def wis_web : WS :=
  (sSeq (sIf (wNot (wTru (eCallP Cis_tuple_of (aCons (eName 0) (aCons (eC (.int 2)) aNil))))) (sRet (eC (.bool false))) sNil)
  (sSeq (sAsg (eName 0) (gT 2 (gsCons (gN 1) (gsCons (gN 2) gsNil))))
  (sSeq (sIf (wOr (wNot (wTru (eCallP Cis_integer_from (aCons (eName 1) (aCons (eC (.int 1)) (aCons (eC (.int 5)) aNil)))))) (wNot (wTru (eCallP Cis_tuple_up_to (aCons (eName 2) (aCons (eC (.int 7)) aNil)))))) (sRet (eC (.bool false))) sNil)
  (sRet (eCB allC (aCons (eLc (iTpl (eName 2)) (gN 3) wYes (eCallP Cis_tie (aCons (eName 1) (aCons (eName 3) aNil))) [3]) aNil))))))
theorem lenis_web (rs : List Rv) (g : Option Nat) (Q : Rv → Option Nat → Prop) (h : Cis_web rs g Q) : rs.length = 1 := by
  obtain ⟨_, rfl, _⟩ := h
  rfl
theorem tup2 {x : Px} (hx : Nice x) (h : tupN 2 x = true) : ∃ a b, x = .tuple [a, b] ∧ Nice a ∧ Nice b := by
  cases hx with
  | tup hs =>
    rename_i xs
    match xs, hs, h with
    | [a, b], hs, _ => exact ⟨a, b, rfl, hs a (by simp), hs b (by simp)⟩
    | [], _, h => simp [tupN] at h
    | [a], _, h => simp [tupN] at h
    | a :: b :: c :: l, _, h =>
      simp only [tupN, List.length_cons, beq_iff_eq] at h
      omega
  | _ => cases h
theorem webB_not {x : Px} (h : tupN 2 x = false) : webB x = false := by
  unfold webB
  split
  · simp [tupN] at h
  · rfl
theorem webB_room {a b : Px} (h : inR 1 5 a = false) : webB (.tuple [a, b]) = false := by
  unfold webB
  split
  · rename_i e
    cases e
    rw [h]
    rfl
  · rfl
theorem webB_ties {a b : Px} (h : tupU 7 b = false) : webB (.tuple [a, b]) = false := by
  unfold webB
  split
  · rename_i e
    cases e
    simp only [tupU] at h
    rw [h]
    simp
  · rfl
theorem all_map (l : List Px) (f : Px → Bool) : (l.map f).all id = l.all f := by simp [List.all_map, Function.comp]
theorem all_of {bs : List Bool} {P : Rv → Prop} (h : P (.d (.bool (bs.all id)))) : allC [.d (.list (bs.map .bool))] P := ⟨bs, rfl, h⟩
theorem specis_web (rs : List Rv) (g : Option Nat) (Q : Rv → Option Nat → Prop) (h : Cis_web rs g Q) : wis_web (startC 4 rs g) (endP Q) fun _ _ => False := by
  obtain ⟨x, rfl, hx, hQ⟩ := h
  simp -dsimp only [wis_web, sSeq, sAsg, sRet, sIf, sExp, sFor_eq, sPar2, sPar3, sSetI_eq, sAug_eq, slotA_d, sSetG_eq, sRetG, sGL, sGP, sNil, sBrk, sCnt, sNo, eName_eq, slotE_d, slotE_gen, slotE_scr, slotE_own, eC, eOp, eUn, eSc, eScL, eScR, eCh, eAnd, eOr, eNot, eIf, eTup, eLst, eCB, eIx, eIxN, eSl, eSlN, eSlS, eAddN, eLenN, eApp, eExt, ePop, eCallP_eq, eCallG_eq, eIsi, eGL, eGS, eGC, eGP, aNil, aCons, wB_eq, wTru, wTruN, wAnd, wOr, wNot, wYes, gN, gT_d, gL_own, gL_d, gsC, gsN, oNone, oSome_eq, asI_i, iLst, iTpl, iRg1, iRg2, iEnm, iEnmT, iZp, iScr, eLc_eq, hasD, slotD_eq, slotK_d, slotK_own, ownD_eq, slotO_own, isOwn, scrD, putE, asDs, asD_d, asD_own, argR_d, argR_own, argR_gen, argR_scr, asL_own, asL_d, asT_d, asB_d, sub_i, iadd_i, mul_i, fdiv_i, mod_i, pow_i, lt_i, le_i, gt_i, ge_i, add_i, add_l, add_t, cat_i, cat_l, cat_t, neg_i, eqf_i, eqt_i, lenC_l, lenC_t, absC_i, intC_i, tupC_l, tupC_t, max2C_i, min2C_i, lenC_s, reprC_b, reprA_b, reprA_i, reprA_t, reprC_i, eqf_rb, eqt_rb, eqt_ri, slD_t, max3C_i, ixt0, ixt1, ixt2, ixt3, ixl0, ixl1, ixtl, ixll, truD, lenD, startC, endP, List.map_cons, List.map_nil, List.length_cons, List.length_nil, List.cons_append, List.nil_append, List.getElem?_cons_zero, List.getElem?_cons_succ, List.set_cons_zero, List.set_cons_succ, List.replicate_succ, List.replicate_zero, Nat.reduceSub, Nat.reduceAdd, Nat.reduceLT, Option.isSome_some, true_and, and_true, ne_eq, not_false_eq_true, reduceCtorEq, if_true, if_false, Bool.false_eq_true, decide_eq_true_eq, List.mem_cons, List.not_mem_nil, or_self, or_false, false_or]
  refine ⟨x, 2, rfl, hx, ?_⟩
  try simp -dsimp only [sSeq, sAsg, sRet, sIf, sExp, sFor_eq, sPar2, sPar3, sSetI_eq, sAug_eq, slotA_d, sSetG_eq, sRetG, sGL, sGP, sNil, sBrk, sCnt, sNo, eName_eq, slotE_d, slotE_gen, slotE_scr, slotE_own, eC, eOp, eUn, eSc, eScL, eScR, eCh, eAnd, eOr, eNot, eIf, eTup, eLst, eCB, eIx, eIxN, eSl, eSlN, eSlS, eAddN, eLenN, eApp, eExt, ePop, eCallP_eq, eCallG_eq, eIsi, eGL, eGS, eGC, eGP, aNil, aCons, wB_eq, wTru, wTruN, wAnd, wOr, wNot, wYes, gN, gT_d, gL_own, gL_d, gsC, gsN, oNone, oSome_eq, asI_i, iLst, iTpl, iRg1, iRg2, iEnm, iEnmT, iZp, iScr, eLc_eq, hasD, slotD_eq, slotK_d, slotK_own, ownD_eq, slotO_own, isOwn, scrD, putE, asDs, asD_d, asD_own, argR_d, argR_own, argR_gen, argR_scr, asL_own, asL_d, asT_d, asB_d, sub_i, iadd_i, mul_i, fdiv_i, mod_i, pow_i, lt_i, le_i, gt_i, ge_i, add_i, add_l, add_t, cat_i, cat_l, cat_t, neg_i, eqf_i, eqt_i, lenC_l, lenC_t, absC_i, intC_i, tupC_l, tupC_t, max2C_i, min2C_i, lenC_s, reprC_b, reprA_b, reprA_i, reprA_t, reprC_i, eqf_rb, eqt_rb, eqt_ri, slD_t, max3C_i, ixt0, ixt1, ixt2, ixt3, ixl0, ixl1, ixtl, ixll, truD, lenD, startC, endP, List.map_cons, List.map_nil, List.length_cons, List.length_nil, List.cons_append, List.nil_append, List.getElem?_cons_zero, List.getElem?_cons_succ, List.set_cons_zero, List.set_cons_succ, List.replicate_succ, List.replicate_zero, Nat.reduceSub, Nat.reduceAdd, Nat.reduceLT, Option.isSome_some, true_and, and_true, ne_eq, not_false_eq_true, reduceCtorEq, if_true, if_false, Bool.false_eq_true, decide_eq_true_eq, List.mem_cons, List.not_mem_nil, or_self, or_false, false_or]
  cases hb : tupN 2 x
  · rw [webB_not hb] at hQ
    simpa using hQ
  · obtain ⟨a, b, rfl, ha, hb'⟩ := tup2 hx hb
    simp -dsimp only [Bool.not_true, sSeq, sAsg, sRet, sIf, sExp, sFor_eq, sPar2, sPar3, sSetI_eq, sAug_eq, slotA_d, sSetG_eq, sRetG, sGL, sGP, sNil, sBrk, sCnt, sNo, eName_eq, slotE_d, slotE_gen, slotE_scr, slotE_own, eC, eOp, eUn, eSc, eScL, eScR, eCh, eAnd, eOr, eNot, eIf, eTup, eLst, eCB, eIx, eIxN, eSl, eSlN, eSlS, eAddN, eLenN, eApp, eExt, ePop, eCallP_eq, eCallG_eq, eIsi, eGL, eGS, eGC, eGP, aNil, aCons, wB_eq, wTru, wTruN, wAnd, wOr, wNot, wYes, gN, gT_d, gL_own, gL_d, gsC, gsN, oNone, oSome_eq, asI_i, iLst, iTpl, iRg1, iRg2, iEnm, iEnmT, iZp, iScr, eLc_eq, hasD, slotD_eq, slotK_d, slotK_own, ownD_eq, slotO_own, isOwn, scrD, putE, asDs, asD_d, asD_own, argR_d, argR_own, argR_gen, argR_scr, asL_own, asL_d, asT_d, asB_d, sub_i, iadd_i, mul_i, fdiv_i, mod_i, pow_i, lt_i, le_i, gt_i, ge_i, add_i, add_l, add_t, cat_i, cat_l, cat_t, neg_i, eqf_i, eqt_i, lenC_l, lenC_t, absC_i, intC_i, tupC_l, tupC_t, max2C_i, min2C_i, lenC_s, reprC_b, reprA_b, reprA_i, reprA_t, reprC_i, eqf_rb, eqt_rb, eqt_ri, slD_t, max3C_i, ixt0, ixt1, ixt2, ixt3, ixl0, ixl1, ixtl, ixll, truD, lenD, startC, endP, List.map_cons, List.map_nil, List.length_cons, List.length_nil, List.cons_append, List.nil_append, List.getElem?_cons_zero, List.getElem?_cons_succ, List.set_cons_zero, List.set_cons_succ, List.replicate_succ, List.replicate_zero, Nat.reduceSub, Nat.reduceAdd, Nat.reduceLT, Option.isSome_some, true_and, and_true, ne_eq, not_false_eq_true, reduceCtorEq, if_true, if_false, Bool.false_eq_true, decide_eq_true_eq, List.mem_cons, List.not_mem_nil, or_self, or_false, false_or]
    refine ⟨a, 1, 5, rfl, ha, ?_⟩
    try simp -dsimp only [sSeq, sAsg, sRet, sIf, sExp, sFor_eq, sPar2, sPar3, sSetI_eq, sAug_eq, slotA_d, sSetG_eq, sRetG, sGL, sGP, sNil, sBrk, sCnt, sNo, eName_eq, slotE_d, slotE_gen, slotE_scr, slotE_own, eC, eOp, eUn, eSc, eScL, eScR, eCh, eAnd, eOr, eNot, eIf, eTup, eLst, eCB, eIx, eIxN, eSl, eSlN, eSlS, eAddN, eLenN, eApp, eExt, ePop, eCallP_eq, eCallG_eq, eIsi, eGL, eGS, eGC, eGP, aNil, aCons, wB_eq, wTru, wTruN, wAnd, wOr, wNot, wYes, gN, gT_d, gL_own, gL_d, gsC, gsN, oNone, oSome_eq, asI_i, iLst, iTpl, iRg1, iRg2, iEnm, iEnmT, iZp, iScr, eLc_eq, hasD, slotD_eq, slotK_d, slotK_own, ownD_eq, slotO_own, isOwn, scrD, putE, asDs, asD_d, asD_own, argR_d, argR_own, argR_gen, argR_scr, asL_own, asL_d, asT_d, asB_d, sub_i, iadd_i, mul_i, fdiv_i, mod_i, pow_i, lt_i, le_i, gt_i, ge_i, add_i, add_l, add_t, cat_i, cat_l, cat_t, neg_i, eqf_i, eqt_i, lenC_l, lenC_t, absC_i, intC_i, tupC_l, tupC_t, max2C_i, min2C_i, lenC_s, reprC_b, reprA_b, reprA_i, reprA_t, reprC_i, eqf_rb, eqt_rb, eqt_ri, slD_t, max3C_i, ixt0, ixt1, ixt2, ixt3, ixl0, ixl1, ixtl, ixll, truD, lenD, startC, endP, List.map_cons, List.map_nil, List.length_cons, List.length_nil, List.cons_append, List.nil_append, List.getElem?_cons_zero, List.getElem?_cons_succ, List.set_cons_zero, List.set_cons_succ, List.replicate_succ, List.replicate_zero, Nat.reduceSub, Nat.reduceAdd, Nat.reduceLT, Option.isSome_some, true_and, and_true, ne_eq, not_false_eq_true, reduceCtorEq, if_true, if_false, Bool.false_eq_true, decide_eq_true_eq, List.mem_cons, List.not_mem_nil, or_self, or_false, false_or]
    cases h1 : inR 1 5 a
    · rw [webB_room h1] at hQ
      simp -dsimp only [Bool.not_false, sSeq, sAsg, sRet, sIf, sExp, sFor_eq, sPar2, sPar3, sSetI_eq, sAug_eq, slotA_d, sSetG_eq, sRetG, sGL, sGP, sNil, sBrk, sCnt, sNo, eName_eq, slotE_d, slotE_gen, slotE_scr, slotE_own, eC, eOp, eUn, eSc, eScL, eScR, eCh, eAnd, eOr, eNot, eIf, eTup, eLst, eCB, eIx, eIxN, eSl, eSlN, eSlS, eAddN, eLenN, eApp, eExt, ePop, eCallP_eq, eCallG_eq, eIsi, eGL, eGS, eGC, eGP, aNil, aCons, wB_eq, wTru, wTruN, wAnd, wOr, wNot, wYes, gN, gT_d, gL_own, gL_d, gsC, gsN, oNone, oSome_eq, asI_i, iLst, iTpl, iRg1, iRg2, iEnm, iEnmT, iZp, iScr, eLc_eq, hasD, slotD_eq, slotK_d, slotK_own, ownD_eq, slotO_own, isOwn, scrD, putE, asDs, asD_d, asD_own, argR_d, argR_own, argR_gen, argR_scr, asL_own, asL_d, asT_d, asB_d, sub_i, iadd_i, mul_i, fdiv_i, mod_i, pow_i, lt_i, le_i, gt_i, ge_i, add_i, add_l, add_t, cat_i, cat_l, cat_t, neg_i, eqf_i, eqt_i, lenC_l, lenC_t, absC_i, intC_i, tupC_l, tupC_t, max2C_i, min2C_i, lenC_s, reprC_b, reprA_b, reprA_i, reprA_t, reprC_i, eqf_rb, eqt_rb, eqt_ri, slD_t, max3C_i, ixt0, ixt1, ixt2, ixt3, ixl0, ixl1, ixtl, ixll, truD, lenD, startC, endP, List.map_cons, List.map_nil, List.length_cons, List.length_nil, List.cons_append, List.nil_append, List.getElem?_cons_zero, List.getElem?_cons_succ, List.set_cons_zero, List.set_cons_succ, List.replicate_succ, List.replicate_zero, Nat.reduceSub, Nat.reduceAdd, Nat.reduceLT, Option.isSome_some, true_and, and_true, ne_eq, not_false_eq_true, reduceCtorEq, if_true, if_false, Bool.false_eq_true, decide_eq_true_eq, List.mem_cons, List.not_mem_nil, or_self, or_false, false_or]
      exact hQ
    · obtain ⟨n, rfl⟩ := int_of (inR_int h1)
      simp -dsimp only [Bool.not_true, sSeq, sAsg, sRet, sIf, sExp, sFor_eq, sPar2, sPar3, sSetI_eq, sAug_eq, slotA_d, sSetG_eq, sRetG, sGL, sGP, sNil, sBrk, sCnt, sNo, eName_eq, slotE_d, slotE_gen, slotE_scr, slotE_own, eC, eOp, eUn, eSc, eScL, eScR, eCh, eAnd, eOr, eNot, eIf, eTup, eLst, eCB, eIx, eIxN, eSl, eSlN, eSlS, eAddN, eLenN, eApp, eExt, ePop, eCallP_eq, eCallG_eq, eIsi, eGL, eGS, eGC, eGP, aNil, aCons, wB_eq, wTru, wTruN, wAnd, wOr, wNot, wYes, gN, gT_d, gL_own, gL_d, gsC, gsN, oNone, oSome_eq, asI_i, iLst, iTpl, iRg1, iRg2, iEnm, iEnmT, iZp, iScr, eLc_eq, hasD, slotD_eq, slotK_d, slotK_own, ownD_eq, slotO_own, isOwn, scrD, putE, asDs, asD_d, asD_own, argR_d, argR_own, argR_gen, argR_scr, asL_own, asL_d, asT_d, asB_d, sub_i, iadd_i, mul_i, fdiv_i, mod_i, pow_i, lt_i, le_i, gt_i, ge_i, add_i, add_l, add_t, cat_i, cat_l, cat_t, neg_i, eqf_i, eqt_i, lenC_l, lenC_t, absC_i, intC_i, tupC_l, tupC_t, max2C_i, min2C_i, lenC_s, reprC_b, reprA_b, reprA_i, reprA_t, reprC_i, eqf_rb, eqt_rb, eqt_ri, slD_t, max3C_i, ixt0, ixt1, ixt2, ixt3, ixl0, ixl1, ixtl, ixll, truD, lenD, startC, endP, List.map_cons, List.map_nil, List.length_cons, List.length_nil, List.cons_append, List.nil_append, List.getElem?_cons_zero, List.getElem?_cons_succ, List.set_cons_zero, List.set_cons_succ, List.replicate_succ, List.replicate_zero, Nat.reduceSub, Nat.reduceAdd, Nat.reduceLT, Option.isSome_some, true_and, and_true, ne_eq, not_false_eq_true, reduceCtorEq, if_true, if_false, Bool.false_eq_true, decide_eq_true_eq, List.mem_cons, List.not_mem_nil, or_self, or_false, false_or]
      refine ⟨b, 7, rfl, hb', ?_⟩
      try simp -dsimp only [sSeq, sAsg, sRet, sIf, sExp, sFor_eq, sPar2, sPar3, sSetI_eq, sAug_eq, slotA_d, sSetG_eq, sRetG, sGL, sGP, sNil, sBrk, sCnt, sNo, eName_eq, slotE_d, slotE_gen, slotE_scr, slotE_own, eC, eOp, eUn, eSc, eScL, eScR, eCh, eAnd, eOr, eNot, eIf, eTup, eLst, eCB, eIx, eIxN, eSl, eSlN, eSlS, eAddN, eLenN, eApp, eExt, ePop, eCallP_eq, eCallG_eq, eIsi, eGL, eGS, eGC, eGP, aNil, aCons, wB_eq, wTru, wTruN, wAnd, wOr, wNot, wYes, gN, gT_d, gL_own, gL_d, gsC, gsN, oNone, oSome_eq, asI_i, iLst, iTpl, iRg1, iRg2, iEnm, iEnmT, iZp, iScr, eLc_eq, hasD, slotD_eq, slotK_d, slotK_own, ownD_eq, slotO_own, isOwn, scrD, putE, asDs, asD_d, asD_own, argR_d, argR_own, argR_gen, argR_scr, asL_own, asL_d, asT_d, asB_d, sub_i, iadd_i, mul_i, fdiv_i, mod_i, pow_i, lt_i, le_i, gt_i, ge_i, add_i, add_l, add_t, cat_i, cat_l, cat_t, neg_i, eqf_i, eqt_i, lenC_l, lenC_t, absC_i, intC_i, tupC_l, tupC_t, max2C_i, min2C_i, lenC_s, reprC_b, reprA_b, reprA_i, reprA_t, reprC_i, eqf_rb, eqt_rb, eqt_ri, slD_t, max3C_i, ixt0, ixt1, ixt2, ixt3, ixl0, ixl1, ixtl, ixll, truD, lenD, startC, endP, List.map_cons, List.map_nil, List.length_cons, List.length_nil, List.cons_append, List.nil_append, List.getElem?_cons_zero, List.getElem?_cons_succ, List.set_cons_zero, List.set_cons_succ, List.replicate_succ, List.replicate_zero, Nat.reduceSub, Nat.reduceAdd, Nat.reduceLT, Option.isSome_some, true_and, and_true, ne_eq, not_false_eq_true, reduceCtorEq, if_true, if_false, Bool.false_eq_true, decide_eq_true_eq, List.mem_cons, List.not_mem_nil, or_self, or_false, false_or]
      cases h2 : tupU 7 b
      · rw [webB_ties h2] at hQ
        simp -dsimp only [Bool.not_false, sSeq, sAsg, sRet, sIf, sExp, sFor_eq, sPar2, sPar3, sSetI_eq, sAug_eq, slotA_d, sSetG_eq, sRetG, sGL, sGP, sNil, sBrk, sCnt, sNo, eName_eq, slotE_d, slotE_gen, slotE_scr, slotE_own, eC, eOp, eUn, eSc, eScL, eScR, eCh, eAnd, eOr, eNot, eIf, eTup, eLst, eCB, eIx, eIxN, eSl, eSlN, eSlS, eAddN, eLenN, eApp, eExt, ePop, eCallP_eq, eCallG_eq, eIsi, eGL, eGS, eGC, eGP, aNil, aCons, wB_eq, wTru, wTruN, wAnd, wOr, wNot, wYes, gN, gT_d, gL_own, gL_d, gsC, gsN, oNone, oSome_eq, asI_i, iLst, iTpl, iRg1, iRg2, iEnm, iEnmT, iZp, iScr, eLc_eq, hasD, slotD_eq, slotK_d, slotK_own, ownD_eq, slotO_own, isOwn, scrD, putE, asDs, asD_d, asD_own, argR_d, argR_own, argR_gen, argR_scr, asL_own, asL_d, asT_d, asB_d, sub_i, iadd_i, mul_i, fdiv_i, mod_i, pow_i, lt_i, le_i, gt_i, ge_i, add_i, add_l, add_t, cat_i, cat_l, cat_t, neg_i, eqf_i, eqt_i, lenC_l, lenC_t, absC_i, intC_i, tupC_l, tupC_t, max2C_i, min2C_i, lenC_s, reprC_b, reprA_b, reprA_i, reprA_t, reprC_i, eqf_rb, eqt_rb, eqt_ri, slD_t, max3C_i, ixt0, ixt1, ixt2, ixt3, ixl0, ixl1, ixtl, ixll, truD, lenD, startC, endP, List.map_cons, List.map_nil, List.length_cons, List.length_nil, List.cons_append, List.nil_append, List.getElem?_cons_zero, List.getElem?_cons_succ, List.set_cons_zero, List.set_cons_succ, List.replicate_succ, List.replicate_zero, Nat.reduceSub, Nat.reduceAdd, Nat.reduceLT, Option.isSome_some, true_and, and_true, ne_eq, not_false_eq_true, reduceCtorEq, if_true, if_false, Bool.false_eq_true, decide_eq_true_eq, List.mem_cons, List.not_mem_nil, or_self, or_false, false_or]
        exact hQ
      · cases b with
        | tuple ts =>
          have hts : ∀ t ∈ ts, Nice t := by cases hb' with | tup h => exact h
          have h3 : decide ((ts.length : Int) ≤ 7) = true := h2
          have hlt : (ts.length : Int) ≤ 7 := of_decide_eq_true h3
          simp -dsimp only [Bool.not_true, sSeq, sAsg, sRet, sIf, sExp, sFor_eq, sPar2, sPar3, sSetI_eq, sAug_eq, slotA_d, sSetG_eq, sRetG, sGL, sGP, sNil, sBrk, sCnt, sNo, eName_eq, slotE_d, slotE_gen, slotE_scr, slotE_own, eC, eOp, eUn, eSc, eScL, eScR, eCh, eAnd, eOr, eNot, eIf, eTup, eLst, eCB, eIx, eIxN, eSl, eSlN, eSlS, eAddN, eLenN, eApp, eExt, ePop, eCallP_eq, eCallG_eq, eIsi, eGL, eGS, eGC, eGP, aNil, aCons, wB_eq, wTru, wTruN, wAnd, wOr, wNot, wYes, gN, gT_d, gL_own, gL_d, gsC, gsN, oNone, oSome_eq, asI_i, iLst, iTpl, iRg1, iRg2, iEnm, iEnmT, iZp, iScr, eLc_eq, hasD, slotD_eq, slotK_d, slotK_own, ownD_eq, slotO_own, isOwn, scrD, putE, asDs, asD_d, asD_own, argR_d, argR_own, argR_gen, argR_scr, asL_own, asL_d, asT_d, asB_d, sub_i, iadd_i, mul_i, fdiv_i, mod_i, pow_i, lt_i, le_i, gt_i, ge_i, add_i, add_l, add_t, cat_i, cat_l, cat_t, neg_i, eqf_i, eqt_i, lenC_l, lenC_t, absC_i, intC_i, tupC_l, tupC_t, max2C_i, min2C_i, lenC_s, reprC_b, reprA_b, reprA_i, reprA_t, reprC_i, eqf_rb, eqt_rb, eqt_ri, slD_t, max3C_i, ixt0, ixt1, ixt2, ixt3, ixl0, ixl1, ixtl, ixll, truD, lenD, startC, endP, List.map_cons, List.map_nil, List.length_cons, List.length_nil, List.cons_append, List.nil_append, List.getElem?_cons_zero, List.getElem?_cons_succ, List.set_cons_zero, List.set_cons_succ, List.replicate_succ, List.replicate_zero, Nat.reduceSub, Nat.reduceAdd, Nat.reduceLT, Option.isSome_some, true_and, and_true, ne_eq, not_false_eq_true, reduceCtorEq, if_true, if_false, Bool.false_eq_true, decide_eq_true_eq, List.mem_cons, List.not_mem_nil, or_self, or_false, false_or]
          refine ⟨by simp [nown], ?_⟩
          refine lcW_map (fun t => .bool (tieB n t)) ts (fun t ht R S hR => ?_) (by omega) ?_
          · simp -dsimp only [Turn1, wipeE, sSeq, sAsg, sRet, sIf, sExp, sFor_eq, sPar2, sPar3, sSetI_eq, sAug_eq, slotA_d, sSetG_eq, sRetG, sGL, sGP, sNil, sBrk, sCnt, sNo, eName_eq, slotE_d, slotE_gen, slotE_scr, slotE_own, eC, eOp, eUn, eSc, eScL, eScR, eCh, eAnd, eOr, eNot, eIf, eTup, eLst, eCB, eIx, eIxN, eSl, eSlN, eSlS, eAddN, eLenN, eApp, eExt, ePop, eCallP_eq, eCallG_eq, eIsi, eGL, eGS, eGC, eGP, aNil, aCons, wB_eq, wTru, wTruN, wAnd, wOr, wNot, wYes, gN, gT_d, gL_own, gL_d, gsC, gsN, oNone, oSome_eq, asI_i, iLst, iTpl, iRg1, iRg2, iEnm, iEnmT, iZp, iScr, eLc_eq, hasD, slotD_eq, slotK_d, slotK_own, ownD_eq, slotO_own, isOwn, scrD, putE, asDs, asD_d, asD_own, argR_d, argR_own, argR_gen, argR_scr, asL_own, asL_d, asT_d, asB_d, sub_i, iadd_i, mul_i, fdiv_i, mod_i, pow_i, lt_i, le_i, gt_i, ge_i, add_i, add_l, add_t, cat_i, cat_l, cat_t, neg_i, eqf_i, eqt_i, lenC_l, lenC_t, absC_i, intC_i, tupC_l, tupC_t, max2C_i, min2C_i, lenC_s, reprC_b, reprA_b, reprA_i, reprA_t, reprC_i, eqf_rb, eqt_rb, eqt_ri, slD_t, max3C_i, ixt0, ixt1, ixt2, ixt3, ixl0, ixl1, ixtl, ixll, truD, lenD, startC, endP, List.map_cons, List.map_nil, List.length_cons, List.length_nil, List.cons_append, List.nil_append, List.getElem?_cons_zero, List.getElem?_cons_succ, List.set_cons_zero, List.set_cons_succ, List.replicate_succ, List.replicate_zero, Nat.reduceSub, Nat.reduceAdd, Nat.reduceLT, Option.isSome_some, true_and, and_true, ne_eq, not_false_eq_true, reduceCtorEq, if_true, if_false, Bool.false_eq_true, decide_eq_true_eq, List.mem_cons, List.not_mem_nil, or_self, or_false, false_or]
            refine ⟨n, t, rfl, hts t ht, ?_⟩
            try simp -dsimp only [sSeq, sAsg, sRet, sIf, sExp, sFor_eq, sPar2, sPar3, sSetI_eq, sAug_eq, slotA_d, sSetG_eq, sRetG, sGL, sGP, sNil, sBrk, sCnt, sNo, eName_eq, slotE_d, slotE_gen, slotE_scr, slotE_own, eC, eOp, eUn, eSc, eScL, eScR, eCh, eAnd, eOr, eNot, eIf, eTup, eLst, eCB, eIx, eIxN, eSl, eSlN, eSlS, eAddN, eLenN, eApp, eExt, ePop, eCallP_eq, eCallG_eq, eIsi, eGL, eGS, eGC, eGP, aNil, aCons, wB_eq, wTru, wTruN, wAnd, wOr, wNot, wYes, gN, gT_d, gL_own, gL_d, gsC, gsN, oNone, oSome_eq, asI_i, iLst, iTpl, iRg1, iRg2, iEnm, iEnmT, iZp, iScr, eLc_eq, hasD, slotD_eq, slotK_d, slotK_own, ownD_eq, slotO_own, isOwn, scrD, putE, asDs, asD_d, asD_own, argR_d, argR_own, argR_gen, argR_scr, asL_own, asL_d, asT_d, asB_d, sub_i, iadd_i, mul_i, fdiv_i, mod_i, pow_i, lt_i, le_i, gt_i, ge_i, add_i, add_l, add_t, cat_i, cat_l, cat_t, neg_i, eqf_i, eqt_i, lenC_l, lenC_t, absC_i, intC_i, tupC_l, tupC_t, max2C_i, min2C_i, lenC_s, reprC_b, reprA_b, reprA_i, reprA_t, reprC_i, eqf_rb, eqt_rb, eqt_ri, slD_t, max3C_i, ixt0, ixt1, ixt2, ixt3, ixl0, ixl1, ixtl, ixll, truD, lenD, startC, endP, List.map_cons, List.map_nil, List.length_cons, List.length_nil, List.cons_append, List.nil_append, List.getElem?_cons_zero, List.getElem?_cons_succ, List.set_cons_zero, List.set_cons_succ, List.replicate_succ, List.replicate_zero, Nat.reduceSub, Nat.reduceAdd, Nat.reduceLT, Option.isSome_some, true_and, and_true, ne_eq, not_false_eq_true, reduceCtorEq, if_true, if_false, Bool.false_eq_true, decide_eq_true_eq, List.mem_cons, List.not_mem_nil, or_self, or_false, false_or]
            exact hR
          try simp -dsimp only [sSeq, sAsg, sRet, sIf, sExp, sFor_eq, sPar2, sPar3, sSetI_eq, sAug_eq, slotA_d, sSetG_eq, sRetG, sGL, sGP, sNil, sBrk, sCnt, sNo, eName_eq, slotE_d, slotE_gen, slotE_scr, slotE_own, eC, eOp, eUn, eSc, eScL, eScR, eCh, eAnd, eOr, eNot, eIf, eTup, eLst, eCB, eIx, eIxN, eSl, eSlN, eSlS, eAddN, eLenN, eApp, eExt, ePop, eCallP_eq, eCallG_eq, eIsi, eGL, eGS, eGC, eGP, aNil, aCons, wB_eq, wTru, wTruN, wAnd, wOr, wNot, wYes, gN, gT_d, gL_own, gL_d, gsC, gsN, oNone, oSome_eq, asI_i, iLst, iTpl, iRg1, iRg2, iEnm, iEnmT, iZp, iScr, eLc_eq, hasD, slotD_eq, slotK_d, slotK_own, ownD_eq, slotO_own, isOwn, scrD, putE, asDs, asD_d, asD_own, argR_d, argR_own, argR_gen, argR_scr, asL_own, asL_d, asT_d, asB_d, sub_i, iadd_i, mul_i, fdiv_i, mod_i, pow_i, lt_i, le_i, gt_i, ge_i, add_i, add_l, add_t, cat_i, cat_l, cat_t, neg_i, eqf_i, eqt_i, lenC_l, lenC_t, absC_i, intC_i, tupC_l, tupC_t, max2C_i, min2C_i, lenC_s, reprC_b, reprA_b, reprA_i, reprA_t, reprC_i, eqf_rb, eqt_rb, eqt_ri, slD_t, max3C_i, ixt0, ixt1, ixt2, ixt3, ixl0, ixl1, ixtl, ixll, truD, lenD, startC, endP, List.map_cons, List.map_nil, List.length_cons, List.length_nil, List.cons_append, List.nil_append, List.getElem?_cons_zero, List.getElem?_cons_succ, List.set_cons_zero, List.set_cons_succ, List.replicate_succ, List.replicate_zero, Nat.reduceSub, Nat.reduceAdd, Nat.reduceLT, Option.isSome_some, true_and, and_true, ne_eq, not_false_eq_true, reduceCtorEq, if_true, if_false, Bool.false_eq_true, decide_eq_true_eq, List.mem_cons, List.not_mem_nil, or_self, or_false, false_or]
          rw [show ts.map (fun t => PyData.bool (tieB n t)) = (ts.map (tieB n)).map PyData.bool by simp]
          refine all_of ?_
          rw [all_map]
          simp only [webB, h1, h3, Bool.true_and] at hQ
          exact hQ
        | _ => simp [tupU] at h2
end K

set_option Elab.async false
set_option maxRecDepth 100000
set_option linter.all false
set_option autoImplicit false
set_option maxHeartbeats 4000000
namespace K
open PySem L2 Dl
def badT (n : Int) (x : Px) : Option Px := if tieB n x = true then none else some x
theorem badT_mem {n : Int} {xs : List Px} {y : Px} (h : y ∈ xs.filterMap (badT n)) : y ∈ xs := by
  obtain ⟨x, hx, e⟩ := List.mem_filterMap.mp h
  unfold badT at e
  split at e
  · cases e
  · cases e; exact hx
theorem badT_all (n : Int) : ∀ ts : List Px, (ts.filterMap (badT n)).isEmpty = ts.all (tieB n)
  | [] => rfl
  | t :: ts => by
    have ih := badT_all n ts
    cases h : tieB n t
    · rw [List.filterMap_cons_some (by simp [badT, h]; rfl), List.all_cons, h]
      rfl
    · rw [List.filterMap_cons_none (by simp [badT, h]), List.all_cons, h, ih]
      rfl
abbrev C_law_is_web : Cn := fun rs g Q => ∃ x, rs = [.d x] ∧ (Nice x ∧ Shp 52 x) ∧ Q (.d (.bool (webB x))) g
def w_law_is_web : WS :=
  (sSeq (sIf (wOr (wNot (wTru (eIsi "tuple" (eName 0)))) (wOr (wB (eSc (eqD true) (eLenN 0) (eC (.int 2)))) (wOr (wNot (wTru (eCallP C_law_is_whole (aCons (eIxN 0 (eC (.int 0))) aNil)))) (wNot (wB (eCh leD leD (eC (.int 1)) (eIxN 0 (eC (.int 0))) (eC (.int 5)))))))) (sRet (eC (.bool false))) sNil)
  (sSeq (sIf (wOr (wNot (wTru (eIsi "tuple" (eIxN 0 (eC (.int 1)))))) (wB (eSc gtD (eCB lenC (aCons (eIxN 0 (eC (.int 1))) aNil)) (eC (.int 7))))) (sRet (eC (.bool false))) sNil)
  (sRet (eSc (eqD false) (eLc (iTpl (eIxN 0 (eC (.int 1)))) (gN 1) (wNot (wTru (eCallP C_law_is_tie (aCons (eName 1) (aCons (eIxN 0 (eC (.int 0))) aNil))))) (eName 1) [1]) (eLst aNil)))))
theorem len_law_is_web (rs : List Rv) (g : Option Nat) (Q : Rv → Option Nat → Prop) (h : C_law_is_web rs g Q) : rs.length = 1 := by
  obtain ⟨_, rfl, _⟩ := h
  rfl
theorem spec_law_is_web (rs : List Rv) (g : Option Nat) (Q : Rv → Option Nat → Prop) (h : C_law_is_web rs g Q) : w_law_is_web (startC 2 rs g) (endP Q) fun _ _ => False := by
  obtain ⟨x, rfl, ⟨hx, hs⟩, hQ⟩ := h
  simp -dsimp only [w_law_is_web, sSeq, sAsg, sRet, sIf, sExp, sFor_eq, sPar2, sPar3, sSetI_eq, sAug_eq, slotA_d, sSetG_eq, sRetG, sGL, sGP, sNil, sBrk, sCnt, sNo, eName_eq, slotE_d, slotE_gen, slotE_scr, slotE_own, eC, eOp, eUn, eSc, eScL, eScR, eCh, eAnd, eOr, eNot, eIf, eTup, eLst, eCB, eIx, eIxN, eSl, eSlN, eSlS, eAddN, eLenN, eApp, eExt, ePop, eCallP_eq, eCallG_eq, eIsi, eGL, eGS, eGC, eGP, aNil, aCons, wB_eq, wTru, wTruN, wAnd, wOr, wNot, wYes, gN, gT_d, gL_own, gL_d, gsC, gsN, oNone, oSome_eq, asI_i, iLst, iTpl, iRg1, iRg2, iEnm, iEnmT, iZp, iScr, eLc_eq, hasD, slotD_eq, slotK_d, slotK_own, ownD_eq, slotO_own, isOwn, scrD, putE, asDs, asD_d, asD_own, argR_d, argR_own, argR_gen, argR_scr, asL_own, asL_d, asT_d, asB_d, sub_i, iadd_i, mul_i, fdiv_i, mod_i, pow_i, lt_i, le_i, gt_i, ge_i, add_i, add_l, add_t, cat_i, cat_l, cat_t, neg_i, eqf_i, eqt_i, lenC_l, lenC_t, absC_i, intC_i, tupC_l, tupC_t, max2C_i, min2C_i, lenC_s, reprC_b, reprA_b, reprA_i, reprA_t, reprC_i, eqf_rb, eqt_rb, eqt_ri, slD_t, max3C_i, ixt0, ixt1, ixt2, ixt3, ixl0, ixl1, ixtl, ixll, truD, lenD, startC, endP, List.map_cons, List.map_nil, List.length_cons, List.length_nil, List.cons_append, List.nil_append, List.getElem?_cons_zero, List.getElem?_cons_succ, List.set_cons_zero, List.set_cons_succ, List.replicate_succ, List.replicate_zero, Nat.reduceSub, Nat.reduceAdd, Nat.reduceLT, Option.isSome_some, true_and, and_true, ne_eq, not_false_eq_true, reduceCtorEq, if_true, if_false, Bool.false_eq_true, decide_eq_true_eq, List.mem_cons, List.not_mem_nil, or_self, or_false, false_or]
  refine ⟨(isi_int hx).2.2, ?_⟩
  have hx2 := hx
  cases hx with
  | non => exact hQ
  | bl b => exact hQ
  | str s => exact hQ
  | int i => exact hQ
  | tup hxs =>
    rename_i xs
    simp -dsimp only [show isiD "tuple" (PyData.tuple xs) = true from rfl, Bool.not_true, sSeq, sAsg, sRet, sIf, sExp, sFor_eq, sPar2, sPar3, sSetI_eq, sAug_eq, slotA_d, sSetG_eq, sRetG, sGL, sGP, sNil, sBrk, sCnt, sNo, eName_eq, slotE_d, slotE_gen, slotE_scr, slotE_own, eC, eOp, eUn, eSc, eScL, eScR, eCh, eAnd, eOr, eNot, eIf, eTup, eLst, eCB, eIx, eIxN, eSl, eSlN, eSlS, eAddN, eLenN, eApp, eExt, ePop, eCallP_eq, eCallG_eq, eIsi, eGL, eGS, eGC, eGP, aNil, aCons, wB_eq, wTru, wTruN, wAnd, wOr, wNot, wYes, gN, gT_d, gL_own, gL_d, gsC, gsN, oNone, oSome_eq, asI_i, iLst, iTpl, iRg1, iRg2, iEnm, iEnmT, iZp, iScr, eLc_eq, hasD, slotD_eq, slotK_d, slotK_own, ownD_eq, slotO_own, isOwn, scrD, putE, asDs, asD_d, asD_own, argR_d, argR_own, argR_gen, argR_scr, asL_own, asL_d, asT_d, asB_d, sub_i, iadd_i, mul_i, fdiv_i, mod_i, pow_i, lt_i, le_i, gt_i, ge_i, add_i, add_l, add_t, cat_i, cat_l, cat_t, neg_i, eqf_i, eqt_i, lenC_l, lenC_t, absC_i, intC_i, tupC_l, tupC_t, max2C_i, min2C_i, lenC_s, reprC_b, reprA_b, reprA_i, reprA_t, reprC_i, eqf_rb, eqt_rb, eqt_ri, slD_t, max3C_i, ixt0, ixt1, ixt2, ixt3, ixl0, ixl1, ixtl, ixll, truD, lenD, startC, endP, List.map_cons, List.map_nil, List.length_cons, List.length_nil, List.cons_append, List.nil_append, List.getElem?_cons_zero, List.getElem?_cons_succ, List.set_cons_zero, List.set_cons_succ, List.replicate_succ, List.replicate_zero, Nat.reduceSub, Nat.reduceAdd, Nat.reduceLT, Option.isSome_some, true_and, and_true, ne_eq, not_false_eq_true, reduceCtorEq, if_true, if_false, Bool.false_eq_true, decide_eq_true_eq, List.mem_cons, List.not_mem_nil, or_self, or_false, false_or]
    cases hb : tupN 2 (.tuple xs)
    · rw [webB_not hb] at hQ
      have hb2 : ((xs.length : Int) == 2) = false := hb
      simp -dsimp only [hb2, Bool.not_false, sSeq, sAsg, sRet, sIf, sExp, sFor_eq, sPar2, sPar3, sSetI_eq, sAug_eq, slotA_d, sSetG_eq, sRetG, sGL, sGP, sNil, sBrk, sCnt, sNo, eName_eq, slotE_d, slotE_gen, slotE_scr, slotE_own, eC, eOp, eUn, eSc, eScL, eScR, eCh, eAnd, eOr, eNot, eIf, eTup, eLst, eCB, eIx, eIxN, eSl, eSlN, eSlS, eAddN, eLenN, eApp, eExt, ePop, eCallP_eq, eCallG_eq, eIsi, eGL, eGS, eGC, eGP, aNil, aCons, wB_eq, wTru, wTruN, wAnd, wOr, wNot, wYes, gN, gT_d, gL_own, gL_d, gsC, gsN, oNone, oSome_eq, asI_i, iLst, iTpl, iRg1, iRg2, iEnm, iEnmT, iZp, iScr, eLc_eq, hasD, slotD_eq, slotK_d, slotK_own, ownD_eq, slotO_own, isOwn, scrD, putE, asDs, asD_d, asD_own, argR_d, argR_own, argR_gen, argR_scr, asL_own, asL_d, asT_d, asB_d, sub_i, iadd_i, mul_i, fdiv_i, mod_i, pow_i, lt_i, le_i, gt_i, ge_i, add_i, add_l, add_t, cat_i, cat_l, cat_t, neg_i, eqf_i, eqt_i, lenC_l, lenC_t, absC_i, intC_i, tupC_l, tupC_t, max2C_i, min2C_i, lenC_s, reprC_b, reprA_b, reprA_i, reprA_t, reprC_i, eqf_rb, eqt_rb, eqt_ri, slD_t, max3C_i, ixt0, ixt1, ixt2, ixt3, ixl0, ixl1, ixtl, ixll, truD, lenD, startC, endP, List.map_cons, List.map_nil, List.length_cons, List.length_nil, List.cons_append, List.nil_append, List.getElem?_cons_zero, List.getElem?_cons_succ, List.set_cons_zero, List.set_cons_succ, List.replicate_succ, List.replicate_zero, Nat.reduceSub, Nat.reduceAdd, Nat.reduceLT, Option.isSome_some, true_and, and_true, ne_eq, not_false_eq_true, reduceCtorEq, if_true, if_false, Bool.false_eq_true, decide_eq_true_eq, List.mem_cons, List.not_mem_nil, or_self, or_false, false_or]
      exact hQ
    · have hb2 : ((xs.length : Int) == 2) = true := hb
      obtain ⟨a, b, e, ha, hb'⟩ := tup2 hx2 hb
      cases e
      have hsi := Shp.items (n := 51) hs
      simp -dsimp only [hb2, Bool.not_true, sSeq, sAsg, sRet, sIf, sExp, sFor_eq, sPar2, sPar3, sSetI_eq, sAug_eq, slotA_d, sSetG_eq, sRetG, sGL, sGP, sNil, sBrk, sCnt, sNo, eName_eq, slotE_d, slotE_gen, slotE_scr, slotE_own, eC, eOp, eUn, eSc, eScL, eScR, eCh, eAnd, eOr, eNot, eIf, eTup, eLst, eCB, eIx, eIxN, eSl, eSlN, eSlS, eAddN, eLenN, eApp, eExt, ePop, eCallP_eq, eCallG_eq, eIsi, eGL, eGS, eGC, eGP, aNil, aCons, wB_eq, wTru, wTruN, wAnd, wOr, wNot, wYes, gN, gT_d, gL_own, gL_d, gsC, gsN, oNone, oSome_eq, asI_i, iLst, iTpl, iRg1, iRg2, iEnm, iEnmT, iZp, iScr, eLc_eq, hasD, slotD_eq, slotK_d, slotK_own, ownD_eq, slotO_own, isOwn, scrD, putE, asDs, asD_d, asD_own, argR_d, argR_own, argR_gen, argR_scr, asL_own, asL_d, asT_d, asB_d, sub_i, iadd_i, mul_i, fdiv_i, mod_i, pow_i, lt_i, le_i, gt_i, ge_i, add_i, add_l, add_t, cat_i, cat_l, cat_t, neg_i, eqf_i, eqt_i, lenC_l, lenC_t, absC_i, intC_i, tupC_l, tupC_t, max2C_i, min2C_i, lenC_s, reprC_b, reprA_b, reprA_i, reprA_t, reprC_i, eqf_rb, eqt_rb, eqt_ri, slD_t, max3C_i, ixt0, ixt1, ixt2, ixt3, ixl0, ixl1, ixtl, ixll, truD, lenD, startC, endP, List.map_cons, List.map_nil, List.length_cons, List.length_nil, List.cons_append, List.nil_append, List.getElem?_cons_zero, List.getElem?_cons_succ, List.set_cons_zero, List.set_cons_succ, List.replicate_succ, List.replicate_zero, Nat.reduceSub, Nat.reduceAdd, Nat.reduceLT, Option.isSome_some, true_and, and_true, ne_eq, not_false_eq_true, reduceCtorEq, if_true, if_false, Bool.false_eq_true, decide_eq_true_eq, List.mem_cons, List.not_mem_nil, or_self, or_false, false_or]
      refine ⟨a, rfl, ha, ?_⟩
      try simp -dsimp only [sSeq, sAsg, sRet, sIf, sExp, sFor_eq, sPar2, sPar3, sSetI_eq, sAug_eq, slotA_d, sSetG_eq, sRetG, sGL, sGP, sNil, sBrk, sCnt, sNo, eName_eq, slotE_d, slotE_gen, slotE_scr, slotE_own, eC, eOp, eUn, eSc, eScL, eScR, eCh, eAnd, eOr, eNot, eIf, eTup, eLst, eCB, eIx, eIxN, eSl, eSlN, eSlS, eAddN, eLenN, eApp, eExt, ePop, eCallP_eq, eCallG_eq, eIsi, eGL, eGS, eGC, eGP, aNil, aCons, wB_eq, wTru, wTruN, wAnd, wOr, wNot, wYes, gN, gT_d, gL_own, gL_d, gsC, gsN, oNone, oSome_eq, asI_i, iLst, iTpl, iRg1, iRg2, iEnm, iEnmT, iZp, iScr, eLc_eq, hasD, slotD_eq, slotK_d, slotK_own, ownD_eq, slotO_own, isOwn, scrD, putE, asDs, asD_d, asD_own, argR_d, argR_own, argR_gen, argR_scr, asL_own, asL_d, asT_d, asB_d, sub_i, iadd_i, mul_i, fdiv_i, mod_i, pow_i, lt_i, le_i, gt_i, ge_i, add_i, add_l, add_t, cat_i, cat_l, cat_t, neg_i, eqf_i, eqt_i, lenC_l, lenC_t, absC_i, intC_i, tupC_l, tupC_t, max2C_i, min2C_i, lenC_s, reprC_b, reprA_b, reprA_i, reprA_t, reprC_i, eqf_rb, eqt_rb, eqt_ri, slD_t, max3C_i, ixt0, ixt1, ixt2, ixt3, ixl0, ixl1, ixtl, ixll, truD, lenD, startC, endP, List.map_cons, List.map_nil, List.length_cons, List.length_nil, List.cons_append, List.nil_append, List.getElem?_cons_zero, List.getElem?_cons_succ, List.set_cons_zero, List.set_cons_succ, List.replicate_succ, List.replicate_zero, Nat.reduceSub, Nat.reduceAdd, Nat.reduceLT, Option.isSome_some, true_and, and_true, ne_eq, not_false_eq_true, reduceCtorEq, if_true, if_false, Bool.false_eq_true, decide_eq_true_eq, List.mem_cons, List.not_mem_nil, or_self, or_false, false_or]
      cases hi : isInt a
      · have e : inR 1 5 a = false := by
          cases h : inR 1 5 a with
          | false => rfl
          | true => rw [inR_int h] at hi; cases hi
        rw [webB_room e] at hQ
        simp -dsimp only [Bool.not_false, sSeq, sAsg, sRet, sIf, sExp, sFor_eq, sPar2, sPar3, sSetI_eq, sAug_eq, slotA_d, sSetG_eq, sRetG, sGL, sGP, sNil, sBrk, sCnt, sNo, eName_eq, slotE_d, slotE_gen, slotE_scr, slotE_own, eC, eOp, eUn, eSc, eScL, eScR, eCh, eAnd, eOr, eNot, eIf, eTup, eLst, eCB, eIx, eIxN, eSl, eSlN, eSlS, eAddN, eLenN, eApp, eExt, ePop, eCallP_eq, eCallG_eq, eIsi, eGL, eGS, eGC, eGP, aNil, aCons, wB_eq, wTru, wTruN, wAnd, wOr, wNot, wYes, gN, gT_d, gL_own, gL_d, gsC, gsN, oNone, oSome_eq, asI_i, iLst, iTpl, iRg1, iRg2, iEnm, iEnmT, iZp, iScr, eLc_eq, hasD, slotD_eq, slotK_d, slotK_own, ownD_eq, slotO_own, isOwn, scrD, putE, asDs, asD_d, asD_own, argR_d, argR_own, argR_gen, argR_scr, asL_own, asL_d, asT_d, asB_d, sub_i, iadd_i, mul_i, fdiv_i, mod_i, pow_i, lt_i, le_i, gt_i, ge_i, add_i, add_l, add_t, cat_i, cat_l, cat_t, neg_i, eqf_i, eqt_i, lenC_l, lenC_t, absC_i, intC_i, tupC_l, tupC_t, max2C_i, min2C_i, lenC_s, reprC_b, reprA_b, reprA_i, reprA_t, reprC_i, eqf_rb, eqt_rb, eqt_ri, slD_t, max3C_i, ixt0, ixt1, ixt2, ixt3, ixl0, ixl1, ixtl, ixll, truD, lenD, startC, endP, List.map_cons, List.map_nil, List.length_cons, List.length_nil, List.cons_append, List.nil_append, List.getElem?_cons_zero, List.getElem?_cons_succ, List.set_cons_zero, List.set_cons_succ, List.replicate_succ, List.replicate_zero, Nat.reduceSub, Nat.reduceAdd, Nat.reduceLT, Option.isSome_some, true_and, and_true, ne_eq, not_false_eq_true, reduceCtorEq, if_true, if_false, Bool.false_eq_true, decide_eq_true_eq, List.mem_cons, List.not_mem_nil, or_self, or_false, false_or]
        exact hQ
      · obtain ⟨n, rfl⟩ := int_of hi
        simp -dsimp only [Bool.not_true, sSeq, sAsg, sRet, sIf, sExp, sFor_eq, sPar2, sPar3, sSetI_eq, sAug_eq, slotA_d, sSetG_eq, sRetG, sGL, sGP, sNil, sBrk, sCnt, sNo, eName_eq, slotE_d, slotE_gen, slotE_scr, slotE_own, eC, eOp, eUn, eSc, eScL, eScR, eCh, eAnd, eOr, eNot, eIf, eTup, eLst, eCB, eIx, eIxN, eSl, eSlN, eSlS, eAddN, eLenN, eApp, eExt, ePop, eCallP_eq, eCallG_eq, eIsi, eGL, eGS, eGC, eGP, aNil, aCons, wB_eq, wTru, wTruN, wAnd, wOr, wNot, wYes, gN, gT_d, gL_own, gL_d, gsC, gsN, oNone, oSome_eq, asI_i, iLst, iTpl, iRg1, iRg2, iEnm, iEnmT, iZp, iScr, eLc_eq, hasD, slotD_eq, slotK_d, slotK_own, ownD_eq, slotO_own, isOwn, scrD, putE, asDs, asD_d, asD_own, argR_d, argR_own, argR_gen, argR_scr, asL_own, asL_d, asT_d, asB_d, sub_i, iadd_i, mul_i, fdiv_i, mod_i, pow_i, lt_i, le_i, gt_i, ge_i, add_i, add_l, add_t, cat_i, cat_l, cat_t, neg_i, eqf_i, eqt_i, lenC_l, lenC_t, absC_i, intC_i, tupC_l, tupC_t, max2C_i, min2C_i, lenC_s, reprC_b, reprA_b, reprA_i, reprA_t, reprC_i, eqf_rb, eqt_rb, eqt_ri, slD_t, max3C_i, ixt0, ixt1, ixt2, ixt3, ixl0, ixl1, ixtl, ixll, truD, lenD, startC, endP, List.map_cons, List.map_nil, List.length_cons, List.length_nil, List.cons_append, List.nil_append, List.getElem?_cons_zero, List.getElem?_cons_succ, List.set_cons_zero, List.set_cons_succ, List.replicate_succ, List.replicate_zero, Nat.reduceSub, Nat.reduceAdd, Nat.reduceLT, Option.isSome_some, true_and, and_true, ne_eq, not_false_eq_true, reduceCtorEq, if_true, if_false, Bool.false_eq_true, decide_eq_true_eq, List.mem_cons, List.not_mem_nil, or_self, or_false, false_or]
        by_cases h0 : 1 ≤ n
        · by_cases h1 : n ≤ 5
          · have hr : inR 1 5 (.int n) = true := by
              simp only [inR, Bool.and_eq_true, decide_eq_true_eq]; omega
            simp -dsimp only [h0, h1, decide_true, Bool.not_true, sSeq, sAsg, sRet, sIf, sExp, sFor_eq, sPar2, sPar3, sSetI_eq, sAug_eq, slotA_d, sSetG_eq, sRetG, sGL, sGP, sNil, sBrk, sCnt, sNo, eName_eq, slotE_d, slotE_gen, slotE_scr, slotE_own, eC, eOp, eUn, eSc, eScL, eScR, eCh, eAnd, eOr, eNot, eIf, eTup, eLst, eCB, eIx, eIxN, eSl, eSlN, eSlS, eAddN, eLenN, eApp, eExt, ePop, eCallP_eq, eCallG_eq, eIsi, eGL, eGS, eGC, eGP, aNil, aCons, wB_eq, wTru, wTruN, wAnd, wOr, wNot, wYes, gN, gT_d, gL_own, gL_d, gsC, gsN, oNone, oSome_eq, asI_i, iLst, iTpl, iRg1, iRg2, iEnm, iEnmT, iZp, iScr, eLc_eq, hasD, slotD_eq, slotK_d, slotK_own, ownD_eq, slotO_own, isOwn, scrD, putE, asDs, asD_d, asD_own, argR_d, argR_own, argR_gen, argR_scr, asL_own, asL_d, asT_d, asB_d, sub_i, iadd_i, mul_i, fdiv_i, mod_i, pow_i, lt_i, le_i, gt_i, ge_i, add_i, add_l, add_t, cat_i, cat_l, cat_t, neg_i, eqf_i, eqt_i, lenC_l, lenC_t, absC_i, intC_i, tupC_l, tupC_t, max2C_i, min2C_i, lenC_s, reprC_b, reprA_b, reprA_i, reprA_t, reprC_i, eqf_rb, eqt_rb, eqt_ri, slD_t, max3C_i, ixt0, ixt1, ixt2, ixt3, ixl0, ixl1, ixtl, ixll, truD, lenD, startC, endP, List.map_cons, List.map_nil, List.length_cons, List.length_nil, List.cons_append, List.nil_append, List.getElem?_cons_zero, List.getElem?_cons_succ, List.set_cons_zero, List.set_cons_succ, List.replicate_succ, List.replicate_zero, Nat.reduceSub, Nat.reduceAdd, Nat.reduceLT, Option.isSome_some, true_and, and_true, ne_eq, not_false_eq_true, reduceCtorEq, if_true, if_false, Bool.false_eq_true, decide_eq_true_eq, List.mem_cons, List.not_mem_nil, or_self, or_false, false_or]
            refine ⟨(isi_int hb').2.2, ?_⟩
            cases hb' with
            | non => exact hQ
            | bl b => exact hQ
            | str s => exact hQ
            | int i => exact hQ
            | tup hts =>
              rename_i ts
              simp -dsimp only [show isiD "tuple" (PyData.tuple ts) = true from rfl, Bool.not_true, sSeq, sAsg, sRet, sIf, sExp, sFor_eq, sPar2, sPar3, sSetI_eq, sAug_eq, slotA_d, sSetG_eq, sRetG, sGL, sGP, sNil, sBrk, sCnt, sNo, eName_eq, slotE_d, slotE_gen, slotE_scr, slotE_own, eC, eOp, eUn, eSc, eScL, eScR, eCh, eAnd, eOr, eNot, eIf, eTup, eLst, eCB, eIx, eIxN, eSl, eSlN, eSlS, eAddN, eLenN, eApp, eExt, ePop, eCallP_eq, eCallG_eq, eIsi, eGL, eGS, eGC, eGP, aNil, aCons, wB_eq, wTru, wTruN, wAnd, wOr, wNot, wYes, gN, gT_d, gL_own, gL_d, gsC, gsN, oNone, oSome_eq, asI_i, iLst, iTpl, iRg1, iRg2, iEnm, iEnmT, iZp, iScr, eLc_eq, hasD, slotD_eq, slotK_d, slotK_own, ownD_eq, slotO_own, isOwn, scrD, putE, asDs, asD_d, asD_own, argR_d, argR_own, argR_gen, argR_scr, asL_own, asL_d, asT_d, asB_d, sub_i, iadd_i, mul_i, fdiv_i, mod_i, pow_i, lt_i, le_i, gt_i, ge_i, add_i, add_l, add_t, cat_i, cat_l, cat_t, neg_i, eqf_i, eqt_i, lenC_l, lenC_t, absC_i, intC_i, tupC_l, tupC_t, max2C_i, min2C_i, lenC_s, reprC_b, reprA_b, reprA_i, reprA_t, reprC_i, eqf_rb, eqt_rb, eqt_ri, slD_t, max3C_i, ixt0, ixt1, ixt2, ixt3, ixl0, ixl1, ixtl, ixll, truD, lenD, startC, endP, List.map_cons, List.map_nil, List.length_cons, List.length_nil, List.cons_append, List.nil_append, List.getElem?_cons_zero, List.getElem?_cons_succ, List.set_cons_zero, List.set_cons_succ, List.replicate_succ, List.replicate_zero, Nat.reduceSub, Nat.reduceAdd, Nat.reduceLT, Option.isSome_some, true_and, and_true, ne_eq, not_false_eq_true, reduceCtorEq, if_true, if_false, Bool.false_eq_true, decide_eq_true_eq, List.mem_cons, List.not_mem_nil, or_self, or_false, false_or]
              by_cases hl : 7 < (ts.length : Int)
              · have e : tupU 7 (.tuple ts) = false := by
                  simp only [tupU, decide_eq_false_iff_not]; omega
                rw [webB_ties e] at hQ
                simp -dsimp only [hl, sSeq, sAsg, sRet, sIf, sExp, sFor_eq, sPar2, sPar3, sSetI_eq, sAug_eq, slotA_d, sSetG_eq, sRetG, sGL, sGP, sNil, sBrk, sCnt, sNo, eName_eq, slotE_d, slotE_gen, slotE_scr, slotE_own, eC, eOp, eUn, eSc, eScL, eScR, eCh, eAnd, eOr, eNot, eIf, eTup, eLst, eCB, eIx, eIxN, eSl, eSlN, eSlS, eAddN, eLenN, eApp, eExt, ePop, eCallP_eq, eCallG_eq, eIsi, eGL, eGS, eGC, eGP, aNil, aCons, wB_eq, wTru, wTruN, wAnd, wOr, wNot, wYes, gN, gT_d, gL_own, gL_d, gsC, gsN, oNone, oSome_eq, asI_i, iLst, iTpl, iRg1, iRg2, iEnm, iEnmT, iZp, iScr, eLc_eq, hasD, slotD_eq, slotK_d, slotK_own, ownD_eq, slotO_own, isOwn, scrD, putE, asDs, asD_d, asD_own, argR_d, argR_own, argR_gen, argR_scr, asL_own, asL_d, asT_d, asB_d, sub_i, iadd_i, mul_i, fdiv_i, mod_i, pow_i, lt_i, le_i, gt_i, ge_i, add_i, add_l, add_t, cat_i, cat_l, cat_t, neg_i, eqf_i, eqt_i, lenC_l, lenC_t, absC_i, intC_i, tupC_l, tupC_t, max2C_i, min2C_i, lenC_s, reprC_b, reprA_b, reprA_i, reprA_t, reprC_i, eqf_rb, eqt_rb, eqt_ri, slD_t, max3C_i, ixt0, ixt1, ixt2, ixt3, ixl0, ixl1, ixtl, ixll, truD, lenD, startC, endP, List.map_cons, List.map_nil, List.length_cons, List.length_nil, List.cons_append, List.nil_append, List.getElem?_cons_zero, List.getElem?_cons_succ, List.set_cons_zero, List.set_cons_succ, List.replicate_succ, List.replicate_zero, Nat.reduceSub, Nat.reduceAdd, Nat.reduceLT, Option.isSome_some, true_and, and_true, ne_eq, not_false_eq_true, reduceCtorEq, if_true, if_false, Bool.false_eq_true, decide_eq_true_eq, List.mem_cons, List.not_mem_nil, or_self, or_false, false_or]
                exact hQ
              · have hst := Shp.items (n := 50) (hsi (.tuple ts) (by simp))
                simp -dsimp only [hl, sSeq, sAsg, sRet, sIf, sExp, sFor_eq, sPar2, sPar3, sSetI_eq, sAug_eq, slotA_d, sSetG_eq, sRetG, sGL, sGP, sNil, sBrk, sCnt, sNo, eName_eq, slotE_d, slotE_gen, slotE_scr, slotE_own, eC, eOp, eUn, eSc, eScL, eScR, eCh, eAnd, eOr, eNot, eIf, eTup, eLst, eCB, eIx, eIxN, eSl, eSlN, eSlS, eAddN, eLenN, eApp, eExt, ePop, eCallP_eq, eCallG_eq, eIsi, eGL, eGS, eGC, eGP, aNil, aCons, wB_eq, wTru, wTruN, wAnd, wOr, wNot, wYes, gN, gT_d, gL_own, gL_d, gsC, gsN, oNone, oSome_eq, asI_i, iLst, iTpl, iRg1, iRg2, iEnm, iEnmT, iZp, iScr, eLc_eq, hasD, slotD_eq, slotK_d, slotK_own, ownD_eq, slotO_own, isOwn, scrD, putE, asDs, asD_d, asD_own, argR_d, argR_own, argR_gen, argR_scr, asL_own, asL_d, asT_d, asB_d, sub_i, iadd_i, mul_i, fdiv_i, mod_i, pow_i, lt_i, le_i, gt_i, ge_i, add_i, add_l, add_t, cat_i, cat_l, cat_t, neg_i, eqf_i, eqt_i, lenC_l, lenC_t, absC_i, intC_i, tupC_l, tupC_t, max2C_i, min2C_i, lenC_s, reprC_b, reprA_b, reprA_i, reprA_t, reprC_i, eqf_rb, eqt_rb, eqt_ri, slD_t, max3C_i, ixt0, ixt1, ixt2, ixt3, ixl0, ixl1, ixtl, ixll, truD, lenD, startC, endP, List.map_cons, List.map_nil, List.length_cons, List.length_nil, List.cons_append, List.nil_append, List.getElem?_cons_zero, List.getElem?_cons_succ, List.set_cons_zero, List.set_cons_succ, List.replicate_succ, List.replicate_zero, Nat.reduceSub, Nat.reduceAdd, Nat.reduceLT, Option.isSome_some, true_and, and_true, ne_eq, not_false_eq_true, reduceCtorEq, if_true, if_false, Bool.false_eq_true, decide_eq_true_eq, List.mem_cons, List.not_mem_nil, or_self, or_false, false_or]
                refine ⟨by simp [nown], ?_⟩
                refine lcW_fm (badT n) ts [] (fun t ht R S hR hS => ?_) (by simp only [List.length_nil]; omega) ?_
                · simp -dsimp only [Turn1, wipeE, sSeq, sAsg, sRet, sIf, sExp, sFor_eq, sPar2, sPar3, sSetI_eq, sAug_eq, slotA_d, sSetG_eq, sRetG, sGL, sGP, sNil, sBrk, sCnt, sNo, eName_eq, slotE_d, slotE_gen, slotE_scr, slotE_own, eC, eOp, eUn, eSc, eScL, eScR, eCh, eAnd, eOr, eNot, eIf, eTup, eLst, eCB, eIx, eIxN, eSl, eSlN, eSlS, eAddN, eLenN, eApp, eExt, ePop, eCallP_eq, eCallG_eq, eIsi, eGL, eGS, eGC, eGP, aNil, aCons, wB_eq, wTru, wTruN, wAnd, wOr, wNot, wYes, gN, gT_d, gL_own, gL_d, gsC, gsN, oNone, oSome_eq, asI_i, iLst, iTpl, iRg1, iRg2, iEnm, iEnmT, iZp, iScr, eLc_eq, hasD, slotD_eq, slotK_d, slotK_own, ownD_eq, slotO_own, isOwn, scrD, putE, asDs, asD_d, asD_own, argR_d, argR_own, argR_gen, argR_scr, asL_own, asL_d, asT_d, asB_d, sub_i, iadd_i, mul_i, fdiv_i, mod_i, pow_i, lt_i, le_i, gt_i, ge_i, add_i, add_l, add_t, cat_i, cat_l, cat_t, neg_i, eqf_i, eqt_i, lenC_l, lenC_t, absC_i, intC_i, tupC_l, tupC_t, max2C_i, min2C_i, lenC_s, reprC_b, reprA_b, reprA_i, reprA_t, reprC_i, eqf_rb, eqt_rb, eqt_ri, slD_t, max3C_i, ixt0, ixt1, ixt2, ixt3, ixl0, ixl1, ixtl, ixll, truD, lenD, startC, endP, List.map_cons, List.map_nil, List.length_cons, List.length_nil, List.cons_append, List.nil_append, List.getElem?_cons_zero, List.getElem?_cons_succ, List.set_cons_zero, List.set_cons_succ, List.replicate_succ, List.replicate_zero, Nat.reduceSub, Nat.reduceAdd, Nat.reduceLT, Option.isSome_some, true_and, and_true, ne_eq, not_false_eq_true, reduceCtorEq, if_true, if_false, Bool.false_eq_true, decide_eq_true_eq, List.mem_cons, List.not_mem_nil, or_self, or_false, false_or]
                  refine ⟨t, n, rfl, ⟨hts t ht, hst t ht⟩, ?_⟩
                  try simp -dsimp only [sSeq, sAsg, sRet, sIf, sExp, sFor_eq, sPar2, sPar3, sSetI_eq, sAug_eq, slotA_d, sSetG_eq, sRetG, sGL, sGP, sNil, sBrk, sCnt, sNo, eName_eq, slotE_d, slotE_gen, slotE_scr, slotE_own, eC, eOp, eUn, eSc, eScL, eScR, eCh, eAnd, eOr, eNot, eIf, eTup, eLst, eCB, eIx, eIxN, eSl, eSlN, eSlS, eAddN, eLenN, eApp, eExt, ePop, eCallP_eq, eCallG_eq, eIsi, eGL, eGS, eGC, eGP, aNil, aCons, wB_eq, wTru, wTruN, wAnd, wOr, wNot, wYes, gN, gT_d, gL_own, gL_d, gsC, gsN, oNone, oSome_eq, asI_i, iLst, iTpl, iRg1, iRg2, iEnm, iEnmT, iZp, iScr, eLc_eq, hasD, slotD_eq, slotK_d, slotK_own, ownD_eq, slotO_own, isOwn, scrD, putE, asDs, asD_d, asD_own, argR_d, argR_own, argR_gen, argR_scr, asL_own, asL_d, asT_d, asB_d, sub_i, iadd_i, mul_i, fdiv_i, mod_i, pow_i, lt_i, le_i, gt_i, ge_i, add_i, add_l, add_t, cat_i, cat_l, cat_t, neg_i, eqf_i, eqt_i, lenC_l, lenC_t, absC_i, intC_i, tupC_l, tupC_t, max2C_i, min2C_i, lenC_s, reprC_b, reprA_b, reprA_i, reprA_t, reprC_i, eqf_rb, eqt_rb, eqt_ri, slD_t, max3C_i, ixt0, ixt1, ixt2, ixt3, ixl0, ixl1, ixtl, ixll, truD, lenD, startC, endP, List.map_cons, List.map_nil, List.length_cons, List.length_nil, List.cons_append, List.nil_append, List.getElem?_cons_zero, List.getElem?_cons_succ, List.set_cons_zero, List.set_cons_succ, List.replicate_succ, List.replicate_zero, Nat.reduceSub, Nat.reduceAdd, Nat.reduceLT, Option.isSome_some, true_and, and_true, ne_eq, not_false_eq_true, reduceCtorEq, if_true, if_false, Bool.false_eq_true, decide_eq_true_eq, List.mem_cons, List.not_mem_nil, or_self, or_false, false_or]
                  unfold badT at hR hS
                  cases hk : tieB n t
                  · rw [hk] at hR
                    simp -dsimp only [Bool.not_false, sSeq, sAsg, sRet, sIf, sExp, sFor_eq, sPar2, sPar3, sSetI_eq, sAug_eq, slotA_d, sSetG_eq, sRetG, sGL, sGP, sNil, sBrk, sCnt, sNo, eName_eq, slotE_d, slotE_gen, slotE_scr, slotE_own, eC, eOp, eUn, eSc, eScL, eScR, eCh, eAnd, eOr, eNot, eIf, eTup, eLst, eCB, eIx, eIxN, eSl, eSlN, eSlS, eAddN, eLenN, eApp, eExt, ePop, eCallP_eq, eCallG_eq, eIsi, eGL, eGS, eGC, eGP, aNil, aCons, wB_eq, wTru, wTruN, wAnd, wOr, wNot, wYes, gN, gT_d, gL_own, gL_d, gsC, gsN, oNone, oSome_eq, asI_i, iLst, iTpl, iRg1, iRg2, iEnm, iEnmT, iZp, iScr, eLc_eq, hasD, slotD_eq, slotK_d, slotK_own, ownD_eq, slotO_own, isOwn, scrD, putE, asDs, asD_d, asD_own, argR_d, argR_own, argR_gen, argR_scr, asL_own, asL_d, asT_d, asB_d, sub_i, iadd_i, mul_i, fdiv_i, mod_i, pow_i, lt_i, le_i, gt_i, ge_i, add_i, add_l, add_t, cat_i, cat_l, cat_t, neg_i, eqf_i, eqt_i, lenC_l, lenC_t, absC_i, intC_i, tupC_l, tupC_t, max2C_i, min2C_i, lenC_s, reprC_b, reprA_b, reprA_i, reprA_t, reprC_i, eqf_rb, eqt_rb, eqt_ri, slD_t, max3C_i, ixt0, ixt1, ixt2, ixt3, ixl0, ixl1, ixtl, ixll, truD, lenD, startC, endP, List.map_cons, List.map_nil, List.length_cons, List.length_nil, List.cons_append, List.nil_append, List.getElem?_cons_zero, List.getElem?_cons_succ, List.set_cons_zero, List.set_cons_succ, List.replicate_succ, List.replicate_zero, Nat.reduceSub, Nat.reduceAdd, Nat.reduceLT, Option.isSome_some, true_and, and_true, ne_eq, not_false_eq_true, reduceCtorEq, if_true, if_false, Bool.false_eq_true, decide_eq_true_eq, List.mem_cons, List.not_mem_nil, or_self, or_false, false_or]
                    exact hR t rfl
                  · rw [hk] at hS
                    simp -dsimp only [Bool.not_true, sSeq, sAsg, sRet, sIf, sExp, sFor_eq, sPar2, sPar3, sSetI_eq, sAug_eq, slotA_d, sSetG_eq, sRetG, sGL, sGP, sNil, sBrk, sCnt, sNo, eName_eq, slotE_d, slotE_gen, slotE_scr, slotE_own, eC, eOp, eUn, eSc, eScL, eScR, eCh, eAnd, eOr, eNot, eIf, eTup, eLst, eCB, eIx, eIxN, eSl, eSlN, eSlS, eAddN, eLenN, eApp, eExt, ePop, eCallP_eq, eCallG_eq, eIsi, eGL, eGS, eGC, eGP, aNil, aCons, wB_eq, wTru, wTruN, wAnd, wOr, wNot, wYes, gN, gT_d, gL_own, gL_d, gsC, gsN, oNone, oSome_eq, asI_i, iLst, iTpl, iRg1, iRg2, iEnm, iEnmT, iZp, iScr, eLc_eq, hasD, slotD_eq, slotK_d, slotK_own, ownD_eq, slotO_own, isOwn, scrD, putE, asDs, asD_d, asD_own, argR_d, argR_own, argR_gen, argR_scr, asL_own, asL_d, asT_d, asB_d, sub_i, iadd_i, mul_i, fdiv_i, mod_i, pow_i, lt_i, le_i, gt_i, ge_i, add_i, add_l, add_t, cat_i, cat_l, cat_t, neg_i, eqf_i, eqt_i, lenC_l, lenC_t, absC_i, intC_i, tupC_l, tupC_t, max2C_i, min2C_i, lenC_s, reprC_b, reprA_b, reprA_i, reprA_t, reprC_i, eqf_rb, eqt_rb, eqt_ri, slD_t, max3C_i, ixt0, ixt1, ixt2, ixt3, ixl0, ixl1, ixtl, ixll, truD, lenD, startC, endP, List.map_cons, List.map_nil, List.length_cons, List.length_nil, List.cons_append, List.nil_append, List.getElem?_cons_zero, List.getElem?_cons_succ, List.set_cons_zero, List.set_cons_succ, List.replicate_succ, List.replicate_zero, Nat.reduceSub, Nat.reduceAdd, Nat.reduceLT, Option.isSome_some, true_and, and_true, ne_eq, not_false_eq_true, reduceCtorEq, if_true, if_false, Bool.false_eq_true, decide_eq_true_eq, List.mem_cons, List.not_mem_nil, or_self, or_false, false_or]
                    exact hS rfl
                try simp -dsimp only [sSeq, sAsg, sRet, sIf, sExp, sFor_eq, sPar2, sPar3, sSetI_eq, sAug_eq, slotA_d, sSetG_eq, sRetG, sGL, sGP, sNil, sBrk, sCnt, sNo, eName_eq, slotE_d, slotE_gen, slotE_scr, slotE_own, eC, eOp, eUn, eSc, eScL, eScR, eCh, eAnd, eOr, eNot, eIf, eTup, eLst, eCB, eIx, eIxN, eSl, eSlN, eSlS, eAddN, eLenN, eApp, eExt, ePop, eCallP_eq, eCallG_eq, eIsi, eGL, eGS, eGC, eGP, aNil, aCons, wB_eq, wTru, wTruN, wAnd, wOr, wNot, wYes, gN, gT_d, gL_own, gL_d, gsC, gsN, oNone, oSome_eq, asI_i, iLst, iTpl, iRg1, iRg2, iEnm, iEnmT, iZp, iScr, eLc_eq, hasD, slotD_eq, slotK_d, slotK_own, ownD_eq, slotO_own, isOwn, scrD, putE, asDs, asD_d, asD_own, argR_d, argR_own, argR_gen, argR_scr, asL_own, asL_d, asT_d, asB_d, sub_i, iadd_i, mul_i, fdiv_i, mod_i, pow_i, lt_i, le_i, gt_i, ge_i, add_i, add_l, add_t, cat_i, cat_l, cat_t, neg_i, eqf_i, eqt_i, lenC_l, lenC_t, absC_i, intC_i, tupC_l, tupC_t, max2C_i, min2C_i, lenC_s, reprC_b, reprA_b, reprA_i, reprA_t, reprC_i, eqf_rb, eqt_rb, eqt_ri, slD_t, max3C_i, ixt0, ixt1, ixt2, ixt3, ixl0, ixl1, ixtl, ixll, truD, lenD, startC, endP, List.map_cons, List.map_nil, List.length_cons, List.length_nil, List.cons_append, List.nil_append, List.getElem?_cons_zero, List.getElem?_cons_succ, List.set_cons_zero, List.set_cons_succ, List.replicate_succ, List.replicate_zero, Nat.reduceSub, Nat.reduceAdd, Nat.reduceLT, Option.isSome_some, true_and, and_true, ne_eq, not_false_eq_true, reduceCtorEq, if_true, if_false, Bool.false_eq_true, decide_eq_true_eq, List.mem_cons, List.not_mem_nil, or_self, or_false, false_or]
                rw [eqf_nil fun x hx => Shp.up (hst x (badT_mem hx)) (by decide), badT_all]
                have h3 : decide ((ts.length : Int) ≤ 7) = true := by simp only [decide_eq_true_eq]; omega
                simp only [webB, hr, h3, Bool.true_and] at hQ
                exact ⟨by decide, hQ⟩
          · have e : inR 1 5 (.int n) = false := by
              simp only [inR, Bool.and_eq_false_iff, decide_eq_false_iff_not]; omega
            rw [webB_room e] at hQ
            simp -dsimp only [h0, h1, decide_true, decide_false, Bool.not_false, sSeq, sAsg, sRet, sIf, sExp, sFor_eq, sPar2, sPar3, sSetI_eq, sAug_eq, slotA_d, sSetG_eq, sRetG, sGL, sGP, sNil, sBrk, sCnt, sNo, eName_eq, slotE_d, slotE_gen, slotE_scr, slotE_own, eC, eOp, eUn, eSc, eScL, eScR, eCh, eAnd, eOr, eNot, eIf, eTup, eLst, eCB, eIx, eIxN, eSl, eSlN, eSlS, eAddN, eLenN, eApp, eExt, ePop, eCallP_eq, eCallG_eq, eIsi, eGL, eGS, eGC, eGP, aNil, aCons, wB_eq, wTru, wTruN, wAnd, wOr, wNot, wYes, gN, gT_d, gL_own, gL_d, gsC, gsN, oNone, oSome_eq, asI_i, iLst, iTpl, iRg1, iRg2, iEnm, iEnmT, iZp, iScr, eLc_eq, hasD, slotD_eq, slotK_d, slotK_own, ownD_eq, slotO_own, isOwn, scrD, putE, asDs, asD_d, asD_own, argR_d, argR_own, argR_gen, argR_scr, asL_own, asL_d, asT_d, asB_d, sub_i, iadd_i, mul_i, fdiv_i, mod_i, pow_i, lt_i, le_i, gt_i, ge_i, add_i, add_l, add_t, cat_i, cat_l, cat_t, neg_i, eqf_i, eqt_i, lenC_l, lenC_t, absC_i, intC_i, tupC_l, tupC_t, max2C_i, min2C_i, lenC_s, reprC_b, reprA_b, reprA_i, reprA_t, reprC_i, eqf_rb, eqt_rb, eqt_ri, slD_t, max3C_i, ixt0, ixt1, ixt2, ixt3, ixl0, ixl1, ixtl, ixll, truD, lenD, startC, endP, List.map_cons, List.map_nil, List.length_cons, List.length_nil, List.cons_append, List.nil_append, List.getElem?_cons_zero, List.getElem?_cons_succ, List.set_cons_zero, List.set_cons_succ, List.replicate_succ, List.replicate_zero, Nat.reduceSub, Nat.reduceAdd, Nat.reduceLT, Option.isSome_some, true_and, and_true, ne_eq, not_false_eq_true, reduceCtorEq, if_true, if_false, Bool.false_eq_true, decide_eq_true_eq, List.mem_cons, List.not_mem_nil, or_self, or_false, false_or]
            exact hQ
        · have e : inR 1 5 (.int n) = false := by
            simp only [inR, Bool.and_eq_false_iff, decide_eq_false_iff_not]; omega
          rw [webB_room e] at hQ
          simp -dsimp only [h0, decide_false, Bool.not_false, sSeq, sAsg, sRet, sIf, sExp, sFor_eq, sPar2, sPar3, sSetI_eq, sAug_eq, slotA_d, sSetG_eq, sRetG, sGL, sGP, sNil, sBrk, sCnt, sNo, eName_eq, slotE_d, slotE_gen, slotE_scr, slotE_own, eC, eOp, eUn, eSc, eScL, eScR, eCh, eAnd, eOr, eNot, eIf, eTup, eLst, eCB, eIx, eIxN, eSl, eSlN, eSlS, eAddN, eLenN, eApp, eExt, ePop, eCallP_eq, eCallG_eq, eIsi, eGL, eGS, eGC, eGP, aNil, aCons, wB_eq, wTru, wTruN, wAnd, wOr, wNot, wYes, gN, gT_d, gL_own, gL_d, gsC, gsN, oNone, oSome_eq, asI_i, iLst, iTpl, iRg1, iRg2, iEnm, iEnmT, iZp, iScr, eLc_eq, hasD, slotD_eq, slotK_d, slotK_own, ownD_eq, slotO_own, isOwn, scrD, putE, asDs, asD_d, asD_own, argR_d, argR_own, argR_gen, argR_scr, asL_own, asL_d, asT_d, asB_d, sub_i, iadd_i, mul_i, fdiv_i, mod_i, pow_i, lt_i, le_i, gt_i, ge_i, add_i, add_l, add_t, cat_i, cat_l, cat_t, neg_i, eqf_i, eqt_i, lenC_l, lenC_t, absC_i, intC_i, tupC_l, tupC_t, max2C_i, min2C_i, lenC_s, reprC_b, reprA_b, reprA_i, reprA_t, reprC_i, eqf_rb, eqt_rb, eqt_ri, slD_t, max3C_i, ixt0, ixt1, ixt2, ixt3, ixl0, ixl1, ixtl, ixll, truD, lenD, startC, endP, List.map_cons, List.map_nil, List.length_cons, List.length_nil, List.cons_append, List.nil_append, List.getElem?_cons_zero, List.getElem?_cons_succ, List.set_cons_zero, List.set_cons_succ, List.replicate_succ, List.replicate_zero, Nat.reduceSub, Nat.reduceAdd, Nat.reduceLT, Option.isSome_some, true_and, and_true, ne_eq, not_false_eq_true, reduceCtorEq, if_true, if_false, Bool.false_eq_true, decide_eq_true_eq, List.mem_cons, List.not_mem_nil, or_self, or_false, false_or]
          exact hQ
end K

set_option Elab.async false
set_option maxRecDepth 100000
set_option linter.all false
set_option autoImplicit false
set_option maxHeartbeats 4000000
namespace K
open PySem L2 Dl
/-! ### something of a drawn kind -/
theorem pow30 : eOp powD (eC (.int 10)) (eC (.int 30)) = eC (.int 1000000000000000000000000000000) := powc (by decide) (by rw [b10]; decide) (by decide)
/-- a drawn thing: e how deep -/
structure Good (e : Nat) (x : Px) : Prop where
  ni : Nice x
  sh : Shp e x
abbrev C_law_odd : Cn := fun rs g Q => ∃ (n : Nat), rs = [.gen] ∧ g = some n ∧ n + 1 ≤ 2 ^ 40 ∧ ∀ (x : Px) (m : Nat), Good 3 x → m ≤ n + 1 → Q (.d x) (some m)
def w_law_odd : WS :=
  (sRet (eCallG C_law_of (aCons (eName 0) (aCons (eLst (aCons (eC (.int 0)) (aCons (eC (.int 1)) (aCons (eUn negD (eC (.int 1))) (aCons (eC (.int 5)) (aCons (eC (.int 6)) (aCons (eC (.int 1000)) (aCons (eC (.int 1001)) (aCons (eUn negD (eC (.int 1000))) (aCons (eUn negD (eC (.int 1001))) (aCons (eC (.bool true)) (aCons (eC (.bool false)) (aCons (eC .none) (aCons (eC (.str "")) (aCons (eC (.str "x")) (aCons (eTup aNil) (aCons (eTup (aCons (eC (.int 0)) aNil)) (aCons (eTup (aCons (eC (.int 0)) (aCons (eC (.int 0)) (aCons (eC (.int 1)) (aCons (eC (.int 1)) aNil))))) (aCons (eOp powD (eC (.int 10)) (eC (.int 30))) aNil))))))))))))))))))) aNil))))
theorem len_law_odd (rs : List Rv) (g : Option Nat) (Q : Rv → Option Nat → Prop) (h : C_law_odd rs g Q) : rs.length = 1 := by
  obtain ⟨_, rfl, _⟩ := h
  rfl
theorem good_int (i : Int) : Good 3 (.int i) := ⟨.int i, .int i⟩
theorem good_bl (b : Bool) : Good 3 (.bool b) := ⟨.bl b, by simp [PyData.canLay0], by simp [PyData.depth]⟩
theorem good_non : Good 3 .none := ⟨.non, by simp [PyData.canLay0], by simp [PyData.depth]⟩
theorem good_str (s : String) : Good 3 (.str (Str.ofString s)) := ⟨.str _, by simpa [PyData.canLay0] using strOk_of s, by simp [PyData.depth]⟩
theorem good_ints (l : List Int) : Good 3 (.tuple (l.map .int)) := ⟨.tup fun x hx => by
  obtain ⟨i, _, rfl⟩ := List.mem_map.mp hx
  exact .int i, Shp.up (Shp.ints l) (by decide)⟩
def oddL : List Px := [.int 0, .int 1, .int (-1), .int 5, .int 6, .int 1000, .int 1001, .int (-1000), .int (-1001), .bool true, .bool false, .none, .str "", .str "x", .tuple [], .tuple [.int 0], .tuple [.int 0, .int 0, .int 1, .int 1], .int 1000000000000000000000000000000]
theorem odd_good : ∀ x ∈ oddL, Good 3 x := fun x hx => by
  simp only [oddL, List.mem_cons, List.not_mem_nil, or_false] at hx
  rcases hx with rfl | rfl | rfl | rfl | rfl | rfl | rfl | rfl | rfl | rfl | rfl | rfl | rfl | rfl | rfl | rfl | rfl | rfl
  · exact good_int _
  · exact good_int _
  · exact good_int _
  · exact good_int _
  · exact good_int _
  · exact good_int _
  · exact good_int _
  · exact good_int _
  · exact good_int _
  · exact good_bl _
  · exact good_bl _
  · exact good_non
  · exact good_str _
  · exact good_str _
  · exact good_ints []
  · exact good_ints [0]
  · exact good_ints [0, 0, 1, 1]
  · exact good_int _
/-- a list of constants -/
def eOwn (xs : List Px) : WE := fun c P _ => P (.own xs) c
theorem odd_eq : (eLst (aCons (eC (.int 0)) (aCons (eC (.int 1)) (aCons (eUn negD (eC (.int 1))) (aCons (eC (.int 5)) (aCons (eC (.int 6)) (aCons (eC (.int 1000)) (aCons (eC (.int 1001)) (aCons (eUn negD (eC (.int 1000))) (aCons (eUn negD (eC (.int 1001))) (aCons (eC (.bool true)) (aCons (eC (.bool false)) (aCons (eC .none) (aCons (eC (.str "")) (aCons (eC (.str "x")) (aCons (eTup aNil) (aCons (eTup (aCons (eC (.int 0)) aNil)) (aCons (eTup (aCons (eC (.int 0)) (aCons (eC (.int 0)) (aCons (eC (.int 1)) (aCons (eC (.int 1)) aNil))))) (aCons (eC (.int 1000000000000000000000000000000)) aNil))))))))))))))))))) = eOwn oddL := by
  funext c P X
  exact propext ⟨fun h => (show 0 ≤ 1000000 ∧ 1 ≤ 1000000 ∧ 4 ≤ 1000000 ∧ 18 ≤ 1000000 ∧ P (.own oddL) c from h).2.2.2.2,
    fun h => (⟨by decide, by decide, by decide, by decide, h⟩ : 0 ≤ 1000000 ∧ 1 ≤ 1000000 ∧ 4 ≤ 1000000 ∧ 18 ≤ 1000000 ∧ P (.own oddL) c)⟩
theorem spec_law_odd (rs : List Rv) (g : Option Nat) (Q : Rv → Option Nat → Prop) (h : C_law_odd rs g Q) : w_law_odd (startC 1 rs g) (endP Q) fun _ _ => False := by
  obtain ⟨n, rfl, rfl, hn, hQ⟩ := h
  have hx := odd_good
  have hl : oddL.length = 18 := rfl
  simp only [w_law_odd, pow30, odd_eq]
  generalize oddL = xs at hx hl ⊢
  simp -dsimp only [C_law_of, eOwn, sSeq, sAsg, sRet, sIf, sExp, sFor_eq, sPar2, sPar3, sSetI_eq, sAug_eq, slotA_d, sSetG_eq, sRetG, sGL, sGP, sNil, sBrk, sCnt, sNo, eName_eq, slotE_d, slotE_gen, slotE_scr, slotE_own, eC, eOp, eUn, eSc, eScL, eScR, eCh, eAnd, eOr, eNot, eIf, eTup, eLst, eCB, eIx, eIxN, eSl, eSlN, eSlS, eAddN, eLenN, eApp, eExt, ePop, eCallP_eq, eCallG_eq, eIsi, eGL, eGS, eGC, eGP, aNil, aCons, wB_eq, wTru, wTruN, wAnd, wOr, wNot, wYes, gN, gT_d, gL_own, gL_d, gsC, gsN, oNone, oSome_eq, asI_i, iLst, iTpl, iRg1, iRg2, iEnm, iEnmT, iZp, iScr, eLc_eq, hasD, slotD_eq, slotK_d, slotK_own, ownD_eq, slotO_own, isOwn, scrD, putE, asDs, asD_d, asD_own, argR_d, argR_own, argR_gen, argR_scr, asL_own, asL_d, asT_d, asB_d, sub_i, iadd_i, mul_i, fdiv_i, mod_i, pow_i, lt_i, le_i, gt_i, ge_i, add_i, add_l, add_t, cat_i, cat_l, cat_t, neg_i, eqf_i, eqt_i, lenC_l, lenC_t, absC_i, intC_i, tupC_l, tupC_t, max2C_i, min2C_i, lenC_s, reprC_b, reprA_b, reprA_i, reprA_t, reprC_i, eqf_rb, eqt_rb, eqt_ri, slD_t, max3C_i, ixt0, ixt1, ixt2, ixt3, ixl0, ixl1, ixtl, ixll, truD, lenD, startC, endP, List.map_cons, List.map_nil, List.length_cons, List.length_nil, List.cons_append, List.nil_append, List.getElem?_cons_zero, List.getElem?_cons_succ, List.set_cons_zero, List.set_cons_succ, List.replicate_succ, List.replicate_zero, Nat.reduceSub, Nat.reduceAdd, Nat.reduceLT, Option.isSome_some, true_and, and_true, ne_eq, not_false_eq_true, reduceCtorEq, if_true, if_false, Bool.false_eq_true, decide_eq_true_eq, List.mem_cons, List.not_mem_nil, or_self, or_false, false_or]
  refine ⟨_, n, rfl, rfl, hn, fun h => ?_, by omega, fun x hxx m hmm => ?_⟩
  · rw [h] at hl
    cases hl
  · simp -dsimp only [sSeq, sAsg, sRet, sIf, sExp, sFor_eq, sPar2, sPar3, sSetI_eq, sAug_eq, slotA_d, sSetG_eq, sRetG, sGL, sGP, sNil, sBrk, sCnt, sNo, eName_eq, slotE_d, slotE_gen, slotE_scr, slotE_own, eC, eOp, eUn, eSc, eScL, eScR, eCh, eAnd, eOr, eNot, eIf, eTup, eLst, eCB, eIx, eIxN, eSl, eSlN, eSlS, eAddN, eLenN, eApp, eExt, ePop, eCallP_eq, eCallG_eq, eIsi, eGL, eGS, eGC, eGP, aNil, aCons, wB_eq, wTru, wTruN, wAnd, wOr, wNot, wYes, gN, gT_d, gL_own, gL_d, gsC, gsN, oNone, oSome_eq, asI_i, iLst, iTpl, iRg1, iRg2, iEnm, iEnmT, iZp, iScr, eLc_eq, hasD, slotD_eq, slotK_d, slotK_own, ownD_eq, slotO_own, isOwn, scrD, putE, asDs, asD_d, asD_own, argR_d, argR_own, argR_gen, argR_scr, asL_own, asL_d, asT_d, asB_d, sub_i, iadd_i, mul_i, fdiv_i, mod_i, pow_i, lt_i, le_i, gt_i, ge_i, add_i, add_l, add_t, cat_i, cat_l, cat_t, neg_i, eqf_i, eqt_i, lenC_l, lenC_t, absC_i, intC_i, tupC_l, tupC_t, max2C_i, min2C_i, lenC_s, reprC_b, reprA_b, reprA_i, reprA_t, reprC_i, eqf_rb, eqt_rb, eqt_ri, slD_t, max3C_i, ixt0, ixt1, ixt2, ixt3, ixl0, ixl1, ixtl, ixll, truD, lenD, startC, endP, List.map_cons, List.map_nil, List.length_cons, List.length_nil, List.cons_append, List.nil_append, List.getElem?_cons_zero, List.getElem?_cons_succ, List.set_cons_zero, List.set_cons_succ, List.replicate_succ, List.replicate_zero, Nat.reduceSub, Nat.reduceAdd, Nat.reduceLT, Option.isSome_some, true_and, and_true, ne_eq, not_false_eq_true, reduceCtorEq, if_true, if_false, Bool.false_eq_true, decide_eq_true_eq, List.mem_cons, List.not_mem_nil, or_self, or_false, false_or]
    exact hQ x m (hx x hxx) hmm
/-! ### a thing bent at one place -/
def Sh : Nat → Px → Prop
  | 0, .tuple _ => False
  | d + 1, .tuple xs => xs.length ≤ 1000 ∧ (∀ x ∈ xs, Shp (d + 4) x) ∧ ∀ x ∈ xs, Sh d x
  | _, _ => True
abbrev C_bent (d : Nat) : Cn := fun rs g Q => ∃ (x : Px) (n : Nat), rs = [.gen, .d x] ∧ g = some n ∧ n + 3 * (d + 1) ≤ 2 ^ 40 ∧ Nice x ∧ (d ≤ 10 ∧ Sh d x) ∧ ∀ (y : Px) (m : Nat), Good (d + 4) y → m ≤ n + 3 * (d + 1) → Q (.d y) (some m)
abbrev CF : Cn := fun _ _ _ => False
def Cin : Nat → Cn
  | 0 => CF
  | d + 1 => C_bent d
def w_law_bent (C_law_bent : Cn) : WS :=
  (sSeq (sIf (wOr (wNot (wTru (eIsi "tuple" (eName 1)))) (wB (eScL 1 (eqD false) (eTup aNil)))) (sRet (eCallG C_law_odd (aCons (eName 0) aNil))) sNil)
  (sSeq (sPar2 2 3 (eCallG C_law_draw (aCons (eName 0) (aCons (eC (.int 8)) aNil))) (eCallG C_law_draw (aCons (eName 0) (aCons (eLenN 1) aNil))))
  (sSeq (sIf (wB (eScL 2 (eqD false) (eC (.int 0)))) (sRet (eOp addD (eSlN 1 oNone (oSome (eName 3))) (eSlN 1 (oSome (eAddN 3 (eC (.int 1)))) oNone))) sNil)
  (sSeq (sIf (wB (eScL 2 (eqD false) (eC (.int 1)))) (sRet (eOp addD (eOp addD (eSlN 1 oNone (oSome (eName 3))) (eTup (aCons (eCallG C_law_odd (aCons (eName 0) aNil)) aNil))) (eSlN 1 (oSome (eName 3)) oNone))) sNil)
  (sSeq (sIf (wB (eScL 2 (eqD false) (eC (.int 2)))) (sRet (eOp addD (eOp addD (eSlN 1 oNone (oSome (eName 3))) (eTup (aCons (eCallG C_law_odd (aCons (eName 0) aNil)) aNil))) (eSlN 1 (oSome (eAddN 3 (eC (.int 1)))) oNone))) sNil)
  (sRet (eOp addD (eOp addD (eSlN 1 oNone (oSome (eName 3))) (eTup (aCons (eCallG C_law_bent (aCons (eName 0) (aCons (eIxN 1 (eName 3)) aNil))) aNil))) (eSlN 1 (oSome (eAddN 3 (eC (.int 1)))) oNone))))))))
theorem eqf_nilT {xs : List Px} {P : Rv → Prop} (h : ∀ x ∈ xs, Shp 60 x) : eqD false (.tuple xs) (.tuple []) P = P (.d (.bool xs.isEmpty)) := by
  have h1 : SeqAt.shaped (.tuple xs) = true := (Shp.tup h).sh
  have h2 : SeqAt.shaped (.tuple []) = true := (Shp.tup (n := 60) (xs := []) (by simp)).sh
  have e : PyData.eqv (.tuple xs) (.tuple []) = xs.isEmpty := by cases xs <;> simp [PyData.eqv, PyData.eqvAll]
  simp only [eqD, h1, h2, e, true_and]
  simp
theorem len_bent (d : Nat) (rs : List Rv) (g : Option Nat) (Q : Rv → Option Nat → Prop) (h : C_bent d rs g Q) : rs.length = 2 := by
  obtain ⟨_, _, rfl, _⟩ := h
  rfl
theorem nice_cut {e : Nat} {xs : List Px} (h : ∀ x ∈ xs, Good e x) (lo hi : Option Int) : ∀ x ∈ cutX xs lo hi, Good e x := fun x hx => h x (cut_mem hx)
theorem nice_app {e : Nat} {xs ys : List Px} (h : ∀ x ∈ xs, Good e x) (k : ∀ x ∈ ys, Good e x) : ∀ x ∈ xs ++ ys, Good e x := fun x hx => (List.mem_append.mp hx).elim (h x) (k x)
theorem good_tup {e : Nat} {xs : List Px} (h : ∀ x ∈ xs, Good e x) : Good (e + 1) (.tuple xs) := ⟨.tup fun x hx => (h x hx).ni, Shp.tup fun x hx => (h x hx).sh⟩
theorem nice_one {e : Nat} {x : Px} (h : Good e x) : ∀ y ∈ [x], Good e y := fun y hy => by
  rw [List.mem_singleton.mp hy]
  exact h
theorem spec_bent (d : Nat) (rs : List Rv) (g : Option Nat) (Q : Rv → Option Nat → Prop) (h : C_bent d rs g Q) : w_law_bent (Cin d) (startC 4 rs g) (endP Q) fun _ _ => False := by
  obtain ⟨x, n, rfl, rfl, hn, hx, ⟨hd10, hs⟩, hQ⟩ := h
  have hfin : ∀ (y : Px) (m : Nat), Good 3 y → m ≤ n + 1 → Q (.d y) (some m) := fun y m h1 h2 => hQ y m ⟨h1.ni, Shp.up h1.sh (by omega)⟩ (by omega)
  simp -dsimp only [w_law_bent, C_law_draw, C_law_odd, sSeq, sAsg, sRet, sIf, sExp, sFor_eq, sPar2, sPar3, sSetI_eq, sAug_eq, slotA_d, sSetG_eq, sRetG, sGL, sGP, sNil, sBrk, sCnt, sNo, eName_eq, slotE_d, slotE_gen, slotE_scr, slotE_own, eC, eOp, eUn, eSc, eScL, eScR, eCh, eAnd, eOr, eNot, eIf, eTup, eLst, eCB, eIx, eIxN, eSl, eSlN, eSlS, eAddN, eLenN, eApp, eExt, ePop, eCallP_eq, eCallG_eq, eIsi, eGL, eGS, eGC, eGP, aNil, aCons, wB_eq, wTru, wTruN, wAnd, wOr, wNot, wYes, gN, gT_d, gL_own, gL_d, gsC, gsN, oNone, oSome_eq, asI_i, iLst, iTpl, iRg1, iRg2, iEnm, iEnmT, iZp, iScr, eLc_eq, hasD, slotD_eq, slotK_d, slotK_own, ownD_eq, slotO_own, isOwn, scrD, putE, asDs, asD_d, asD_own, argR_d, argR_own, argR_gen, argR_scr, asL_own, asL_d, asT_d, asB_d, sub_i, iadd_i, mul_i, fdiv_i, mod_i, pow_i, lt_i, le_i, gt_i, ge_i, add_i, add_l, add_t, cat_i, cat_l, cat_t, neg_i, eqf_i, eqt_i, lenC_l, lenC_t, absC_i, intC_i, tupC_l, tupC_t, max2C_i, min2C_i, lenC_s, reprC_b, reprA_b, reprA_i, reprA_t, reprC_i, eqf_rb, eqt_rb, eqt_ri, slD_t, max3C_i, ixt0, ixt1, ixt2, ixt3, ixl0, ixl1, ixtl, ixll, truD, lenD, startC, endP, List.map_cons, List.map_nil, List.length_cons, List.length_nil, List.cons_append, List.nil_append, List.getElem?_cons_zero, List.getElem?_cons_succ, List.set_cons_zero, List.set_cons_succ, List.replicate_succ, List.replicate_zero, Nat.reduceSub, Nat.reduceAdd, Nat.reduceLT, Option.isSome_some, true_and, and_true, ne_eq, not_false_eq_true, reduceCtorEq, if_true, if_false, Bool.false_eq_true, decide_eq_true_eq, List.mem_cons, List.not_mem_nil, or_self, or_false, false_or]
  refine ⟨(isi_int hx).2.2, ?_⟩
  cases hx with
  | non => exact ⟨n, rfl, rfl, by omega, fun y m h1 h2 => ⟨by simp, hfin y m h1 h2⟩⟩
  | bl b => exact ⟨n, rfl, rfl, by omega, fun y m h1 h2 => ⟨by simp, hfin y m h1 h2⟩⟩
  | str s => exact ⟨n, rfl, rfl, by omega, fun y m h1 h2 => ⟨by simp, hfin y m h1 h2⟩⟩
  | int i => exact ⟨n, rfl, rfl, by omega, fun y m h1 h2 => ⟨by simp, hfin y m h1 h2⟩⟩
  | tup hxs =>
    rename_i xs
    cases d with
    | zero => exact hs.elim
    | succ d =>
      obtain ⟨hl, hsh, hsd⟩ := hs
      have hgs : ∀ x ∈ xs, Good (d + 4) x := fun x hx => ⟨hxs x hx, hsh x hx⟩
      have h3 : ∀ {y : Px}, Good 3 y → Good (d + 4) y := fun h => ⟨h.ni, Shp.up h.sh (by omega)⟩
      simp -dsimp only [show isiD "tuple" (PyData.tuple xs) = true from rfl, Bool.not_true, sSeq, sAsg, sRet, sIf, sExp, sFor_eq, sPar2, sPar3, sSetI_eq, sAug_eq, slotA_d, sSetG_eq, sRetG, sGL, sGP, sNil, sBrk, sCnt, sNo, eName_eq, slotE_d, slotE_gen, slotE_scr, slotE_own, eC, eOp, eUn, eSc, eScL, eScR, eCh, eAnd, eOr, eNot, eIf, eTup, eLst, eCB, eIx, eIxN, eSl, eSlN, eSlS, eAddN, eLenN, eApp, eExt, ePop, eCallP_eq, eCallG_eq, eIsi, eGL, eGS, eGC, eGP, aNil, aCons, wB_eq, wTru, wTruN, wAnd, wOr, wNot, wYes, gN, gT_d, gL_own, gL_d, gsC, gsN, oNone, oSome_eq, asI_i, iLst, iTpl, iRg1, iRg2, iEnm, iEnmT, iZp, iScr, eLc_eq, hasD, slotD_eq, slotK_d, slotK_own, ownD_eq, slotO_own, isOwn, scrD, putE, asDs, asD_d, asD_own, argR_d, argR_own, argR_gen, argR_scr, asL_own, asL_d, asT_d, asB_d, sub_i, iadd_i, mul_i, fdiv_i, mod_i, pow_i, lt_i, le_i, gt_i, ge_i, add_i, add_l, add_t, cat_i, cat_l, cat_t, neg_i, eqf_i, eqt_i, lenC_l, lenC_t, absC_i, intC_i, tupC_l, tupC_t, max2C_i, min2C_i, lenC_s, reprC_b, reprA_b, reprA_i, reprA_t, reprC_i, eqf_rb, eqt_rb, eqt_ri, slD_t, max3C_i, ixt0, ixt1, ixt2, ixt3, ixl0, ixl1, ixtl, ixll, truD, lenD, startC, endP, List.map_cons, List.map_nil, List.length_cons, List.length_nil, List.cons_append, List.nil_append, List.getElem?_cons_zero, List.getElem?_cons_succ, List.set_cons_zero, List.set_cons_succ, List.replicate_succ, List.replicate_zero, Nat.reduceSub, Nat.reduceAdd, Nat.reduceLT, Option.isSome_some, true_and, and_true, ne_eq, not_false_eq_true, reduceCtorEq, if_true, if_false, Bool.false_eq_true, decide_eq_true_eq, List.mem_cons, List.not_mem_nil, or_self, or_false, false_or]
      rw [eqf_nilT fun x hx => Shp.up (hsh x hx) (by omega)]
      by_cases hxe : xs = []
      · simp -dsimp only [hxe, List.isEmpty_nil, sSeq, sAsg, sRet, sIf, sExp, sFor_eq, sPar2, sPar3, sSetI_eq, sAug_eq, slotA_d, sSetG_eq, sRetG, sGL, sGP, sNil, sBrk, sCnt, sNo, eName_eq, slotE_d, slotE_gen, slotE_scr, slotE_own, eC, eOp, eUn, eSc, eScL, eScR, eCh, eAnd, eOr, eNot, eIf, eTup, eLst, eCB, eIx, eIxN, eSl, eSlN, eSlS, eAddN, eLenN, eApp, eExt, ePop, eCallP_eq, eCallG_eq, eIsi, eGL, eGS, eGC, eGP, aNil, aCons, wB_eq, wTru, wTruN, wAnd, wOr, wNot, wYes, gN, gT_d, gL_own, gL_d, gsC, gsN, oNone, oSome_eq, asI_i, iLst, iTpl, iRg1, iRg2, iEnm, iEnmT, iZp, iScr, eLc_eq, hasD, slotD_eq, slotK_d, slotK_own, ownD_eq, slotO_own, isOwn, scrD, putE, asDs, asD_d, asD_own, argR_d, argR_own, argR_gen, argR_scr, asL_own, asL_d, asT_d, asB_d, sub_i, iadd_i, mul_i, fdiv_i, mod_i, pow_i, lt_i, le_i, gt_i, ge_i, add_i, add_l, add_t, cat_i, cat_l, cat_t, neg_i, eqf_i, eqt_i, lenC_l, lenC_t, absC_i, intC_i, tupC_l, tupC_t, max2C_i, min2C_i, lenC_s, reprC_b, reprA_b, reprA_i, reprA_t, reprC_i, eqf_rb, eqt_rb, eqt_ri, slD_t, max3C_i, ixt0, ixt1, ixt2, ixt3, ixl0, ixl1, ixtl, ixll, truD, lenD, startC, endP, List.map_cons, List.map_nil, List.length_cons, List.length_nil, List.cons_append, List.nil_append, List.getElem?_cons_zero, List.getElem?_cons_succ, List.set_cons_zero, List.set_cons_succ, List.replicate_succ, List.replicate_zero, Nat.reduceSub, Nat.reduceAdd, Nat.reduceLT, Option.isSome_some, true_and, and_true, ne_eq, not_false_eq_true, reduceCtorEq, if_true, if_false, Bool.false_eq_true, decide_eq_true_eq, List.mem_cons, List.not_mem_nil, or_self, or_false, false_or]
        exact ⟨by decide, n, rfl, rfl, by omega, fun y m h1 h2 => ⟨by simp, hfin y m h1 h2⟩⟩
      · have hie : xs.isEmpty = false := by simpa using hxe
        have hln : 0 < xs.length := List.length_pos_iff.mpr hxe
        simp -dsimp only [hie, sSeq, sAsg, sRet, sIf, sExp, sFor_eq, sPar2, sPar3, sSetI_eq, sAug_eq, slotA_d, sSetG_eq, sRetG, sGL, sGP, sNil, sBrk, sCnt, sNo, eName_eq, slotE_d, slotE_gen, slotE_scr, slotE_own, eC, eOp, eUn, eSc, eScL, eScR, eCh, eAnd, eOr, eNot, eIf, eTup, eLst, eCB, eIx, eIxN, eSl, eSlN, eSlS, eAddN, eLenN, eApp, eExt, ePop, eCallP_eq, eCallG_eq, eIsi, eGL, eGS, eGC, eGP, aNil, aCons, wB_eq, wTru, wTruN, wAnd, wOr, wNot, wYes, gN, gT_d, gL_own, gL_d, gsC, gsN, oNone, oSome_eq, asI_i, iLst, iTpl, iRg1, iRg2, iEnm, iEnmT, iZp, iScr, eLc_eq, hasD, slotD_eq, slotK_d, slotK_own, ownD_eq, slotO_own, isOwn, scrD, putE, asDs, asD_d, asD_own, argR_d, argR_own, argR_gen, argR_scr, asL_own, asL_d, asT_d, asB_d, sub_i, iadd_i, mul_i, fdiv_i, mod_i, pow_i, lt_i, le_i, gt_i, ge_i, add_i, add_l, add_t, cat_i, cat_l, cat_t, neg_i, eqf_i, eqt_i, lenC_l, lenC_t, absC_i, intC_i, tupC_l, tupC_t, max2C_i, min2C_i, lenC_s, reprC_b, reprA_b, reprA_i, reprA_t, reprC_i, eqf_rb, eqt_rb, eqt_ri, slD_t, max3C_i, ixt0, ixt1, ixt2, ixt3, ixl0, ixl1, ixtl, ixll, truD, lenD, startC, endP, List.map_cons, List.map_nil, List.length_cons, List.length_nil, List.cons_append, List.nil_append, List.getElem?_cons_zero, List.getElem?_cons_succ, List.set_cons_zero, List.set_cons_succ, List.replicate_succ, List.replicate_zero, Nat.reduceSub, Nat.reduceAdd, Nat.reduceLT, Option.isSome_some, true_and, and_true, ne_eq, not_false_eq_true, reduceCtorEq, if_true, if_false, Bool.false_eq_true, decide_eq_true_eq, List.mem_cons, List.not_mem_nil, or_self, or_false, false_or]
        refine ⟨by decide, ?_⟩
        refine ⟨_, _, rfl, rfl, by omega, by omega, pow9000 (by omega) (by omega), fun a m1 haa hab hm1 => ?_⟩
        try simp -dsimp only [sSeq, sAsg, sRet, sIf, sExp, sFor_eq, sPar2, sPar3, sSetI_eq, sAug_eq, slotA_d, sSetG_eq, sRetG, sGL, sGP, sNil, sBrk, sCnt, sNo, eName_eq, slotE_d, slotE_gen, slotE_scr, slotE_own, eC, eOp, eUn, eSc, eScL, eScR, eCh, eAnd, eOr, eNot, eIf, eTup, eLst, eCB, eIx, eIxN, eSl, eSlN, eSlS, eAddN, eLenN, eApp, eExt, ePop, eCallP_eq, eCallG_eq, eIsi, eGL, eGS, eGC, eGP, aNil, aCons, wB_eq, wTru, wTruN, wAnd, wOr, wNot, wYes, gN, gT_d, gL_own, gL_d, gsC, gsN, oNone, oSome_eq, asI_i, iLst, iTpl, iRg1, iRg2, iEnm, iEnmT, iZp, iScr, eLc_eq, hasD, slotD_eq, slotK_d, slotK_own, ownD_eq, slotO_own, isOwn, scrD, putE, asDs, asD_d, asD_own, argR_d, argR_own, argR_gen, argR_scr, asL_own, asL_d, asT_d, asB_d, sub_i, iadd_i, mul_i, fdiv_i, mod_i, pow_i, lt_i, le_i, gt_i, ge_i, add_i, add_l, add_t, cat_i, cat_l, cat_t, neg_i, eqf_i, eqt_i, lenC_l, lenC_t, absC_i, intC_i, tupC_l, tupC_t, max2C_i, min2C_i, lenC_s, reprC_b, reprA_b, reprA_i, reprA_t, reprC_i, eqf_rb, eqt_rb, eqt_ri, slD_t, max3C_i, ixt0, ixt1, ixt2, ixt3, ixl0, ixl1, ixtl, ixll, truD, lenD, startC, endP, List.map_cons, List.map_nil, List.length_cons, List.length_nil, List.cons_append, List.nil_append, List.getElem?_cons_zero, List.getElem?_cons_succ, List.set_cons_zero, List.set_cons_succ, List.replicate_succ, List.replicate_zero, Nat.reduceSub, Nat.reduceAdd, Nat.reduceLT, Option.isSome_some, true_and, and_true, ne_eq, not_false_eq_true, reduceCtorEq, if_true, if_false, Bool.false_eq_true, decide_eq_true_eq, List.mem_cons, List.not_mem_nil, or_self, or_false, false_or]
        try simp -dsimp only [sSeq, sAsg, sRet, sIf, sExp, sFor_eq, sPar2, sPar3, sSetI_eq, sAug_eq, slotA_d, sSetG_eq, sRetG, sGL, sGP, sNil, sBrk, sCnt, sNo, eName_eq, slotE_d, slotE_gen, slotE_scr, slotE_own, eC, eOp, eUn, eSc, eScL, eScR, eCh, eAnd, eOr, eNot, eIf, eTup, eLst, eCB, eIx, eIxN, eSl, eSlN, eSlS, eAddN, eLenN, eApp, eExt, ePop, eCallP_eq, eCallG_eq, eIsi, eGL, eGS, eGC, eGP, aNil, aCons, wB_eq, wTru, wTruN, wAnd, wOr, wNot, wYes, gN, gT_d, gL_own, gL_d, gsC, gsN, oNone, oSome_eq, asI_i, iLst, iTpl, iRg1, iRg2, iEnm, iEnmT, iZp, iScr, eLc_eq, hasD, slotD_eq, slotK_d, slotK_own, ownD_eq, slotO_own, isOwn, scrD, putE, asDs, asD_d, asD_own, argR_d, argR_own, argR_gen, argR_scr, asL_own, asL_d, asT_d, asB_d, sub_i, iadd_i, mul_i, fdiv_i, mod_i, pow_i, lt_i, le_i, gt_i, ge_i, add_i, add_l, add_t, cat_i, cat_l, cat_t, neg_i, eqf_i, eqt_i, lenC_l, lenC_t, absC_i, intC_i, tupC_l, tupC_t, max2C_i, min2C_i, lenC_s, reprC_b, reprA_b, reprA_i, reprA_t, reprC_i, eqf_rb, eqt_rb, eqt_ri, slD_t, max3C_i, ixt0, ixt1, ixt2, ixt3, ixl0, ixl1, ixtl, ixll, truD, lenD, startC, endP, List.map_cons, List.map_nil, List.length_cons, List.length_nil, List.cons_append, List.nil_append, List.getElem?_cons_zero, List.getElem?_cons_succ, List.set_cons_zero, List.set_cons_succ, List.replicate_succ, List.replicate_zero, Nat.reduceSub, Nat.reduceAdd, Nat.reduceLT, Option.isSome_some, true_and, and_true, ne_eq, not_false_eq_true, reduceCtorEq, if_true, if_false, Bool.false_eq_true, decide_eq_true_eq, List.mem_cons, List.not_mem_nil, or_self, or_false, false_or]
        refine ⟨_, m1, rfl, rfl, by omega, by omega, pow9000 (by omega) (by omega), fun b m2 hb0 hb1 hm2 => ?_⟩
        try simp -dsimp only [sSeq, sAsg, sRet, sIf, sExp, sFor_eq, sPar2, sPar3, sSetI_eq, sAug_eq, slotA_d, sSetG_eq, sRetG, sGL, sGP, sNil, sBrk, sCnt, sNo, eName_eq, slotE_d, slotE_gen, slotE_scr, slotE_own, eC, eOp, eUn, eSc, eScL, eScR, eCh, eAnd, eOr, eNot, eIf, eTup, eLst, eCB, eIx, eIxN, eSl, eSlN, eSlS, eAddN, eLenN, eApp, eExt, ePop, eCallP_eq, eCallG_eq, eIsi, eGL, eGS, eGC, eGP, aNil, aCons, wB_eq, wTru, wTruN, wAnd, wOr, wNot, wYes, gN, gT_d, gL_own, gL_d, gsC, gsN, oNone, oSome_eq, asI_i, iLst, iTpl, iRg1, iRg2, iEnm, iEnmT, iZp, iScr, eLc_eq, hasD, slotD_eq, slotK_d, slotK_own, ownD_eq, slotO_own, isOwn, scrD, putE, asDs, asD_d, asD_own, argR_d, argR_own, argR_gen, argR_scr, asL_own, asL_d, asT_d, asB_d, sub_i, iadd_i, mul_i, fdiv_i, mod_i, pow_i, lt_i, le_i, gt_i, ge_i, add_i, add_l, add_t, cat_i, cat_l, cat_t, neg_i, eqf_i, eqt_i, lenC_l, lenC_t, absC_i, intC_i, tupC_l, tupC_t, max2C_i, min2C_i, lenC_s, reprC_b, reprA_b, reprA_i, reprA_t, reprC_i, eqf_rb, eqt_rb, eqt_ri, slD_t, max3C_i, ixt0, ixt1, ixt2, ixt3, ixl0, ixl1, ixtl, ixll, truD, lenD, startC, endP, List.map_cons, List.map_nil, List.length_cons, List.length_nil, List.cons_append, List.nil_append, List.getElem?_cons_zero, List.getElem?_cons_succ, List.set_cons_zero, List.set_cons_succ, List.replicate_succ, List.replicate_zero, Nat.reduceSub, Nat.reduceAdd, Nat.reduceLT, Option.isSome_some, true_and, and_true, ne_eq, not_false_eq_true, reduceCtorEq, if_true, if_false, Bool.false_eq_true, decide_eq_true_eq, List.mem_cons, List.not_mem_nil, or_self, or_false, false_or]
        have hc1 := cut_le xs none (some b)
        have hc2 := cut_le xs (some b) none
        have hc3 := cut_le xs (some (b + 1)) none
        have hn1 := nice_cut hgs none (some b)
        have hn2 := nice_cut hgs (some b) none
        have hn3 := nice_cut hgs (some (b + 1)) none
        by_cases ha : a = 0
        · simp -dsimp only [ha, beq_self_eq_true, sSeq, sAsg, sRet, sIf, sExp, sFor_eq, sPar2, sPar3, sSetI_eq, sAug_eq, slotA_d, sSetG_eq, sRetG, sGL, sGP, sNil, sBrk, sCnt, sNo, eName_eq, slotE_d, slotE_gen, slotE_scr, slotE_own, eC, eOp, eUn, eSc, eScL, eScR, eCh, eAnd, eOr, eNot, eIf, eTup, eLst, eCB, eIx, eIxN, eSl, eSlN, eSlS, eAddN, eLenN, eApp, eExt, ePop, eCallP_eq, eCallG_eq, eIsi, eGL, eGS, eGC, eGP, aNil, aCons, wB_eq, wTru, wTruN, wAnd, wOr, wNot, wYes, gN, gT_d, gL_own, gL_d, gsC, gsN, oNone, oSome_eq, asI_i, iLst, iTpl, iRg1, iRg2, iEnm, iEnmT, iZp, iScr, eLc_eq, hasD, slotD_eq, slotK_d, slotK_own, ownD_eq, slotO_own, isOwn, scrD, putE, asDs, asD_d, asD_own, argR_d, argR_own, argR_gen, argR_scr, asL_own, asL_d, asT_d, asB_d, sub_i, iadd_i, mul_i, fdiv_i, mod_i, pow_i, lt_i, le_i, gt_i, ge_i, add_i, add_l, add_t, cat_i, cat_l, cat_t, neg_i, eqf_i, eqt_i, lenC_l, lenC_t, absC_i, intC_i, tupC_l, tupC_t, max2C_i, min2C_i, lenC_s, reprC_b, reprA_b, reprA_i, reprA_t, reprC_i, eqf_rb, eqt_rb, eqt_ri, slD_t, max3C_i, ixt0, ixt1, ixt2, ixt3, ixl0, ixl1, ixtl, ixll, truD, lenD, startC, endP, List.map_cons, List.map_nil, List.length_cons, List.length_nil, List.cons_append, List.nil_append, List.getElem?_cons_zero, List.getElem?_cons_succ, List.set_cons_zero, List.set_cons_succ, List.replicate_succ, List.replicate_zero, Nat.reduceSub, Nat.reduceAdd, Nat.reduceLT, Option.isSome_some, true_and, and_true, ne_eq, not_false_eq_true, reduceCtorEq, if_true, if_false, Bool.false_eq_true, decide_eq_true_eq, List.mem_cons, List.not_mem_nil, or_self, or_false, false_or]
          exact ⟨by omega, hQ _ _ (good_tup (nice_app hn1 hn3)) (by omega)⟩
        have ha2 : (a == 0) = false := by simpa using ha
        simp -dsimp only [ha2, sSeq, sAsg, sRet, sIf, sExp, sFor_eq, sPar2, sPar3, sSetI_eq, sAug_eq, slotA_d, sSetG_eq, sRetG, sGL, sGP, sNil, sBrk, sCnt, sNo, eName_eq, slotE_d, slotE_gen, slotE_scr, slotE_own, eC, eOp, eUn, eSc, eScL, eScR, eCh, eAnd, eOr, eNot, eIf, eTup, eLst, eCB, eIx, eIxN, eSl, eSlN, eSlS, eAddN, eLenN, eApp, eExt, ePop, eCallP_eq, eCallG_eq, eIsi, eGL, eGS, eGC, eGP, aNil, aCons, wB_eq, wTru, wTruN, wAnd, wOr, wNot, wYes, gN, gT_d, gL_own, gL_d, gsC, gsN, oNone, oSome_eq, asI_i, iLst, iTpl, iRg1, iRg2, iEnm, iEnmT, iZp, iScr, eLc_eq, hasD, slotD_eq, slotK_d, slotK_own, ownD_eq, slotO_own, isOwn, scrD, putE, asDs, asD_d, asD_own, argR_d, argR_own, argR_gen, argR_scr, asL_own, asL_d, asT_d, asB_d, sub_i, iadd_i, mul_i, fdiv_i, mod_i, pow_i, lt_i, le_i, gt_i, ge_i, add_i, add_l, add_t, cat_i, cat_l, cat_t, neg_i, eqf_i, eqt_i, lenC_l, lenC_t, absC_i, intC_i, tupC_l, tupC_t, max2C_i, min2C_i, lenC_s, reprC_b, reprA_b, reprA_i, reprA_t, reprC_i, eqf_rb, eqt_rb, eqt_ri, slD_t, max3C_i, ixt0, ixt1, ixt2, ixt3, ixl0, ixl1, ixtl, ixll, truD, lenD, startC, endP, List.map_cons, List.map_nil, List.length_cons, List.length_nil, List.cons_append, List.nil_append, List.getElem?_cons_zero, List.getElem?_cons_succ, List.set_cons_zero, List.set_cons_succ, List.replicate_succ, List.replicate_zero, Nat.reduceSub, Nat.reduceAdd, Nat.reduceLT, Option.isSome_some, true_and, and_true, ne_eq, not_false_eq_true, reduceCtorEq, if_true, if_false, Bool.false_eq_true, decide_eq_true_eq, List.mem_cons, List.not_mem_nil, or_self, or_false, false_or]
        by_cases hb : a = 1
        · simp -dsimp only [hb, beq_self_eq_true, sSeq, sAsg, sRet, sIf, sExp, sFor_eq, sPar2, sPar3, sSetI_eq, sAug_eq, slotA_d, sSetG_eq, sRetG, sGL, sGP, sNil, sBrk, sCnt, sNo, eName_eq, slotE_d, slotE_gen, slotE_scr, slotE_own, eC, eOp, eUn, eSc, eScL, eScR, eCh, eAnd, eOr, eNot, eIf, eTup, eLst, eCB, eIx, eIxN, eSl, eSlN, eSlS, eAddN, eLenN, eApp, eExt, ePop, eCallP_eq, eCallG_eq, eIsi, eGL, eGS, eGC, eGP, aNil, aCons, wB_eq, wTru, wTruN, wAnd, wOr, wNot, wYes, gN, gT_d, gL_own, gL_d, gsC, gsN, oNone, oSome_eq, asI_i, iLst, iTpl, iRg1, iRg2, iEnm, iEnmT, iZp, iScr, eLc_eq, hasD, slotD_eq, slotK_d, slotK_own, ownD_eq, slotO_own, isOwn, scrD, putE, asDs, asD_d, asD_own, argR_d, argR_own, argR_gen, argR_scr, asL_own, asL_d, asT_d, asB_d, sub_i, iadd_i, mul_i, fdiv_i, mod_i, pow_i, lt_i, le_i, gt_i, ge_i, add_i, add_l, add_t, cat_i, cat_l, cat_t, neg_i, eqf_i, eqt_i, lenC_l, lenC_t, absC_i, intC_i, tupC_l, tupC_t, max2C_i, min2C_i, lenC_s, reprC_b, reprA_b, reprA_i, reprA_t, reprC_i, eqf_rb, eqt_rb, eqt_ri, slD_t, max3C_i, ixt0, ixt1, ixt2, ixt3, ixl0, ixl1, ixtl, ixll, truD, lenD, startC, endP, List.map_cons, List.map_nil, List.length_cons, List.length_nil, List.cons_append, List.nil_append, List.getElem?_cons_zero, List.getElem?_cons_succ, List.set_cons_zero, List.set_cons_succ, List.replicate_succ, List.replicate_zero, Nat.reduceSub, Nat.reduceAdd, Nat.reduceLT, Option.isSome_some, true_and, and_true, ne_eq, not_false_eq_true, reduceCtorEq, if_true, if_false, Bool.false_eq_true, decide_eq_true_eq, List.mem_cons, List.not_mem_nil, or_self, or_false, false_or]
          refine ⟨m2, rfl, rfl, by omega, fun y m h1' h2 => ?_⟩
          have h1 := h3 h1'
          try simp -dsimp only [sSeq, sAsg, sRet, sIf, sExp, sFor_eq, sPar2, sPar3, sSetI_eq, sAug_eq, slotA_d, sSetG_eq, sRetG, sGL, sGP, sNil, sBrk, sCnt, sNo, eName_eq, slotE_d, slotE_gen, slotE_scr, slotE_own, eC, eOp, eUn, eSc, eScL, eScR, eCh, eAnd, eOr, eNot, eIf, eTup, eLst, eCB, eIx, eIxN, eSl, eSlN, eSlS, eAddN, eLenN, eApp, eExt, ePop, eCallP_eq, eCallG_eq, eIsi, eGL, eGS, eGC, eGP, aNil, aCons, wB_eq, wTru, wTruN, wAnd, wOr, wNot, wYes, gN, gT_d, gL_own, gL_d, gsC, gsN, oNone, oSome_eq, asI_i, iLst, iTpl, iRg1, iRg2, iEnm, iEnmT, iZp, iScr, eLc_eq, hasD, slotD_eq, slotK_d, slotK_own, ownD_eq, slotO_own, isOwn, scrD, putE, asDs, asD_d, asD_own, argR_d, argR_own, argR_gen, argR_scr, asL_own, asL_d, asT_d, asB_d, sub_i, iadd_i, mul_i, fdiv_i, mod_i, pow_i, lt_i, le_i, gt_i, ge_i, add_i, add_l, add_t, cat_i, cat_l, cat_t, neg_i, eqf_i, eqt_i, lenC_l, lenC_t, absC_i, intC_i, tupC_l, tupC_t, max2C_i, min2C_i, lenC_s, reprC_b, reprA_b, reprA_i, reprA_t, reprC_i, eqf_rb, eqt_rb, eqt_ri, slD_t, max3C_i, ixt0, ixt1, ixt2, ixt3, ixl0, ixl1, ixtl, ixll, truD, lenD, startC, endP, List.map_cons, List.map_nil, List.length_cons, List.length_nil, List.cons_append, List.nil_append, List.getElem?_cons_zero, List.getElem?_cons_succ, List.set_cons_zero, List.set_cons_succ, List.replicate_succ, List.replicate_zero, Nat.reduceSub, Nat.reduceAdd, Nat.reduceLT, Option.isSome_some, true_and, and_true, ne_eq, not_false_eq_true, reduceCtorEq, if_true, if_false, Bool.false_eq_true, decide_eq_true_eq, List.mem_cons, List.not_mem_nil, or_self, or_false, false_or]
          exact ⟨by decide, by omega, by simp only [List.length_append, List.length_cons, List.length_nil]; omega, hQ _ _ (good_tup (nice_app (nice_app hn1 (nice_one h1)) hn2)) (by omega)⟩
        have hb2 : (a == 1) = false := by simpa using hb
        simp -dsimp only [hb2, sSeq, sAsg, sRet, sIf, sExp, sFor_eq, sPar2, sPar3, sSetI_eq, sAug_eq, slotA_d, sSetG_eq, sRetG, sGL, sGP, sNil, sBrk, sCnt, sNo, eName_eq, slotE_d, slotE_gen, slotE_scr, slotE_own, eC, eOp, eUn, eSc, eScL, eScR, eCh, eAnd, eOr, eNot, eIf, eTup, eLst, eCB, eIx, eIxN, eSl, eSlN, eSlS, eAddN, eLenN, eApp, eExt, ePop, eCallP_eq, eCallG_eq, eIsi, eGL, eGS, eGC, eGP, aNil, aCons, wB_eq, wTru, wTruN, wAnd, wOr, wNot, wYes, gN, gT_d, gL_own, gL_d, gsC, gsN, oNone, oSome_eq, asI_i, iLst, iTpl, iRg1, iRg2, iEnm, iEnmT, iZp, iScr, eLc_eq, hasD, slotD_eq, slotK_d, slotK_own, ownD_eq, slotO_own, isOwn, scrD, putE, asDs, asD_d, asD_own, argR_d, argR_own, argR_gen, argR_scr, asL_own, asL_d, asT_d, asB_d, sub_i, iadd_i, mul_i, fdiv_i, mod_i, pow_i, lt_i, le_i, gt_i, ge_i, add_i, add_l, add_t, cat_i, cat_l, cat_t, neg_i, eqf_i, eqt_i, lenC_l, lenC_t, absC_i, intC_i, tupC_l, tupC_t, max2C_i, min2C_i, lenC_s, reprC_b, reprA_b, reprA_i, reprA_t, reprC_i, eqf_rb, eqt_rb, eqt_ri, slD_t, max3C_i, ixt0, ixt1, ixt2, ixt3, ixl0, ixl1, ixtl, ixll, truD, lenD, startC, endP, List.map_cons, List.map_nil, List.length_cons, List.length_nil, List.cons_append, List.nil_append, List.getElem?_cons_zero, List.getElem?_cons_succ, List.set_cons_zero, List.set_cons_succ, List.replicate_succ, List.replicate_zero, Nat.reduceSub, Nat.reduceAdd, Nat.reduceLT, Option.isSome_some, true_and, and_true, ne_eq, not_false_eq_true, reduceCtorEq, if_true, if_false, Bool.false_eq_true, decide_eq_true_eq, List.mem_cons, List.not_mem_nil, or_self, or_false, false_or]
        by_cases hc : a = 2
        · simp -dsimp only [hc, beq_self_eq_true, sSeq, sAsg, sRet, sIf, sExp, sFor_eq, sPar2, sPar3, sSetI_eq, sAug_eq, slotA_d, sSetG_eq, sRetG, sGL, sGP, sNil, sBrk, sCnt, sNo, eName_eq, slotE_d, slotE_gen, slotE_scr, slotE_own, eC, eOp, eUn, eSc, eScL, eScR, eCh, eAnd, eOr, eNot, eIf, eTup, eLst, eCB, eIx, eIxN, eSl, eSlN, eSlS, eAddN, eLenN, eApp, eExt, ePop, eCallP_eq, eCallG_eq, eIsi, eGL, eGS, eGC, eGP, aNil, aCons, wB_eq, wTru, wTruN, wAnd, wOr, wNot, wYes, gN, gT_d, gL_own, gL_d, gsC, gsN, oNone, oSome_eq, asI_i, iLst, iTpl, iRg1, iRg2, iEnm, iEnmT, iZp, iScr, eLc_eq, hasD, slotD_eq, slotK_d, slotK_own, ownD_eq, slotO_own, isOwn, scrD, putE, asDs, asD_d, asD_own, argR_d, argR_own, argR_gen, argR_scr, asL_own, asL_d, asT_d, asB_d, sub_i, iadd_i, mul_i, fdiv_i, mod_i, pow_i, lt_i, le_i, gt_i, ge_i, add_i, add_l, add_t, cat_i, cat_l, cat_t, neg_i, eqf_i, eqt_i, lenC_l, lenC_t, absC_i, intC_i, tupC_l, tupC_t, max2C_i, min2C_i, lenC_s, reprC_b, reprA_b, reprA_i, reprA_t, reprC_i, eqf_rb, eqt_rb, eqt_ri, slD_t, max3C_i, ixt0, ixt1, ixt2, ixt3, ixl0, ixl1, ixtl, ixll, truD, lenD, startC, endP, List.map_cons, List.map_nil, List.length_cons, List.length_nil, List.cons_append, List.nil_append, List.getElem?_cons_zero, List.getElem?_cons_succ, List.set_cons_zero, List.set_cons_succ, List.replicate_succ, List.replicate_zero, Nat.reduceSub, Nat.reduceAdd, Nat.reduceLT, Option.isSome_some, true_and, and_true, ne_eq, not_false_eq_true, reduceCtorEq, if_true, if_false, Bool.false_eq_true, decide_eq_true_eq, List.mem_cons, List.not_mem_nil, or_self, or_false, false_or]
          refine ⟨m2, rfl, rfl, by omega, fun y m h1' h2 => ?_⟩
          have h1 := h3 h1'
          try simp -dsimp only [sSeq, sAsg, sRet, sIf, sExp, sFor_eq, sPar2, sPar3, sSetI_eq, sAug_eq, slotA_d, sSetG_eq, sRetG, sGL, sGP, sNil, sBrk, sCnt, sNo, eName_eq, slotE_d, slotE_gen, slotE_scr, slotE_own, eC, eOp, eUn, eSc, eScL, eScR, eCh, eAnd, eOr, eNot, eIf, eTup, eLst, eCB, eIx, eIxN, eSl, eSlN, eSlS, eAddN, eLenN, eApp, eExt, ePop, eCallP_eq, eCallG_eq, eIsi, eGL, eGS, eGC, eGP, aNil, aCons, wB_eq, wTru, wTruN, wAnd, wOr, wNot, wYes, gN, gT_d, gL_own, gL_d, gsC, gsN, oNone, oSome_eq, asI_i, iLst, iTpl, iRg1, iRg2, iEnm, iEnmT, iZp, iScr, eLc_eq, hasD, slotD_eq, slotK_d, slotK_own, ownD_eq, slotO_own, isOwn, scrD, putE, asDs, asD_d, asD_own, argR_d, argR_own, argR_gen, argR_scr, asL_own, asL_d, asT_d, asB_d, sub_i, iadd_i, mul_i, fdiv_i, mod_i, pow_i, lt_i, le_i, gt_i, ge_i, add_i, add_l, add_t, cat_i, cat_l, cat_t, neg_i, eqf_i, eqt_i, lenC_l, lenC_t, absC_i, intC_i, tupC_l, tupC_t, max2C_i, min2C_i, lenC_s, reprC_b, reprA_b, reprA_i, reprA_t, reprC_i, eqf_rb, eqt_rb, eqt_ri, slD_t, max3C_i, ixt0, ixt1, ixt2, ixt3, ixl0, ixl1, ixtl, ixll, truD, lenD, startC, endP, List.map_cons, List.map_nil, List.length_cons, List.length_nil, List.cons_append, List.nil_append, List.getElem?_cons_zero, List.getElem?_cons_succ, List.set_cons_zero, List.set_cons_succ, List.replicate_succ, List.replicate_zero, Nat.reduceSub, Nat.reduceAdd, Nat.reduceLT, Option.isSome_some, true_and, and_true, ne_eq, not_false_eq_true, reduceCtorEq, if_true, if_false, Bool.false_eq_true, decide_eq_true_eq, List.mem_cons, List.not_mem_nil, or_self, or_false, false_or]
          exact ⟨by decide, by omega, by simp only [List.length_append, List.length_cons, List.length_nil]; omega, hQ _ _ (good_tup (nice_app (nice_app hn1 (nice_one h1)) hn3)) (by omega)⟩
        have hcc : (a == 2) = false := by simpa using hc
        simp -dsimp only [hcc, sSeq, sAsg, sRet, sIf, sExp, sFor_eq, sPar2, sPar3, sSetI_eq, sAug_eq, slotA_d, sSetG_eq, sRetG, sGL, sGP, sNil, sBrk, sCnt, sNo, eName_eq, slotE_d, slotE_gen, slotE_scr, slotE_own, eC, eOp, eUn, eSc, eScL, eScR, eCh, eAnd, eOr, eNot, eIf, eTup, eLst, eCB, eIx, eIxN, eSl, eSlN, eSlS, eAddN, eLenN, eApp, eExt, ePop, eCallP_eq, eCallG_eq, eIsi, eGL, eGS, eGC, eGP, aNil, aCons, wB_eq, wTru, wTruN, wAnd, wOr, wNot, wYes, gN, gT_d, gL_own, gL_d, gsC, gsN, oNone, oSome_eq, asI_i, iLst, iTpl, iRg1, iRg2, iEnm, iEnmT, iZp, iScr, eLc_eq, hasD, slotD_eq, slotK_d, slotK_own, ownD_eq, slotO_own, isOwn, scrD, putE, asDs, asD_d, asD_own, argR_d, argR_own, argR_gen, argR_scr, asL_own, asL_d, asT_d, asB_d, sub_i, iadd_i, mul_i, fdiv_i, mod_i, pow_i, lt_i, le_i, gt_i, ge_i, add_i, add_l, add_t, cat_i, cat_l, cat_t, neg_i, eqf_i, eqt_i, lenC_l, lenC_t, absC_i, intC_i, tupC_l, tupC_t, max2C_i, min2C_i, lenC_s, reprC_b, reprA_b, reprA_i, reprA_t, reprC_i, eqf_rb, eqt_rb, eqt_ri, slD_t, max3C_i, ixt0, ixt1, ixt2, ixt3, ixl0, ixl1, ixtl, ixll, truD, lenD, startC, endP, List.map_cons, List.map_nil, List.length_cons, List.length_nil, List.cons_append, List.nil_append, List.getElem?_cons_zero, List.getElem?_cons_succ, List.set_cons_zero, List.set_cons_succ, List.replicate_succ, List.replicate_zero, Nat.reduceSub, Nat.reduceAdd, Nat.reduceLT, Option.isSome_some, true_and, and_true, ne_eq, not_false_eq_true, reduceCtorEq, if_true, if_false, Bool.false_eq_true, decide_eq_true_eq, List.mem_cons, List.not_mem_nil, or_self, or_false, false_or]
        refine ixt_of hb0 hb1 fun x hx => ?_
        refine ⟨x, m2, rfl, rfl, by omega, hxs x hx, ⟨by omega, hsd x hx⟩, fun y m h1 h2 => ?_⟩
        try simp -dsimp only [sSeq, sAsg, sRet, sIf, sExp, sFor_eq, sPar2, sPar3, sSetI_eq, sAug_eq, slotA_d, sSetG_eq, sRetG, sGL, sGP, sNil, sBrk, sCnt, sNo, eName_eq, slotE_d, slotE_gen, slotE_scr, slotE_own, eC, eOp, eUn, eSc, eScL, eScR, eCh, eAnd, eOr, eNot, eIf, eTup, eLst, eCB, eIx, eIxN, eSl, eSlN, eSlS, eAddN, eLenN, eApp, eExt, ePop, eCallP_eq, eCallG_eq, eIsi, eGL, eGS, eGC, eGP, aNil, aCons, wB_eq, wTru, wTruN, wAnd, wOr, wNot, wYes, gN, gT_d, gL_own, gL_d, gsC, gsN, oNone, oSome_eq, asI_i, iLst, iTpl, iRg1, iRg2, iEnm, iEnmT, iZp, iScr, eLc_eq, hasD, slotD_eq, slotK_d, slotK_own, ownD_eq, slotO_own, isOwn, scrD, putE, asDs, asD_d, asD_own, argR_d, argR_own, argR_gen, argR_scr, asL_own, asL_d, asT_d, asB_d, sub_i, iadd_i, mul_i, fdiv_i, mod_i, pow_i, lt_i, le_i, gt_i, ge_i, add_i, add_l, add_t, cat_i, cat_l, cat_t, neg_i, eqf_i, eqt_i, lenC_l, lenC_t, absC_i, intC_i, tupC_l, tupC_t, max2C_i, min2C_i, lenC_s, reprC_b, reprA_b, reprA_i, reprA_t, reprC_i, eqf_rb, eqt_rb, eqt_ri, slD_t, max3C_i, ixt0, ixt1, ixt2, ixt3, ixl0, ixl1, ixtl, ixll, truD, lenD, startC, endP, List.map_cons, List.map_nil, List.length_cons, List.length_nil, List.cons_append, List.nil_append, List.getElem?_cons_zero, List.getElem?_cons_succ, List.set_cons_zero, List.set_cons_succ, List.replicate_succ, List.replicate_zero, Nat.reduceSub, Nat.reduceAdd, Nat.reduceLT, Option.isSome_some, true_and, and_true, ne_eq, not_false_eq_true, reduceCtorEq, if_true, if_false, Bool.false_eq_true, decide_eq_true_eq, List.mem_cons, List.not_mem_nil, or_self, or_false, false_or]
        exact ⟨by decide, by omega, by simp only [List.length_append, List.length_cons, List.length_nil]; omega, hQ _ _ (good_tup (nice_app (nice_app hn1 (nice_one h1)) hn3)) (by omega)⟩
end K

set_option Elab.async false
set_option maxRecDepth 100000
set_option linter.all false
set_option autoImplicit false
set_option maxHeartbeats 4000000
namespace K
open PySem L2 Dl
theorem enum_at {l : List Tie} {i : Nat} {x : Px} (h : (enumX 0 (l.map eT))[i]? = some x) : ∃ t, l[i]? = some t ∧ x = .tuple [.int i, eT t] := by
  have hi : i < l.length := by
    have := (List.getElem?_eq_some_iff.mp h).1
    rw [enumX_length, List.length_map] at this
    exact this
  have e : l[i]? = some l[i] := by simp [hi]
  have q := enumX_get (l.map eT) 0 i (eT l[i]) (map_of eT e)
  rw [h] at q
  refine ⟨l[i], e, ?_⟩
  rw [Option.some.inj q, Int.zero_add]
abbrev Cways_out : Cn := fun rs g Q => ∃ w r, rs = [.d (eW w), .d (.int r)] ∧ w.ties.length ≤ 1000 ∧ Q (.d (.tuple ((outs w r).map eC2))) g
def wways_out : WS :=
  (sSeq (sAsg (eLst aNil) (gN 2))
  (sSeq (sFor (iEnmT (aCons (eIxN 0 (eC (.int 1))) aNil)) (gT 2 (gsCons (gN 3) (gsCons (gN 4) gsNil)))
  (sSeq (sIf (wB (eScR 1 (eqD false) (eIxN 4 (eC (.int 0))))) (sExp (eApp 2 (eTup (aCons (eName 3) (aCons (eC (.int 1)) aNil))))) sNil)
  (sIf (wB (eScR 1 (eqD false) (eIxN 4 (eC (.int 1))))) (sExp (eApp 2 (eTup (aCons (eName 3) (aCons (eUn negD (eC (.int 1))) aNil))))) sNil)))
  (sRet (eCB tupC (aCons (eName 2) aNil)))))
theorem lenways_out (rs : List Rv) (g : Option Nat) (Q : Rv → Option Nat → Prop) (h : Cways_out rs g Q) : rs.length = 2 := by
  obtain ⟨w, t, rfl, _⟩ := h
  rfl
theorem specways_out (rs : List Rv) (g : Option Nat) (Q : Rv → Option Nat → Prop) (h : Cways_out rs g Q) : wways_out (startC 5 rs g) (endP Q) fun _ _ => False := by
  obtain ⟨w, r, rfl, hl, hQ⟩ := h
  simp -dsimp only [wways_out, eW, sSeq, sAsg, sRet, sIf, sExp, sFor_eq, sPar2, sPar3, sSetI_eq, sAug_eq, slotA_d, sSetG_eq, sRetG, sGL, sGP, sNil, sBrk, sCnt, sNo, eName_eq, slotE_d, slotE_gen, slotE_scr, slotE_own, eC, eOp, eUn, eSc, eScL, eScR, eCh, eAnd, eOr, eNot, eIf, eTup, eLst, eCB, eIx, eIxN, eSl, eSlN, eSlS, eAddN, eLenN, eApp, eExt, ePop, eCallP_eq, eCallG_eq, eIsi, eGL, eGS, eGC, eGP, aNil, aCons, wB_eq, wTru, wTruN, wAnd, wOr, wNot, wYes, gN, gT_d, gL_own, gL_d, gsC, gsN, oNone, oSome_eq, asI_i, iLst, iTpl, iRg1, iRg2, iEnm, iEnmT, iZp, iScr, eLc_eq, hasD, slotD_eq, slotK_d, slotK_own, ownD_eq, slotO_own, isOwn, scrD, putE, asDs, asD_d, asD_own, argR_d, argR_own, argR_gen, argR_scr, asL_own, asL_d, asT_d, asB_d, sub_i, iadd_i, mul_i, fdiv_i, mod_i, pow_i, lt_i, le_i, gt_i, ge_i, add_i, add_l, add_t, cat_i, cat_l, cat_t, neg_i, eqf_i, eqt_i, lenC_l, lenC_t, absC_i, intC_i, tupC_l, tupC_t, max2C_i, min2C_i, lenC_s, reprC_b, reprA_b, reprA_i, reprA_t, reprC_i, eqf_rb, eqt_rb, eqt_ri, slD_t, max3C_i, ixt0, ixt1, ixt2, ixt3, ixl0, ixl1, ixtl, ixll, truD, lenD, startC, endP, List.map_cons, List.map_nil, List.length_cons, List.length_nil, List.cons_append, List.nil_append, List.getElem?_cons_zero, List.getElem?_cons_succ, List.set_cons_zero, List.set_cons_succ, List.replicate_succ, List.replicate_zero, Nat.reduceSub, Nat.reduceAdd, Nat.reduceLT, Option.isSome_some, true_and, and_true, ne_eq, not_false_eq_true, reduceCtorEq, if_true, if_false, Bool.false_eq_true, decide_eq_true_eq, List.mem_cons, List.not_mem_nil, or_self, or_false, false_or]
  refine ⟨by decide, ?_⟩
  refine forW_ind _ (fun i c => ∃ (x3 x4 : Option Rv), c = ⟨[some (.d (.tuple [.int w.rooms, .tuple (w.ties.map eT)])), some (.d (.int r)), some (.own ((outsN w r i).map eC2)), x3, x4], g⟩) (fun i x c hx hI R hR => ?_) (fun c hI => ?_) _ ⟨_, _, rfl⟩
  · obtain ⟨x3, x4, rfl⟩ := hI
    obtain ⟨t, ht, rfl⟩ := enum_at hx
    have hn := outsN_len w r i
    have hil : i < w.ties.length := (List.getElem?_eq_some_iff.mp ht).1
    have hs := outsN_succ w r i ht
    simp -dsimp only [eT, sSeq, sAsg, sRet, sIf, sExp, sFor_eq, sPar2, sPar3, sSetI_eq, sAug_eq, slotA_d, sSetG_eq, sRetG, sGL, sGP, sNil, sBrk, sCnt, sNo, eName_eq, slotE_d, slotE_gen, slotE_scr, slotE_own, eC, eOp, eUn, eSc, eScL, eScR, eCh, eAnd, eOr, eNot, eIf, eTup, eLst, eCB, eIx, eIxN, eSl, eSlN, eSlS, eAddN, eLenN, eApp, eExt, ePop, eCallP_eq, eCallG_eq, eIsi, eGL, eGS, eGC, eGP, aNil, aCons, wB_eq, wTru, wTruN, wAnd, wOr, wNot, wYes, gN, gT_d, gL_own, gL_d, gsC, gsN, oNone, oSome_eq, asI_i, iLst, iTpl, iRg1, iRg2, iEnm, iEnmT, iZp, iScr, eLc_eq, hasD, slotD_eq, slotK_d, slotK_own, ownD_eq, slotO_own, isOwn, scrD, putE, asDs, asD_d, asD_own, argR_d, argR_own, argR_gen, argR_scr, asL_own, asL_d, asT_d, asB_d, sub_i, iadd_i, mul_i, fdiv_i, mod_i, pow_i, lt_i, le_i, gt_i, ge_i, add_i, add_l, add_t, cat_i, cat_l, cat_t, neg_i, eqf_i, eqt_i, lenC_l, lenC_t, absC_i, intC_i, tupC_l, tupC_t, max2C_i, min2C_i, lenC_s, reprC_b, reprA_b, reprA_i, reprA_t, reprC_i, eqf_rb, eqt_rb, eqt_ri, slD_t, max3C_i, ixt0, ixt1, ixt2, ixt3, ixl0, ixl1, ixtl, ixll, truD, lenD, startC, endP, List.map_cons, List.map_nil, List.length_cons, List.length_nil, List.cons_append, List.nil_append, List.getElem?_cons_zero, List.getElem?_cons_succ, List.set_cons_zero, List.set_cons_succ, List.replicate_succ, List.replicate_zero, Nat.reduceSub, Nat.reduceAdd, Nat.reduceLT, Option.isSome_some, true_and, and_true, ne_eq, not_false_eq_true, reduceCtorEq, if_true, if_false, Bool.false_eq_true, decide_eq_true_eq, List.mem_cons, List.not_mem_nil, or_self, or_false, false_or]
    by_cases hv : t.v = r
    · have hvb : (t.v == r) = true := by simpa using hv
      simp -dsimp only [hvb, sSeq, sAsg, sRet, sIf, sExp, sFor_eq, sPar2, sPar3, sSetI_eq, sAug_eq, slotA_d, sSetG_eq, sRetG, sGL, sGP, sNil, sBrk, sCnt, sNo, eName_eq, slotE_d, slotE_gen, slotE_scr, slotE_own, eC, eOp, eUn, eSc, eScL, eScR, eCh, eAnd, eOr, eNot, eIf, eTup, eLst, eCB, eIx, eIxN, eSl, eSlN, eSlS, eAddN, eLenN, eApp, eExt, ePop, eCallP_eq, eCallG_eq, eIsi, eGL, eGS, eGC, eGP, aNil, aCons, wB_eq, wTru, wTruN, wAnd, wOr, wNot, wYes, gN, gT_d, gL_own, gL_d, gsC, gsN, oNone, oSome_eq, asI_i, iLst, iTpl, iRg1, iRg2, iEnm, iEnmT, iZp, iScr, eLc_eq, hasD, slotD_eq, slotK_d, slotK_own, ownD_eq, slotO_own, isOwn, scrD, putE, asDs, asD_d, asD_own, argR_d, argR_own, argR_gen, argR_scr, asL_own, asL_d, asT_d, asB_d, sub_i, iadd_i, mul_i, fdiv_i, mod_i, pow_i, lt_i, le_i, gt_i, ge_i, add_i, add_l, add_t, cat_i, cat_l, cat_t, neg_i, eqf_i, eqt_i, lenC_l, lenC_t, absC_i, intC_i, tupC_l, tupC_t, max2C_i, min2C_i, lenC_s, reprC_b, reprA_b, reprA_i, reprA_t, reprC_i, eqf_rb, eqt_rb, eqt_ri, slD_t, max3C_i, ixt0, ixt1, ixt2, ixt3, ixl0, ixl1, ixtl, ixll, truD, lenD, startC, endP, List.map_cons, List.map_nil, List.length_cons, List.length_nil, List.cons_append, List.nil_append, List.getElem?_cons_zero, List.getElem?_cons_succ, List.set_cons_zero, List.set_cons_succ, List.replicate_succ, List.replicate_zero, Nat.reduceSub, Nat.reduceAdd, Nat.reduceLT, Option.isSome_some, true_and, and_true, ne_eq, not_false_eq_true, reduceCtorEq, if_true, if_false, Bool.false_eq_true, decide_eq_true_eq, List.mem_cons, List.not_mem_nil, or_self, or_false, false_or]
      refine ⟨by decide, by simp; omega, ?_⟩
      by_cases hw : t.w = r
      · have hwb : (t.w == r) = true := by simpa using hw
        simp -dsimp only [hwb, sSeq, sAsg, sRet, sIf, sExp, sFor_eq, sPar2, sPar3, sSetI_eq, sAug_eq, slotA_d, sSetG_eq, sRetG, sGL, sGP, sNil, sBrk, sCnt, sNo, eName_eq, slotE_d, slotE_gen, slotE_scr, slotE_own, eC, eOp, eUn, eSc, eScL, eScR, eCh, eAnd, eOr, eNot, eIf, eTup, eLst, eCB, eIx, eIxN, eSl, eSlN, eSlS, eAddN, eLenN, eApp, eExt, ePop, eCallP_eq, eCallG_eq, eIsi, eGL, eGS, eGC, eGP, aNil, aCons, wB_eq, wTru, wTruN, wAnd, wOr, wNot, wYes, gN, gT_d, gL_own, gL_d, gsC, gsN, oNone, oSome_eq, asI_i, iLst, iTpl, iRg1, iRg2, iEnm, iEnmT, iZp, iScr, eLc_eq, hasD, slotD_eq, slotK_d, slotK_own, ownD_eq, slotO_own, isOwn, scrD, putE, asDs, asD_d, asD_own, argR_d, argR_own, argR_gen, argR_scr, asL_own, asL_d, asT_d, asB_d, sub_i, iadd_i, mul_i, fdiv_i, mod_i, pow_i, lt_i, le_i, gt_i, ge_i, add_i, add_l, add_t, cat_i, cat_l, cat_t, neg_i, eqf_i, eqt_i, lenC_l, lenC_t, absC_i, intC_i, tupC_l, tupC_t, max2C_i, min2C_i, lenC_s, reprC_b, reprA_b, reprA_i, reprA_t, reprC_i, eqf_rb, eqt_rb, eqt_ri, slD_t, max3C_i, ixt0, ixt1, ixt2, ixt3, ixl0, ixl1, ixtl, ixll, truD, lenD, startC, endP, List.map_cons, List.map_nil, List.length_cons, List.length_nil, List.cons_append, List.nil_append, List.getElem?_cons_zero, List.getElem?_cons_succ, List.set_cons_zero, List.set_cons_succ, List.replicate_succ, List.replicate_zero, Nat.reduceSub, Nat.reduceAdd, Nat.reduceLT, Option.isSome_some, true_and, and_true, ne_eq, not_false_eq_true, reduceCtorEq, if_true, if_false, Bool.false_eq_true, decide_eq_true_eq, List.mem_cons, List.not_mem_nil, or_self, or_false, false_or]
        refine ⟨by decide, by simp; omega, hR _ ⟨some (.d (.int i)), some (.d (eT t)), ?_⟩⟩
        rw [hs]
        simp [hv, hw, eC2, eT]
      · have hwb : (t.w == r) = false := by simpa using hw
        simp -dsimp only [hwb, sSeq, sAsg, sRet, sIf, sExp, sFor_eq, sPar2, sPar3, sSetI_eq, sAug_eq, slotA_d, sSetG_eq, sRetG, sGL, sGP, sNil, sBrk, sCnt, sNo, eName_eq, slotE_d, slotE_gen, slotE_scr, slotE_own, eC, eOp, eUn, eSc, eScL, eScR, eCh, eAnd, eOr, eNot, eIf, eTup, eLst, eCB, eIx, eIxN, eSl, eSlN, eSlS, eAddN, eLenN, eApp, eExt, ePop, eCallP_eq, eCallG_eq, eIsi, eGL, eGS, eGC, eGP, aNil, aCons, wB_eq, wTru, wTruN, wAnd, wOr, wNot, wYes, gN, gT_d, gL_own, gL_d, gsC, gsN, oNone, oSome_eq, asI_i, iLst, iTpl, iRg1, iRg2, iEnm, iEnmT, iZp, iScr, eLc_eq, hasD, slotD_eq, slotK_d, slotK_own, ownD_eq, slotO_own, isOwn, scrD, putE, asDs, asD_d, asD_own, argR_d, argR_own, argR_gen, argR_scr, asL_own, asL_d, asT_d, asB_d, sub_i, iadd_i, mul_i, fdiv_i, mod_i, pow_i, lt_i, le_i, gt_i, ge_i, add_i, add_l, add_t, cat_i, cat_l, cat_t, neg_i, eqf_i, eqt_i, lenC_l, lenC_t, absC_i, intC_i, tupC_l, tupC_t, max2C_i, min2C_i, lenC_s, reprC_b, reprA_b, reprA_i, reprA_t, reprC_i, eqf_rb, eqt_rb, eqt_ri, slD_t, max3C_i, ixt0, ixt1, ixt2, ixt3, ixl0, ixl1, ixtl, ixll, truD, lenD, startC, endP, List.map_cons, List.map_nil, List.length_cons, List.length_nil, List.cons_append, List.nil_append, List.getElem?_cons_zero, List.getElem?_cons_succ, List.set_cons_zero, List.set_cons_succ, List.replicate_succ, List.replicate_zero, Nat.reduceSub, Nat.reduceAdd, Nat.reduceLT, Option.isSome_some, true_and, and_true, ne_eq, not_false_eq_true, reduceCtorEq, if_true, if_false, Bool.false_eq_true, decide_eq_true_eq, List.mem_cons, List.not_mem_nil, or_self, or_false, false_or]
        refine hR _ ⟨some (.d (.int i)), some (.d (eT t)), ?_⟩
        rw [hs]
        simp [hv, hw, eC2, eT]
    · have hvb : (t.v == r) = false := by simpa using hv
      simp -dsimp only [hvb, sSeq, sAsg, sRet, sIf, sExp, sFor_eq, sPar2, sPar3, sSetI_eq, sAug_eq, slotA_d, sSetG_eq, sRetG, sGL, sGP, sNil, sBrk, sCnt, sNo, eName_eq, slotE_d, slotE_gen, slotE_scr, slotE_own, eC, eOp, eUn, eSc, eScL, eScR, eCh, eAnd, eOr, eNot, eIf, eTup, eLst, eCB, eIx, eIxN, eSl, eSlN, eSlS, eAddN, eLenN, eApp, eExt, ePop, eCallP_eq, eCallG_eq, eIsi, eGL, eGS, eGC, eGP, aNil, aCons, wB_eq, wTru, wTruN, wAnd, wOr, wNot, wYes, gN, gT_d, gL_own, gL_d, gsC, gsN, oNone, oSome_eq, asI_i, iLst, iTpl, iRg1, iRg2, iEnm, iEnmT, iZp, iScr, eLc_eq, hasD, slotD_eq, slotK_d, slotK_own, ownD_eq, slotO_own, isOwn, scrD, putE, asDs, asD_d, asD_own, argR_d, argR_own, argR_gen, argR_scr, asL_own, asL_d, asT_d, asB_d, sub_i, iadd_i, mul_i, fdiv_i, mod_i, pow_i, lt_i, le_i, gt_i, ge_i, add_i, add_l, add_t, cat_i, cat_l, cat_t, neg_i, eqf_i, eqt_i, lenC_l, lenC_t, absC_i, intC_i, tupC_l, tupC_t, max2C_i, min2C_i, lenC_s, reprC_b, reprA_b, reprA_i, reprA_t, reprC_i, eqf_rb, eqt_rb, eqt_ri, slD_t, max3C_i, ixt0, ixt1, ixt2, ixt3, ixl0, ixl1, ixtl, ixll, truD, lenD, startC, endP, List.map_cons, List.map_nil, List.length_cons, List.length_nil, List.cons_append, List.nil_append, List.getElem?_cons_zero, List.getElem?_cons_succ, List.set_cons_zero, List.set_cons_succ, List.replicate_succ, List.replicate_zero, Nat.reduceSub, Nat.reduceAdd, Nat.reduceLT, Option.isSome_some, true_and, and_true, ne_eq, not_false_eq_true, reduceCtorEq, if_true, if_false, Bool.false_eq_true, decide_eq_true_eq, List.mem_cons, List.not_mem_nil, or_self, or_false, false_or]
      by_cases hw : t.w = r
      · have hwb : (t.w == r) = true := by simpa using hw
        simp -dsimp only [hwb, sSeq, sAsg, sRet, sIf, sExp, sFor_eq, sPar2, sPar3, sSetI_eq, sAug_eq, slotA_d, sSetG_eq, sRetG, sGL, sGP, sNil, sBrk, sCnt, sNo, eName_eq, slotE_d, slotE_gen, slotE_scr, slotE_own, eC, eOp, eUn, eSc, eScL, eScR, eCh, eAnd, eOr, eNot, eIf, eTup, eLst, eCB, eIx, eIxN, eSl, eSlN, eSlS, eAddN, eLenN, eApp, eExt, ePop, eCallP_eq, eCallG_eq, eIsi, eGL, eGS, eGC, eGP, aNil, aCons, wB_eq, wTru, wTruN, wAnd, wOr, wNot, wYes, gN, gT_d, gL_own, gL_d, gsC, gsN, oNone, oSome_eq, asI_i, iLst, iTpl, iRg1, iRg2, iEnm, iEnmT, iZp, iScr, eLc_eq, hasD, slotD_eq, slotK_d, slotK_own, ownD_eq, slotO_own, isOwn, scrD, putE, asDs, asD_d, asD_own, argR_d, argR_own, argR_gen, argR_scr, asL_own, asL_d, asT_d, asB_d, sub_i, iadd_i, mul_i, fdiv_i, mod_i, pow_i, lt_i, le_i, gt_i, ge_i, add_i, add_l, add_t, cat_i, cat_l, cat_t, neg_i, eqf_i, eqt_i, lenC_l, lenC_t, absC_i, intC_i, tupC_l, tupC_t, max2C_i, min2C_i, lenC_s, reprC_b, reprA_b, reprA_i, reprA_t, reprC_i, eqf_rb, eqt_rb, eqt_ri, slD_t, max3C_i, ixt0, ixt1, ixt2, ixt3, ixl0, ixl1, ixtl, ixll, truD, lenD, startC, endP, List.map_cons, List.map_nil, List.length_cons, List.length_nil, List.cons_append, List.nil_append, List.getElem?_cons_zero, List.getElem?_cons_succ, List.set_cons_zero, List.set_cons_succ, List.replicate_succ, List.replicate_zero, Nat.reduceSub, Nat.reduceAdd, Nat.reduceLT, Option.isSome_some, true_and, and_true, ne_eq, not_false_eq_true, reduceCtorEq, if_true, if_false, Bool.false_eq_true, decide_eq_true_eq, List.mem_cons, List.not_mem_nil, or_self, or_false, false_or]
        refine ⟨by decide, by simp; omega, hR _ ⟨some (.d (.int i)), some (.d (eT t)), ?_⟩⟩
        rw [hs]
        simp [hv, hw, eC2, eT]
      · have hwb : (t.w == r) = false := by simpa using hw
        simp -dsimp only [hwb, sSeq, sAsg, sRet, sIf, sExp, sFor_eq, sPar2, sPar3, sSetI_eq, sAug_eq, slotA_d, sSetG_eq, sRetG, sGL, sGP, sNil, sBrk, sCnt, sNo, eName_eq, slotE_d, slotE_gen, slotE_scr, slotE_own, eC, eOp, eUn, eSc, eScL, eScR, eCh, eAnd, eOr, eNot, eIf, eTup, eLst, eCB, eIx, eIxN, eSl, eSlN, eSlS, eAddN, eLenN, eApp, eExt, ePop, eCallP_eq, eCallG_eq, eIsi, eGL, eGS, eGC, eGP, aNil, aCons, wB_eq, wTru, wTruN, wAnd, wOr, wNot, wYes, gN, gT_d, gL_own, gL_d, gsC, gsN, oNone, oSome_eq, asI_i, iLst, iTpl, iRg1, iRg2, iEnm, iEnmT, iZp, iScr, eLc_eq, hasD, slotD_eq, slotK_d, slotK_own, ownD_eq, slotO_own, isOwn, scrD, putE, asDs, asD_d, asD_own, argR_d, argR_own, argR_gen, argR_scr, asL_own, asL_d, asT_d, asB_d, sub_i, iadd_i, mul_i, fdiv_i, mod_i, pow_i, lt_i, le_i, gt_i, ge_i, add_i, add_l, add_t, cat_i, cat_l, cat_t, neg_i, eqf_i, eqt_i, lenC_l, lenC_t, absC_i, intC_i, tupC_l, tupC_t, max2C_i, min2C_i, lenC_s, reprC_b, reprA_b, reprA_i, reprA_t, reprC_i, eqf_rb, eqt_rb, eqt_ri, slD_t, max3C_i, ixt0, ixt1, ixt2, ixt3, ixl0, ixl1, ixtl, ixll, truD, lenD, startC, endP, List.map_cons, List.map_nil, List.length_cons, List.length_nil, List.cons_append, List.nil_append, List.getElem?_cons_zero, List.getElem?_cons_succ, List.set_cons_zero, List.set_cons_succ, List.replicate_succ, List.replicate_zero, Nat.reduceSub, Nat.reduceAdd, Nat.reduceLT, Option.isSome_some, true_and, and_true, ne_eq, not_false_eq_true, reduceCtorEq, if_true, if_false, Bool.false_eq_true, decide_eq_true_eq, List.mem_cons, List.not_mem_nil, or_self, or_false, false_or]
        refine hR _ ⟨some (.d (.int i)), some (.d (eT t)), ?_⟩
        rw [hs]
        simp [hv, hw, eT]
  · obtain ⟨x3, x4, rfl⟩ := hI
    try simp -dsimp only [sSeq, sAsg, sRet, sIf, sExp, sFor_eq, sPar2, sPar3, sSetI_eq, sAug_eq, slotA_d, sSetG_eq, sRetG, sGL, sGP, sNil, sBrk, sCnt, sNo, eName_eq, slotE_d, slotE_gen, slotE_scr, slotE_own, eC, eOp, eUn, eSc, eScL, eScR, eCh, eAnd, eOr, eNot, eIf, eTup, eLst, eCB, eIx, eIxN, eSl, eSlN, eSlS, eAddN, eLenN, eApp, eExt, ePop, eCallP_eq, eCallG_eq, eIsi, eGL, eGS, eGC, eGP, aNil, aCons, wB_eq, wTru, wTruN, wAnd, wOr, wNot, wYes, gN, gT_d, gL_own, gL_d, gsC, gsN, oNone, oSome_eq, asI_i, iLst, iTpl, iRg1, iRg2, iEnm, iEnmT, iZp, iScr, eLc_eq, hasD, slotD_eq, slotK_d, slotK_own, ownD_eq, slotO_own, isOwn, scrD, putE, asDs, asD_d, asD_own, argR_d, argR_own, argR_gen, argR_scr, asL_own, asL_d, asT_d, asB_d, sub_i, iadd_i, mul_i, fdiv_i, mod_i, pow_i, lt_i, le_i, gt_i, ge_i, add_i, add_l, add_t, cat_i, cat_l, cat_t, neg_i, eqf_i, eqt_i, lenC_l, lenC_t, absC_i, intC_i, tupC_l, tupC_t, max2C_i, min2C_i, lenC_s, reprC_b, reprA_b, reprA_i, reprA_t, reprC_i, eqf_rb, eqt_rb, eqt_ri, slD_t, max3C_i, ixt0, ixt1, ixt2, ixt3, ixl0, ixl1, ixtl, ixll, truD, lenD, startC, endP, List.map_cons, List.map_nil, List.length_cons, List.length_nil, List.cons_append, List.nil_append, List.getElem?_cons_zero, List.getElem?_cons_succ, List.set_cons_zero, List.set_cons_succ, List.replicate_succ, List.replicate_zero, Nat.reduceSub, Nat.reduceAdd, Nat.reduceLT, Option.isSome_some, true_and, and_true, ne_eq, not_false_eq_true, reduceCtorEq, if_true, if_false, Bool.false_eq_true, decide_eq_true_eq, List.mem_cons, List.not_mem_nil, or_self, or_false, false_or]
    rw [enumX_length, List.length_map]
    exact hQ
end K

set_option Elab.async false
set_option maxRecDepth 100000
set_option linter.all false
set_option autoImplicit false
set_option maxHeartbeats 4000000
namespace K
open PySem L2 Dl
/-! ### rooms that hang together -/
def Adj (ts : List Tie) (u v : Int) : Prop := ∃ t ∈ ts, (t.v = u ∧ t.w = v) ∨ (t.w = u ∧ t.v = v)
inductive Conn (ts : List Tie) (u : Int) : Int → Prop
  | refl : Conn ts u u
  | step {v x : Int} : Conn ts u v → Adj ts v x → Conn ts u x
theorem Adj.symm {ts : List Tie} {u v : Int} (h : Adj ts u v) : Adj ts v u := by
  obtain ⟨t, ht, h | h⟩ := h
  · exact ⟨t, ht, .inr ⟨h.2, h.1⟩⟩
  · exact ⟨t, ht, .inl ⟨h.2, h.1⟩⟩
theorem Conn.trans {ts : List Tie} {u v x : Int} (h : Conn ts u v) (k : Conn ts v x) : Conn ts u x := by
  induction k with
  | refl => exact h
  | step _ a ih => exact .step ih a
theorem Conn.symm {ts : List Tie} {u v : Int} (h : Conn ts u v) : Conn ts v u := by
  induction h with
  | refl => exact .refl
  | step _ a ih => exact (Conn.step .refl a.symm).trans ih
theorem Conn.mono {ts us : List Tie} {u v : Int} (h : Conn ts u v) (k : ∀ t ∈ ts, t ∈ us) : Conn us u v := by
  induction h with
  | refl => exact .refl
  | step _ a ih =>
    obtain ⟨t, ht, a⟩ := a
    exact .step ih ⟨t, k t ht, a⟩
theorem conn_nil {u v : Int} : Conn [] u v ↔ u = v := by
  constructor
  · intro h
    cases h with
    | refl => rfl
    | step _ a => obtain ⟨t, ht, _⟩ := a; cases ht
  · rintro rfl
    exact .refl
theorem conn_snoc {ts : List Tie} {t : Tie} {u x : Int} : Conn (ts ++ [t]) u x ↔ Conn ts u x ∨ (Conn ts u t.v ∧ Conn ts t.w x) ∨ (Conn ts u t.w ∧ Conn ts t.v x) := by
  constructor
  · intro h
    induction h with
    | refl => exact .inl .refl
    | step h a ih =>
      obtain ⟨s, hs, a⟩ := a
      rcases List.mem_append.mp hs with hs | hs
      · have a' : Adj ts _ _ := ⟨s, hs, a⟩
        rcases ih with ih | ⟨h1, h2⟩ | ⟨h1, h2⟩
        · exact .inl (.step ih a')
        · exact .inr (.inl ⟨h1, .step h2 a'⟩)
        · exact .inr (.inr ⟨h1, .step h2 a'⟩)
      · obtain rfl := List.mem_singleton.mp hs
        rcases a with ⟨e1, e2⟩ | ⟨e1, e2⟩
        · subst e1 e2
          rcases ih with ih | ⟨h1, h2⟩ | ⟨h1, h2⟩
          · exact .inr (.inl ⟨ih, .refl⟩)
          · exact .inr (.inl ⟨h1, .refl⟩)
          · exact .inl h1
        · subst e1 e2
          rcases ih with ih | ⟨h1, h2⟩ | ⟨h1, h2⟩
          · exact .inr (.inr ⟨ih, .refl⟩)
          · exact .inl h1
          · exact .inr (.inr ⟨h1, .refl⟩)
  · have m : ∀ s ∈ ts, s ∈ ts ++ [t] := fun s hs => List.mem_append_left _ hs
    rintro (h | ⟨h1, h2⟩ | ⟨h1, h2⟩)
    · exact h.mono m
    · exact ((h1.mono m).step ⟨t, by simp, .inl ⟨rfl, rfl⟩⟩).trans (h2.mono m)
    · exact ((h1.mono m).step ⟨t, by simp, .inr ⟨rfl, rfl⟩⟩).trans (h2.mono m)
theorem Conn.range {w : Web} {gr u v : Int} (wo : WebOk w gr) (h : Conn w.ties u v) (h0 : 0 ≤ u ∧ u < w.rooms) : 0 ≤ v ∧ v < w.rooms := by
  induction h with
  | refl => exact h0
  | step _ a ih =>
    obtain ⟨t, ht, a | a⟩ := a
    · rw [← a.2]
      exact ⟨(wo.tie t ht).w0, (wo.tie t ht).w1⟩
    · rw [← a.2]
      exact ⟨(wo.tie t ht).v0, (wo.tie t ht).v1⟩
theorem uniq_sorted {α : Type} (f : α → Int) : ∀ {l m : List α}, l.Pairwise (fun x y => f x < f y) → m.Pairwise (fun x y => f x < f y) → (∀ x, x ∈ l ↔ x ∈ m) → l = m
  | [], [], _, _, _ => rfl
  | [], y :: m, _, _, h => absurd ((h y).mpr List.mem_cons_self) (by simp)
  | x :: l, [], _, _, h => absurd ((h x).mp List.mem_cons_self) (by simp)
  | x :: l, y :: m, h1, h2, h => by
    obtain ⟨a1, a2⟩ := List.pairwise_cons.mp h1
    obtain ⟨b1, b2⟩ := List.pairwise_cons.mp h2
    have e : x = y := by
      rcases List.mem_cons.mp ((h x).mp List.mem_cons_self) with e | hx
      · exact e
      · rcases List.mem_cons.mp ((h y).mpr List.mem_cons_self) with e | hy
        · exact e.symm
        · have p := a1 y hy
          have q := b1 x hx
          omega
    subst e
    rw [uniq_sorted f a2 b2 fun z => ⟨fun hz => ?_, fun hz => ?_⟩]
    · rcases List.mem_cons.mp ((h z).mp (List.mem_cons_of_mem _ hz)) with e | k
      · subst e
        have := a1 z hz
        omega
      · exact k
    · rcases List.mem_cons.mp ((h z).mpr (List.mem_cons_of_mem _ hz)) with e | k
      · subst e
        have := b1 z hz
        omega
      · exact k
theorem nodup_len : ∀ (n : Nat) (l : List Int), l.Nodup → (∀ x ∈ l, 0 ≤ x ∧ x < (n : Int)) → l.length ≤ n
  | 0, [], _, _ => Nat.le_refl _
  | 0, x :: l, _, h => by
    have := h x List.mem_cons_self
    omega
  | n + 1, l, h1, h2 => by
    by_cases hm : (n : Int) ∈ l
    · have ih := nodup_len n (l.erase (n : Int)) (h1.erase _) fun x hx => by
        have q := (h1.mem_erase_iff).mp hx
        have := h2 x q.2
        have := q.1
        omega
      have := List.length_erase_of_mem hm
      omega
    · have ih := nodup_len n l h1 fun x hx => by
        have := h2 x hx
        have : x ≠ (n : Int) := fun z => hm (z ▸ hx)
        omega
      omega
/-- a piece's rooms, ascending -/
structure IsPiece (ts : List Tie) (r : Int) (l : List Int) : Prop where
  asc : l.Pairwise (· < ·)
  mem : ∀ x, x ∈ l ↔ Conn ts r x
theorem IsPiece.uniq {ts : List Tie} {r : Int} {l m : List Int} (h : IsPiece ts r l) (k : IsPiece ts r m) : l = m :=
  uniq_sorted id h.asc k.asc fun x => (h.mem x).trans (k.mem x).symm
theorem IsPiece.of {ts : List Tie} {r s : Int} {l : List Int} (h : IsPiece ts r l) (k : Conn ts r s) : IsPiece ts s l :=
  ⟨h.asc, fun x => (h.mem x).trans ⟨fun q => k.symm.trans q, fun q => k.trans q⟩⟩
theorem asc_of {l m : List Int} (hp : m.Perm l) (hs : m.Pairwise (· ≤ ·)) (hn : l.Nodup) : m.Pairwise (· < ·) := by
  have hm : m.Nodup := hp.nodup_iff.mpr hn
  exact (hs.and hm).imp fun h => by
    have := h.1
    have := h.2
    omega
theorem outs_all {w : Web} {i : Nat} {t : Tie} (h : w.ties[i]? = some t) {r : Int} : (t.v = r → ((i : Int), (1 : Int)) ∈ outs w r) ∧ (t.w = r → ((i : Int), (-1 : Int)) ∈ outs w r) := by
  have hi : i < w.ties.length := (List.getElem?_eq_some_iff.mp h).1
  unfold outs outsN
  constructor
  · intro e
    refine List.mem_flatMap.mpr ⟨i, List.mem_range.mpr hi, ?_⟩
    rw [h]
    simp [e]
  · intro e
    refine List.mem_flatMap.mpr ⟨i, List.mem_range.mpr hi, ?_⟩
    rw [h]
    simp [e]
/-- what a room is next to, some way out leads to -/
theorem adj_out {w : Web} {u v : Int} (h : Adj w.ties u v) : ∃ c ∈ outs w u, ∃ x, Web.at w c.1 x ∧ (rev x c.2).w = v := by
  obtain ⟨t, ht, a⟩ := h
  obtain ⟨i, hi, e⟩ := List.getElem_of_mem ht
  have e' : w.ties[i]? = some t := by rw [List.getElem?_eq_getElem hi, e]
  rcases a with ⟨e1, e2⟩ | ⟨e1, e2⟩
  · exact ⟨_, (outs_all e').1 e1, t, ⟨i, rfl, e'⟩, by simpa [rev] using e2⟩
  · exact ⟨_, (outs_all e').2 e1, t, ⟨i, rfl, e'⟩, by simpa [rev] using e2⟩
theorem out_adj {w : Web} {u : Int} {c : Int × Int} (h : c ∈ outs w u) {x : Tie} (hx : Web.at w c.1 x) : Adj w.ties u (rev x c.2).w := by
  have hv := (outs_ok h).2 x hx
  have hm : x ∈ w.ties := by
    obtain ⟨i, _, e⟩ := hx
    exact List.mem_of_getElem? e
  unfold rev at hv ⊢
  split at hv
  · rename_i hs
    rw [if_pos hs]
    exact ⟨x, hm, .inl ⟨hv, rfl⟩⟩
  · rename_i hs
    rw [if_neg hs]
    exact ⟨x, hm, .inr ⟨hv, rfl⟩⟩
theorem at_uniq {w : Web} {t : Int} {x y : Tie} (h : Web.at w t x) (k : Web.at w t y) : x = y := h.tie.symm.trans k.tie
end K

set_option Elab.async false
set_option maxRecDepth 100000
set_option linter.all false
set_option autoImplicit false
set_option maxHeartbeats 4000000
namespace K
open PySem L2 Dl
/-! ### the piece of a room -/
/-- met and waiting rooms -/
structure PI (w : Web) (r : Int) (met wait : List Int) : Prop where
  nd : met.Nodup
  rm : r ∈ met
  co : ∀ x ∈ met, Conn w.ties r x
  su : ∀ x ∈ wait, x ∈ met
  wl : wait.length ≤ met.length
def wlen : Option (Option Rv) → Nat
  | some (some (.own xs)) => xs.length
  | _ => 0
theorem any_int (l : List Int) (i : Int) : ((l.map PyData.int).any fun z => PyData.eqv z (.int i)) = decide (i ∈ l) := by
  induction l with
  | nil => simp
  | cons a l ih =>
    rw [List.map_cons, List.any_cons, ih]
    rw [Bool.eq_iff_iff]
    simp only [PyData.eqv, Bool.or_eq_true, beq_iff_eq, decide_eq_true_eq, List.mem_cons]
    constructor
    · rintro (h | h)
      · exact .inl h.symm
      · exact .inr h
    · rintro (h | h)
      · exact .inl h.symm
      · exact .inr h
theorem flat_ints (l : List Int) : (l.map PyData.int).all flatD = true := by
  rw [List.all_map]
  exact List.all_eq_true.mpr fun _ _ => rfl
theorem inT_l (l : List Int) {i : Int} {P : Rv → Prop} : inD true (.int i) (.list (l.map .int)) P = P (.d (.bool (!decide (i ∈ l)))) := by
  simp only [inD, flat_ints, any_int, true_and]
  simp [flatD]
theorem inF_l (l : List Int) {i : Int} {P : Rv → Prop} : inD false (.int i) (.list (l.map .int)) P = P (.d (.bool (decide (i ∈ l)))) := by
  simp only [inD, flat_ints, any_int, true_and]
  simp [flatD]
theorem inF_t (l : List Int) {i : Int} {P : Rv → Prop} : inD false (.int i) (.tuple (l.map .int)) P = P (.d (.bool (decide (i ∈ l)))) := by
  simp only [inD, flat_ints, any_int, true_and]
  simp [flatD]
abbrev Cpiece_of : Cn := fun rs g Q => ∃ (w : Web) (gr r : Int), rs = [.d (eW w), .d (.int r)] ∧ (WebOk w gr ∧ w.ties.length ≤ 1000 ∧ w.rooms ≤ 1000 ∧ 0 ≤ r ∧ r < w.rooms) ∧ ∀ l, IsPiece w.ties r l → Q (.d (tupI l)) g
def wpiece_of : WS :=
  (sSeq (sAsg (eLst (aCons (eName 1) aNil)) (gN 2))
  (sSeq (sAsg (eLst (aCons (eName 1) aNil)) (gN 3))
  (sSeq (sWh (wTruN 3)
  (sSeq (sAsg (ePop 3) (gN 4))
  (sFor (iTpl (eCallP Cways_out (aCons (eName 0) (aCons (eName 4) aNil)))) (gT 2 (gsCons (gN 5) (gsCons (gN 6) gsNil)))
  (sSeq (sAsg (eIx (eCallP Cends_of (aCons (eName 0) (aCons (eName 5) (aCons (eName 6) aNil)))) (eC (.int 1))) (gN 7))
  (sIf (wB (eScR 2 (inD true) (eName 7))) (sSeq (sExp (eApp 2 (eName 7)))
  (sExp (eApp 3 (eName 7)))) sNil)))))
  (sRet (eCB tupC (aCons (eCB sortIC (aCons (eName 2) aNil)) aNil))))))
theorem lenpiece_of (rs : List Rv) (g : Option Nat) (Q : Rv → Option Nat → Prop) (h : Cpiece_of rs g Q) : rs.length = 2 := by
  obtain ⟨_, _, _, rfl, _⟩ := h
  rfl
theorem specpiece_of (rs : List Rv) (g : Option Nat) (Q : Rv → Option Nat → Prop) (h : Cpiece_of rs g Q) : wpiece_of (startC 8 rs g) (endP Q) fun _ _ => False := by
  obtain ⟨w, gr, r, rfl, ⟨wo, hw, hr, h0, h1⟩, hQ⟩ := h
  simp -dsimp only [wpiece_of, Cways_out, Cends_of, sWh, sSeq, sAsg, sRet, sIf, sExp, sFor_eq, sPar2, sPar3, sSetI_eq, sAug_eq, slotA_d, sSetG_eq, sRetG, sGL, sGP, sNil, sBrk, sCnt, sNo, eName_eq, slotE_d, slotE_gen, slotE_scr, slotE_own, eC, eOp, eUn, eSc, eScL, eScR, eCh, eAnd, eOr, eNot, eIf, eTup, eLst, eCB, eIx, eIxN, eSl, eSlN, eSlS, eAddN, eLenN, eApp, eExt, ePop, eCallP_eq, eCallG_eq, eIsi, eGL, eGS, eGC, eGP, aNil, aCons, wB_eq, wTru, wTruN, wAnd, wOr, wNot, wYes, gN, gT_d, gL_own, gL_d, gsC, gsN, oNone, oSome_eq, asI_i, iLst, iTpl, iRg1, iRg2, iEnm, iEnmT, iZp, iScr, eLc_eq, hasD, slotD_eq, slotK_d, slotK_own, ownD_eq, slotO_own, isOwn, scrD, putE, asDs, asD_d, asD_own, argR_d, argR_own, argR_gen, argR_scr, asL_own, asL_d, asT_d, asB_d, sub_i, iadd_i, mul_i, fdiv_i, mod_i, pow_i, lt_i, le_i, gt_i, ge_i, add_i, add_l, add_t, cat_i, cat_l, cat_t, neg_i, eqf_i, eqt_i, lenC_l, lenC_t, absC_i, intC_i, tupC_l, tupC_t, max2C_i, min2C_i, lenC_s, reprC_b, reprA_b, reprA_i, reprA_t, reprC_i, eqf_rb, eqt_rb, eqt_ri, slD_t, max3C_i, ixt0, ixt1, ixt2, ixt3, ixl0, ixl1, ixtl, ixll, truD, lenD, startC, endP, List.map_cons, List.map_nil, List.length_cons, List.length_nil, List.cons_append, List.nil_append, List.getElem?_cons_zero, List.getElem?_cons_succ, List.set_cons_zero, List.set_cons_succ, List.replicate_succ, List.replicate_zero, Nat.reduceSub, Nat.reduceAdd, Nat.reduceLT, Option.isSome_some, true_and, and_true, ne_eq, not_false_eq_true, reduceCtorEq, if_true, if_false, Bool.false_eq_true, decide_eq_true_eq, List.mem_cons, List.not_mem_nil, or_self, or_false, false_or]
  refine ⟨by decide, by decide, ?_⟩
  refine whW_ind (fun c => ∃ (met wait : List Int) (x4 x5 x6 x7 : Option Rv), PI w r met wait ∧ (∀ x ∈ met, x ∉ wait → ∀ y, Adj w.ties x y → y ∈ met) ∧ c = ⟨[some (.d (eW w)), some (.d (.int r)), some (.own (met.map .int)), some (.own (wait.map .int)), x4, x5, x6, x7], g⟩) (fun c => 2 * (w.rooms.toNat - wlen c.env[2]?) + wlen c.env[3]?) (fun c hI R hR => ?_) _ ⟨[r], [r], none, none, none, none, ⟨by simp, by simp, ?_, by simp, by simp⟩, ?_, rfl⟩
  · obtain ⟨met, wait, x4, x5, x6, x7, pi, hcl, rfl⟩ := hI
    have hlen : met.length ≤ w.rooms.toNat := nodup_len _ met pi.nd fun x hx => by
      have := (pi.co x hx).range wo ⟨h0, h1⟩
      omega
    simp -dsimp only [wTruN, sSeq, sAsg, sRet, sIf, sExp, sFor_eq, sPar2, sPar3, sSetI_eq, sAug_eq, slotA_d, sSetG_eq, sRetG, sGL, sGP, sNil, sBrk, sCnt, sNo, eName_eq, slotE_d, slotE_gen, slotE_scr, slotE_own, eC, eOp, eUn, eSc, eScL, eScR, eCh, eAnd, eOr, eNot, eIf, eTup, eLst, eCB, eIx, eIxN, eSl, eSlN, eSlS, eAddN, eLenN, eApp, eExt, ePop, eCallP_eq, eCallG_eq, eIsi, eGL, eGS, eGC, eGP, aNil, aCons, wB_eq, wTru, wTruN, wAnd, wOr, wNot, wYes, gN, gT_d, gL_own, gL_d, gsC, gsN, oNone, oSome_eq, asI_i, iLst, iTpl, iRg1, iRg2, iEnm, iEnmT, iZp, iScr, eLc_eq, hasD, slotD_eq, slotK_d, slotK_own, ownD_eq, slotO_own, isOwn, scrD, putE, asDs, asD_d, asD_own, argR_d, argR_own, argR_gen, argR_scr, asL_own, asL_d, asT_d, asB_d, sub_i, iadd_i, mul_i, fdiv_i, mod_i, pow_i, lt_i, le_i, gt_i, ge_i, add_i, add_l, add_t, cat_i, cat_l, cat_t, neg_i, eqf_i, eqt_i, lenC_l, lenC_t, absC_i, intC_i, tupC_l, tupC_t, max2C_i, min2C_i, lenC_s, reprC_b, reprA_b, reprA_i, reprA_t, reprC_i, eqf_rb, eqt_rb, eqt_ri, slD_t, max3C_i, ixt0, ixt1, ixt2, ixt3, ixl0, ixl1, ixtl, ixll, truD, lenD, startC, endP, List.map_cons, List.map_nil, List.length_cons, List.length_nil, List.cons_append, List.nil_append, List.getElem?_cons_zero, List.getElem?_cons_succ, List.set_cons_zero, List.set_cons_succ, List.replicate_succ, List.replicate_zero, Nat.reduceSub, Nat.reduceAdd, Nat.reduceLT, Option.isSome_some, true_and, and_true, ne_eq, not_false_eq_true, reduceCtorEq, if_true, if_false, Bool.false_eq_true, decide_eq_true_eq, List.mem_cons, List.not_mem_nil, or_self, or_false, false_or]
    by_cases hwt : wait = []
    · simp -dsimp only [hwt, List.map_nil, List.isEmpty_nil, Bool.not_true, sSeq, sAsg, sRet, sIf, sExp, sFor_eq, sPar2, sPar3, sSetI_eq, sAug_eq, slotA_d, sSetG_eq, sRetG, sGL, sGP, sNil, sBrk, sCnt, sNo, eName_eq, slotE_d, slotE_gen, slotE_scr, slotE_own, eC, eOp, eUn, eSc, eScL, eScR, eCh, eAnd, eOr, eNot, eIf, eTup, eLst, eCB, eIx, eIxN, eSl, eSlN, eSlS, eAddN, eLenN, eApp, eExt, ePop, eCallP_eq, eCallG_eq, eIsi, eGL, eGS, eGC, eGP, aNil, aCons, wB_eq, wTru, wTruN, wAnd, wOr, wNot, wYes, gN, gT_d, gL_own, gL_d, gsC, gsN, oNone, oSome_eq, asI_i, iLst, iTpl, iRg1, iRg2, iEnm, iEnmT, iZp, iScr, eLc_eq, hasD, slotD_eq, slotK_d, slotK_own, ownD_eq, slotO_own, isOwn, scrD, putE, asDs, asD_d, asD_own, argR_d, argR_own, argR_gen, argR_scr, asL_own, asL_d, asT_d, asB_d, sub_i, iadd_i, mul_i, fdiv_i, mod_i, pow_i, lt_i, le_i, gt_i, ge_i, add_i, add_l, add_t, cat_i, cat_l, cat_t, neg_i, eqf_i, eqt_i, lenC_l, lenC_t, absC_i, intC_i, tupC_l, tupC_t, max2C_i, min2C_i, lenC_s, reprC_b, reprA_b, reprA_i, reprA_t, reprC_i, eqf_rb, eqt_rb, eqt_ri, slD_t, max3C_i, ixt0, ixt1, ixt2, ixt3, ixl0, ixl1, ixtl, ixll, truD, lenD, startC, endP, List.map_cons, List.map_nil, List.length_cons, List.length_nil, List.cons_append, List.nil_append, List.getElem?_cons_zero, List.getElem?_cons_succ, List.set_cons_zero, List.set_cons_succ, List.replicate_succ, List.replicate_zero, Nat.reduceSub, Nat.reduceAdd, Nat.reduceLT, Option.isSome_some, true_and, and_true, ne_eq, not_false_eq_true, reduceCtorEq, if_true, if_false, Bool.false_eq_true, decide_eq_true_eq, List.mem_cons, List.not_mem_nil, or_self, or_false, false_or]
      refine ⟨met, rfl, fun ms hp hs => ?_⟩
      try simp -dsimp only [sSeq, sAsg, sRet, sIf, sExp, sFor_eq, sPar2, sPar3, sSetI_eq, sAug_eq, slotA_d, sSetG_eq, sRetG, sGL, sGP, sNil, sBrk, sCnt, sNo, eName_eq, slotE_d, slotE_gen, slotE_scr, slotE_own, eC, eOp, eUn, eSc, eScL, eScR, eCh, eAnd, eOr, eNot, eIf, eTup, eLst, eCB, eIx, eIxN, eSl, eSlN, eSlS, eAddN, eLenN, eApp, eExt, ePop, eCallP_eq, eCallG_eq, eIsi, eGL, eGS, eGC, eGP, aNil, aCons, wB_eq, wTru, wTruN, wAnd, wOr, wNot, wYes, gN, gT_d, gL_own, gL_d, gsC, gsN, oNone, oSome_eq, asI_i, iLst, iTpl, iRg1, iRg2, iEnm, iEnmT, iZp, iScr, eLc_eq, hasD, slotD_eq, slotK_d, slotK_own, ownD_eq, slotO_own, isOwn, scrD, putE, asDs, asD_d, asD_own, argR_d, argR_own, argR_gen, argR_scr, asL_own, asL_d, asT_d, asB_d, sub_i, iadd_i, mul_i, fdiv_i, mod_i, pow_i, lt_i, le_i, gt_i, ge_i, add_i, add_l, add_t, cat_i, cat_l, cat_t, neg_i, eqf_i, eqt_i, lenC_l, lenC_t, absC_i, intC_i, tupC_l, tupC_t, max2C_i, min2C_i, lenC_s, reprC_b, reprA_b, reprA_i, reprA_t, reprC_i, eqf_rb, eqt_rb, eqt_ri, slD_t, max3C_i, ixt0, ixt1, ixt2, ixt3, ixl0, ixl1, ixtl, ixll, truD, lenD, startC, endP, List.map_cons, List.map_nil, List.length_cons, List.length_nil, List.cons_append, List.nil_append, List.getElem?_cons_zero, List.getElem?_cons_succ, List.set_cons_zero, List.set_cons_succ, List.replicate_succ, List.replicate_zero, Nat.reduceSub, Nat.reduceAdd, Nat.reduceLT, Option.isSome_some, true_and, and_true, ne_eq, not_false_eq_true, reduceCtorEq, if_true, if_false, Bool.false_eq_true, decide_eq_true_eq, List.mem_cons, List.not_mem_nil, or_self, or_false, false_or]
      refine hQ ms ⟨asc_of hp hs pi.nd, fun x => hp.mem_iff.trans ⟨pi.co x, fun hc => ?_⟩⟩
      induction hc with
      | refl => exact pi.rm
      | step _ a ih => exact hcl _ ih (by rw [hwt]; simp) _ a
    · obtain ⟨ys, a, hya⟩ : ∃ ys a, wait = ys ++ [a] := ⟨_, _, (List.dropLast_concat_getLast hwt).symm⟩
      subst hya
      have ham : a ∈ met := pi.su a (by simp)
      have e1 : ((ys ++ [a]).map PyData.int).isEmpty = false := by simp
      have e2 : ((ys ++ [a]).map PyData.int)[((ys ++ [a]).map PyData.int).length - 1]? = some (.int a) := by simp
      have e3 : ((ys ++ [a]).map PyData.int).dropLast = ys.map .int := by simp
      simp only [e1, e2, e3, Bool.not_false, if_true]
      refine ⟨w, a, rfl, hw, ?_⟩
      simp -dsimp only [e3, sSeq, sAsg, sRet, sIf, sExp, sFor_eq, sPar2, sPar3, sSetI_eq, sAug_eq, slotA_d, sSetG_eq, sRetG, sGL, sGP, sNil, sBrk, sCnt, sNo, eName_eq, slotE_d, slotE_gen, slotE_scr, slotE_own, eC, eOp, eUn, eSc, eScL, eScR, eCh, eAnd, eOr, eNot, eIf, eTup, eLst, eCB, eIx, eIxN, eSl, eSlN, eSlS, eAddN, eLenN, eApp, eExt, ePop, eCallP_eq, eCallG_eq, eIsi, eGL, eGS, eGC, eGP, aNil, aCons, wB_eq, wTru, wTruN, wAnd, wOr, wNot, wYes, gN, gT_d, gL_own, gL_d, gsC, gsN, oNone, oSome_eq, asI_i, iLst, iTpl, iRg1, iRg2, iEnm, iEnmT, iZp, iScr, eLc_eq, hasD, slotD_eq, slotK_d, slotK_own, ownD_eq, slotO_own, isOwn, scrD, putE, asDs, asD_d, asD_own, argR_d, argR_own, argR_gen, argR_scr, asL_own, asL_d, asT_d, asB_d, sub_i, iadd_i, mul_i, fdiv_i, mod_i, pow_i, lt_i, le_i, gt_i, ge_i, add_i, add_l, add_t, cat_i, cat_l, cat_t, neg_i, eqf_i, eqt_i, lenC_l, lenC_t, absC_i, intC_i, tupC_l, tupC_t, max2C_i, min2C_i, lenC_s, reprC_b, reprA_b, reprA_i, reprA_t, reprC_i, eqf_rb, eqt_rb, eqt_ri, slD_t, max3C_i, ixt0, ixt1, ixt2, ixt3, ixl0, ixl1, ixtl, ixll, truD, lenD, startC, endP, List.map_cons, List.map_nil, List.length_cons, List.length_nil, List.cons_append, List.nil_append, List.getElem?_cons_zero, List.getElem?_cons_succ, List.set_cons_zero, List.set_cons_succ, List.replicate_succ, List.replicate_zero, Nat.reduceSub, Nat.reduceAdd, Nat.reduceLT, Option.isSome_some, true_and, and_true, ne_eq, not_false_eq_true, reduceCtorEq, if_true, if_false, Bool.false_eq_true, decide_eq_true_eq, List.mem_cons, List.not_mem_nil, or_self, or_false, false_or]
      refine forW_ind _ (fun i c => ∃ (met2 wait2 : List Int) (x4 x5 x6 x7 : Option Rv), PI w r met2 wait2 ∧ a ∈ met2 ∧ (∀ x ∈ met2, x ∉ wait2 → x ≠ a → ∀ y, Adj w.ties x y → y ∈ met2) ∧ (∀ j < i, ∀ c2, (outs w a)[j]? = some c2 → ∀ t, Web.at w c2.1 t → (rev t c2.2).w ∈ met2) ∧
        2 * (w.rooms.toNat - met2.length) + wait2.length < 2 * (w.rooms.toNat - met.length) + (ys.length + 1) ∧ c = ⟨[some (.d (eW w)), some (.d (.int r)), some (.own (met2.map .int)), some (.own (wait2.map .int)), x4, x5, x6, x7], g⟩) (fun i x c hx hI R2 hR2 => ?_) (fun c hI => ?_) _
        ⟨met, ys, _, _, _, _, ⟨pi.nd, pi.rm, pi.co, fun x hx => pi.su x (List.mem_append_left _ hx), by have := pi.wl; simp at this; omega⟩, ham, fun x hx hn hne => hcl x hx fun h => ?_, fun j hj => absurd hj (Nat.not_lt_zero _), by omega, rfl⟩
      · obtain ⟨met2, wait2, x4, x5, x6, x7, pi2, ha2, hc2, hdn, hm2, rfl⟩ := hI
        obtain ⟨⟨t, s⟩, hc, rfl⟩ := map_at hx
        have hco := List.mem_of_getElem? hc
        obtain ⟨⟨⟨y, hy⟩, hs⟩, hv⟩ := outs_ok hco
        have hadj := out_adj hco hy
        simp -dsimp only [eC2, sSeq, sAsg, sRet, sIf, sExp, sFor_eq, sPar2, sPar3, sSetI_eq, sAug_eq, slotA_d, sSetG_eq, sRetG, sGL, sGP, sNil, sBrk, sCnt, sNo, eName_eq, slotE_d, slotE_gen, slotE_scr, slotE_own, eC, eOp, eUn, eSc, eScL, eScR, eCh, eAnd, eOr, eNot, eIf, eTup, eLst, eCB, eIx, eIxN, eSl, eSlN, eSlS, eAddN, eLenN, eApp, eExt, ePop, eCallP_eq, eCallG_eq, eIsi, eGL, eGS, eGC, eGP, aNil, aCons, wB_eq, wTru, wTruN, wAnd, wOr, wNot, wYes, gN, gT_d, gL_own, gL_d, gsC, gsN, oNone, oSome_eq, asI_i, iLst, iTpl, iRg1, iRg2, iEnm, iEnmT, iZp, iScr, eLc_eq, hasD, slotD_eq, slotK_d, slotK_own, ownD_eq, slotO_own, isOwn, scrD, putE, asDs, asD_d, asD_own, argR_d, argR_own, argR_gen, argR_scr, asL_own, asL_d, asT_d, asB_d, sub_i, iadd_i, mul_i, fdiv_i, mod_i, pow_i, lt_i, le_i, gt_i, ge_i, add_i, add_l, add_t, cat_i, cat_l, cat_t, neg_i, eqf_i, eqt_i, lenC_l, lenC_t, absC_i, intC_i, tupC_l, tupC_t, max2C_i, min2C_i, lenC_s, reprC_b, reprA_b, reprA_i, reprA_t, reprC_i, eqf_rb, eqt_rb, eqt_ri, slD_t, max3C_i, ixt0, ixt1, ixt2, ixt3, ixl0, ixl1, ixtl, ixll, truD, lenD, startC, endP, List.map_cons, List.map_nil, List.length_cons, List.length_nil, List.cons_append, List.nil_append, List.getElem?_cons_zero, List.getElem?_cons_succ, List.set_cons_zero, List.set_cons_succ, List.replicate_succ, List.replicate_zero, Nat.reduceSub, Nat.reduceAdd, Nat.reduceLT, Option.isSome_some, true_and, and_true, ne_eq, not_false_eq_true, reduceCtorEq, if_true, if_false, Bool.false_eq_true, decide_eq_true_eq, List.mem_cons, List.not_mem_nil, or_self, or_false, false_or]
        refine ⟨w, t, s, y, rfl, hy, ?_⟩
        simp -dsimp only [eT, sSeq, sAsg, sRet, sIf, sExp, sFor_eq, sPar2, sPar3, sSetI_eq, sAug_eq, slotA_d, sSetG_eq, sRetG, sGL, sGP, sNil, sBrk, sCnt, sNo, eName_eq, slotE_d, slotE_gen, slotE_scr, slotE_own, eC, eOp, eUn, eSc, eScL, eScR, eCh, eAnd, eOr, eNot, eIf, eTup, eLst, eCB, eIx, eIxN, eSl, eSlN, eSlS, eAddN, eLenN, eApp, eExt, ePop, eCallP_eq, eCallG_eq, eIsi, eGL, eGS, eGC, eGP, aNil, aCons, wB_eq, wTru, wTruN, wAnd, wOr, wNot, wYes, gN, gT_d, gL_own, gL_d, gsC, gsN, oNone, oSome_eq, asI_i, iLst, iTpl, iRg1, iRg2, iEnm, iEnmT, iZp, iScr, eLc_eq, hasD, slotD_eq, slotK_d, slotK_own, ownD_eq, slotO_own, isOwn, scrD, putE, asDs, asD_d, asD_own, argR_d, argR_own, argR_gen, argR_scr, asL_own, asL_d, asT_d, asB_d, sub_i, iadd_i, mul_i, fdiv_i, mod_i, pow_i, lt_i, le_i, gt_i, ge_i, add_i, add_l, add_t, cat_i, cat_l, cat_t, neg_i, eqf_i, eqt_i, lenC_l, lenC_t, absC_i, intC_i, tupC_l, tupC_t, max2C_i, min2C_i, lenC_s, reprC_b, reprA_b, reprA_i, reprA_t, reprC_i, eqf_rb, eqt_rb, eqt_ri, slD_t, max3C_i, ixt0, ixt1, ixt2, ixt3, ixl0, ixl1, ixtl, ixll, truD, lenD, startC, endP, List.map_cons, List.map_nil, List.length_cons, List.length_nil, List.cons_append, List.nil_append, List.getElem?_cons_zero, List.getElem?_cons_succ, List.set_cons_zero, List.set_cons_succ, List.replicate_succ, List.replicate_zero, Nat.reduceSub, Nat.reduceAdd, Nat.reduceLT, Option.isSome_some, true_and, and_true, ne_eq, not_false_eq_true, reduceCtorEq, if_true, if_false, Bool.false_eq_true, decide_eq_true_eq, List.mem_cons, List.not_mem_nil, or_self, or_false, false_or]
        rw [inT_l]
        by_cases hin : (rev y s).w ∈ met2
        · simp -dsimp only [hin, decide_true, Bool.not_true, sSeq, sAsg, sRet, sIf, sExp, sFor_eq, sPar2, sPar3, sSetI_eq, sAug_eq, slotA_d, sSetG_eq, sRetG, sGL, sGP, sNil, sBrk, sCnt, sNo, eName_eq, slotE_d, slotE_gen, slotE_scr, slotE_own, eC, eOp, eUn, eSc, eScL, eScR, eCh, eAnd, eOr, eNot, eIf, eTup, eLst, eCB, eIx, eIxN, eSl, eSlN, eSlS, eAddN, eLenN, eApp, eExt, ePop, eCallP_eq, eCallG_eq, eIsi, eGL, eGS, eGC, eGP, aNil, aCons, wB_eq, wTru, wTruN, wAnd, wOr, wNot, wYes, gN, gT_d, gL_own, gL_d, gsC, gsN, oNone, oSome_eq, asI_i, iLst, iTpl, iRg1, iRg2, iEnm, iEnmT, iZp, iScr, eLc_eq, hasD, slotD_eq, slotK_d, slotK_own, ownD_eq, slotO_own, isOwn, scrD, putE, asDs, asD_d, asD_own, argR_d, argR_own, argR_gen, argR_scr, asL_own, asL_d, asT_d, asB_d, sub_i, iadd_i, mul_i, fdiv_i, mod_i, pow_i, lt_i, le_i, gt_i, ge_i, add_i, add_l, add_t, cat_i, cat_l, cat_t, neg_i, eqf_i, eqt_i, lenC_l, lenC_t, absC_i, intC_i, tupC_l, tupC_t, max2C_i, min2C_i, lenC_s, reprC_b, reprA_b, reprA_i, reprA_t, reprC_i, eqf_rb, eqt_rb, eqt_ri, slD_t, max3C_i, ixt0, ixt1, ixt2, ixt3, ixl0, ixl1, ixtl, ixll, truD, lenD, startC, endP, List.map_cons, List.map_nil, List.length_cons, List.length_nil, List.cons_append, List.nil_append, List.getElem?_cons_zero, List.getElem?_cons_succ, List.set_cons_zero, List.set_cons_succ, List.replicate_succ, List.replicate_zero, Nat.reduceSub, Nat.reduceAdd, Nat.reduceLT, Option.isSome_some, true_and, and_true, ne_eq, not_false_eq_true, reduceCtorEq, if_true, if_false, Bool.false_eq_true, decide_eq_true_eq, List.mem_cons, List.not_mem_nil, or_self, or_false, false_or]
          refine hR2 _ ⟨met2, wait2, x4, some (.d (.int t)), some (.d (.int s)), some (.d (.int (rev y s).w)), pi2, ha2, hc2, fun j hj c2 hj2 t2 ht2 => ?_, hm2, rfl⟩
          by_cases hji : j < i
          · exact hdn j hji c2 hj2 t2 ht2
          · have : j = i := by omega
            subst this
            rw [hc] at hj2
            cases hj2
            rw [at_uniq ht2 hy]
            exact hin
        · simp -dsimp only [hin, decide_false, Bool.not_false, sSeq, sAsg, sRet, sIf, sExp, sFor_eq, sPar2, sPar3, sSetI_eq, sAug_eq, slotA_d, sSetG_eq, sRetG, sGL, sGP, sNil, sBrk, sCnt, sNo, eName_eq, slotE_d, slotE_gen, slotE_scr, slotE_own, eC, eOp, eUn, eSc, eScL, eScR, eCh, eAnd, eOr, eNot, eIf, eTup, eLst, eCB, eIx, eIxN, eSl, eSlN, eSlS, eAddN, eLenN, eApp, eExt, ePop, eCallP_eq, eCallG_eq, eIsi, eGL, eGS, eGC, eGP, aNil, aCons, wB_eq, wTru, wTruN, wAnd, wOr, wNot, wYes, gN, gT_d, gL_own, gL_d, gsC, gsN, oNone, oSome_eq, asI_i, iLst, iTpl, iRg1, iRg2, iEnm, iEnmT, iZp, iScr, eLc_eq, hasD, slotD_eq, slotK_d, slotK_own, ownD_eq, slotO_own, isOwn, scrD, putE, asDs, asD_d, asD_own, argR_d, argR_own, argR_gen, argR_scr, asL_own, asL_d, asT_d, asB_d, sub_i, iadd_i, mul_i, fdiv_i, mod_i, pow_i, lt_i, le_i, gt_i, ge_i, add_i, add_l, add_t, cat_i, cat_l, cat_t, neg_i, eqf_i, eqt_i, lenC_l, lenC_t, absC_i, intC_i, tupC_l, tupC_t, max2C_i, min2C_i, lenC_s, reprC_b, reprA_b, reprA_i, reprA_t, reprC_i, eqf_rb, eqt_rb, eqt_ri, slD_t, max3C_i, ixt0, ixt1, ixt2, ixt3, ixl0, ixl1, ixtl, ixll, truD, lenD, startC, endP, List.map_cons, List.map_nil, List.length_cons, List.length_nil, List.cons_append, List.nil_append, List.getElem?_cons_zero, List.getElem?_cons_succ, List.set_cons_zero, List.set_cons_succ, List.replicate_succ, List.replicate_zero, Nat.reduceSub, Nat.reduceAdd, Nat.reduceLT, Option.isSome_some, true_and, and_true, ne_eq, not_false_eq_true, reduceCtorEq, if_true, if_false, Bool.false_eq_true, decide_eq_true_eq, List.mem_cons, List.not_mem_nil, or_self, or_false, false_or]
          have hcx := (pi2.co a ha2).step hadj
          have nd2 : (met2 ++ [(rev y s).w]).Nodup := List.nodup_append.mpr ⟨pi2.nd, by simp, fun x hx z hz => by
            rw [List.mem_singleton.mp hz]
            exact fun e => hin (e ▸ hx)⟩
          have co2 : ∀ x ∈ met2 ++ [(rev y s).w], Conn w.ties r x := fun x hx => by
            rcases List.mem_append.mp hx with hx | hx
            · exact pi2.co x hx
            · rw [List.mem_singleton.mp hx]
              exact hcx
          have hln : (met2 ++ [(rev y s).w]).length ≤ w.rooms.toNat := nodup_len _ _ nd2 fun x hx => by
            have := (co2 x hx).range wo ⟨h0, h1⟩
            omega
          have hwl := pi2.wl
          simp only [List.length_append, List.length_cons, List.length_nil] at hln
          refine ⟨by rw [List.length_map]; omega, by rw [List.length_map]; omega, hR2 _ ⟨met2 ++ [(rev y s).w], wait2 ++ [(rev y s).w], x4, some (.d (.int t)), some (.d (.int s)), some (.d (.int (rev y s).w)), ⟨nd2, List.mem_append_left _ pi2.rm, co2, fun x hx => ?_, by simp; omega⟩, List.mem_append_left _ ha2, fun x hx hn hne z hz => ?_, fun j hj c2 hj2 t2 ht2 => ?_, by simp only [List.length_append, List.length_cons, List.length_nil]; omega, by simp⟩⟩
          · rcases List.mem_append.mp hx with hx | hx
            · exact List.mem_append_left _ (pi2.su x hx)
            · exact List.mem_append_right _ hx
          · rcases List.mem_append.mp hx with hx | hx
            · exact List.mem_append_left _ (hc2 x hx (fun h => hn (List.mem_append_left _ h)) hne z hz)
            · exact absurd (List.mem_append_right _ hx) hn
          · by_cases hji : j < i
            · exact List.mem_append_left _ (hdn j hji c2 hj2 t2 ht2)
            · have : j = i := by omega
              subst this
              rw [hc] at hj2
              cases hj2
              rw [at_uniq ht2 hy]
              exact List.mem_append_right _ (by simp)
      · obtain ⟨met2, wait2, x4, x5, x6, x7, pi2, ha2, hc2, hdn, hm2, rfl⟩ := hI
        refine hR _ ⟨met2, wait2, x4, x5, x6, x7, pi2, fun x hx hn y hy => ?_, rfl⟩ ?_
        · by_cases hxa : x = a
          · subst hxa
            obtain ⟨c, hc, t, ht, e⟩ := adj_out hy
            obtain ⟨j, hj, e2⟩ := List.getElem_of_mem hc
            rw [← e]
            exact hdn j (by simpa using hj) c (by rw [List.getElem?_eq_getElem hj, e2]) t ht
          · exact hc2 x hx hn hxa y hy
        · simp [wlen]
          omega
      · rcases List.mem_append.mp h with h | h
        · exact hn h
        · exact hne (List.mem_singleton.mp h)
  · intro x hx
    rw [List.mem_singleton.mp hx]
    exact .refl
  · intro x hx hn
    exact absurd hx hn
end K

set_option Elab.async false
set_option maxRecDepth 100000
set_option linter.all false
set_option autoImplicit false
set_option maxHeartbeats 4000000
namespace K
open PySem L2 Dl
/-! ### all pieces -/
structure PiecesOk (w : Web) (L : List (List Int)) : Prop where
  asc : L.Pairwise (fun a b => hd0 a < hd0 b)
  mem : ∀ l, l ∈ L ↔ ∃ r, 0 ≤ r ∧ r < w.rooms ∧ IsPiece w.ties r l
theorem PiecesOk.uniq {w : Web} {L M : List (List Int)} (h : PiecesOk w L) (k : PiecesOk w M) : L = M :=
  uniq_sorted hd0 h.asc k.asc fun l => (h.mem l).trans (k.mem l).symm
theorem asc_head {l : List Int} (h : l.Pairwise (· < ·)) (hn : l ≠ []) : hd0 l ∈ l ∧ ∀ x ∈ l, hd0 l ≤ x := by
  cases l with
  | nil => exact absurd rfl hn
  | cons a l =>
    refine ⟨List.mem_cons_self, fun x hx => ?_⟩
    rcases List.mem_cons.mp hx with rfl | hx
    · exact Int.le_refl _
    · exact Int.le_of_lt ((List.pairwise_cons.mp h).1 x hx)
theorem IsPiece.self {ts : List Tie} {r : Int} {l : List Int} (h : IsPiece ts r l) : r ∈ l := (h.mem r).mpr .refl
theorem IsPiece.ne {ts : List Tie} {r : Int} {l : List Int} (h : IsPiece ts r l) : l ≠ [] := fun e => by
  have := h.self
  rw [e] at this
  cases this
theorem IsPiece.hd {ts : List Tie} {r : Int} {l : List Int} (h : IsPiece ts r l) : hd0 l ∈ l ∧ hd0 l ≤ r ∧ IsPiece ts (hd0 l) l := by
  have a := asc_head h.asc h.ne
  exact ⟨a.1, a.2 r h.self, h.of ((h.mem _).mp a.1)⟩
theorem ix_hd {l : List Int} {P : Px → Prop} (h : l ≠ []) : ixD (tupI l) (.int 0) P = P (.int (hd0 l)) := by
  cases l with
  | nil => exact absurd rfl h
  | cons a l => simp only [tupI, List.map_cons, ixt0]; rfl
abbrev Cpieces_of : Cn := fun rs g Q => ∃ (w : Web) (gr : Int), rs = [.d (eW w)] ∧ (WebOk w gr ∧ w.ties.length ≤ 1000 ∧ w.rooms ≤ 1000) ∧ ∀ L, PiecesOk w L → Q (.d (.tuple (L.map tupI))) g
def wpieces_of : WS :=
  (sSeq (sAsg (eLst aNil) (gN 1))
  (sSeq (sFor (iRg1 (aCons (eIxN 0 (eC (.int 0))) aNil)) (gN 2)
  (sSeq (sAsg (eCallP Cpiece_of (aCons (eName 0) (aCons (eName 2) aNil))) (gN 3))
  (sIf (wB (eScR 2 (eqD false) (eIxN 3 (eC (.int 0))))) (sExp (eApp 1 (eName 3))) sNil)))
  (sRet (eCB tupC (aCons (eName 1) aNil)))))
theorem lenpieces_of (rs : List Rv) (g : Option Nat) (Q : Rv → Option Nat → Prop) (h : Cpieces_of rs g Q) : rs.length = 1 := by
  obtain ⟨_, _, rfl, _⟩ := h
  rfl
theorem specpieces_of (rs : List Rv) (g : Option Nat) (Q : Rv → Option Nat → Prop) (h : Cpieces_of rs g Q) : wpieces_of (startC 4 rs g) (endP Q) fun _ _ => False := by
  obtain ⟨w, gr, rfl, ⟨wo, hw, hr⟩, hQ⟩ := h
  have hr0 := wo.r0
  simp -dsimp only [wpieces_of, Cpiece_of, eW, sSeq, sAsg, sRet, sIf, sExp, sFor_eq, sPar2, sPar3, sSetI_eq, sAug_eq, slotA_d, sSetG_eq, sRetG, sGL, sGP, sNil, sBrk, sCnt, sNo, eName_eq, slotE_d, slotE_gen, slotE_scr, slotE_own, eC, eOp, eUn, eSc, eScL, eScR, eCh, eAnd, eOr, eNot, eIf, eTup, eLst, eCB, eIx, eIxN, eSl, eSlN, eSlS, eAddN, eLenN, eApp, eExt, ePop, eCallP_eq, eCallG_eq, eIsi, eGL, eGS, eGC, eGP, aNil, aCons, wB_eq, wTru, wTruN, wAnd, wOr, wNot, wYes, gN, gT_d, gL_own, gL_d, gsC, gsN, oNone, oSome_eq, asI_i, iLst, iTpl, iRg1, iRg2, iEnm, iEnmT, iZp, iScr, eLc_eq, hasD, slotD_eq, slotK_d, slotK_own, ownD_eq, slotO_own, isOwn, scrD, putE, asDs, asD_d, asD_own, argR_d, argR_own, argR_gen, argR_scr, asL_own, asL_d, asT_d, asB_d, sub_i, iadd_i, mul_i, fdiv_i, mod_i, pow_i, lt_i, le_i, gt_i, ge_i, add_i, add_l, add_t, cat_i, cat_l, cat_t, neg_i, eqf_i, eqt_i, lenC_l, lenC_t, absC_i, intC_i, tupC_l, tupC_t, max2C_i, min2C_i, lenC_s, reprC_b, reprA_b, reprA_i, reprA_t, reprC_i, eqf_rb, eqt_rb, eqt_ri, slD_t, max3C_i, ixt0, ixt1, ixt2, ixt3, ixl0, ixl1, ixtl, ixll, truD, lenD, startC, endP, List.map_cons, List.map_nil, List.length_cons, List.length_nil, List.cons_append, List.nil_append, List.getElem?_cons_zero, List.getElem?_cons_succ, List.set_cons_zero, List.set_cons_succ, List.replicate_succ, List.replicate_zero, Nat.reduceSub, Nat.reduceAdd, Nat.reduceLT, Option.isSome_some, true_and, and_true, ne_eq, not_false_eq_true, reduceCtorEq, if_true, if_false, Bool.false_eq_true, decide_eq_true_eq, List.mem_cons, List.not_mem_nil, or_self, or_false, false_or]
  refine ⟨by decide, by unfold smI; omega, ?_⟩
  refine forW_ind _ (fun i c => ∃ (L : List (List Int)) (x2 x3 : Option Rv), L.length ≤ i ∧ L.Pairwise (fun a b => hd0 a < hd0 b) ∧ (∀ l ∈ L, hd0 l < (i : Int) ∧ ∃ r, 0 ≤ r ∧ r < w.rooms ∧ IsPiece w.ties r l) ∧ (∀ r, 0 ≤ r → r < (i : Int) → ∀ l, IsPiece w.ties r l → l ∈ L) ∧ c = ⟨[some (.d (eW w)), some (.own (L.map tupI)), x2, x3], g⟩) (fun i x c hx hI R hR => ?_) (fun c hI => ?_) _ ⟨[], none, none, by simp, by simp, by simp, fun r h0 h1 => absurd h1 (by omega), rfl⟩
  · obtain ⟨L, x2, x3, hLl, hLa, hLm, hLc, rfl⟩ := hI
    obtain ⟨hi, rfl⟩ := rng_at hx
    have hir : (i : Int) < w.rooms := by omega
    try simp -dsimp only [sSeq, sAsg, sRet, sIf, sExp, sFor_eq, sPar2, sPar3, sSetI_eq, sAug_eq, slotA_d, sSetG_eq, sRetG, sGL, sGP, sNil, sBrk, sCnt, sNo, eName_eq, slotE_d, slotE_gen, slotE_scr, slotE_own, eC, eOp, eUn, eSc, eScL, eScR, eCh, eAnd, eOr, eNot, eIf, eTup, eLst, eCB, eIx, eIxN, eSl, eSlN, eSlS, eAddN, eLenN, eApp, eExt, ePop, eCallP_eq, eCallG_eq, eIsi, eGL, eGS, eGC, eGP, aNil, aCons, wB_eq, wTru, wTruN, wAnd, wOr, wNot, wYes, gN, gT_d, gL_own, gL_d, gsC, gsN, oNone, oSome_eq, asI_i, iLst, iTpl, iRg1, iRg2, iEnm, iEnmT, iZp, iScr, eLc_eq, hasD, slotD_eq, slotK_d, slotK_own, ownD_eq, slotO_own, isOwn, scrD, putE, asDs, asD_d, asD_own, argR_d, argR_own, argR_gen, argR_scr, asL_own, asL_d, asT_d, asB_d, sub_i, iadd_i, mul_i, fdiv_i, mod_i, pow_i, lt_i, le_i, gt_i, ge_i, add_i, add_l, add_t, cat_i, cat_l, cat_t, neg_i, eqf_i, eqt_i, lenC_l, lenC_t, absC_i, intC_i, tupC_l, tupC_t, max2C_i, min2C_i, lenC_s, reprC_b, reprA_b, reprA_i, reprA_t, reprC_i, eqf_rb, eqt_rb, eqt_ri, slD_t, max3C_i, ixt0, ixt1, ixt2, ixt3, ixl0, ixl1, ixtl, ixll, truD, lenD, startC, endP, List.map_cons, List.map_nil, List.length_cons, List.length_nil, List.cons_append, List.nil_append, List.getElem?_cons_zero, List.getElem?_cons_succ, List.set_cons_zero, List.set_cons_succ, List.replicate_succ, List.replicate_zero, Nat.reduceSub, Nat.reduceAdd, Nat.reduceLT, Option.isSome_some, true_and, and_true, ne_eq, not_false_eq_true, reduceCtorEq, if_true, if_false, Bool.false_eq_true, decide_eq_true_eq, List.mem_cons, List.not_mem_nil, or_self, or_false, false_or]
    refine ⟨w, gr, 0 + i, rfl, ⟨wo, hw, hr, by omega, by omega⟩, fun l hl => ?_⟩
    rw [Int.zero_add] at hl
    try simp -dsimp only [sSeq, sAsg, sRet, sIf, sExp, sFor_eq, sPar2, sPar3, sSetI_eq, sAug_eq, slotA_d, sSetG_eq, sRetG, sGL, sGP, sNil, sBrk, sCnt, sNo, eName_eq, slotE_d, slotE_gen, slotE_scr, slotE_own, eC, eOp, eUn, eSc, eScL, eScR, eCh, eAnd, eOr, eNot, eIf, eTup, eLst, eCB, eIx, eIxN, eSl, eSlN, eSlS, eAddN, eLenN, eApp, eExt, ePop, eCallP_eq, eCallG_eq, eIsi, eGL, eGS, eGC, eGP, aNil, aCons, wB_eq, wTru, wTruN, wAnd, wOr, wNot, wYes, gN, gT_d, gL_own, gL_d, gsC, gsN, oNone, oSome_eq, asI_i, iLst, iTpl, iRg1, iRg2, iEnm, iEnmT, iZp, iScr, eLc_eq, hasD, slotD_eq, slotK_d, slotK_own, ownD_eq, slotO_own, isOwn, scrD, putE, asDs, asD_d, asD_own, argR_d, argR_own, argR_gen, argR_scr, asL_own, asL_d, asT_d, asB_d, sub_i, iadd_i, mul_i, fdiv_i, mod_i, pow_i, lt_i, le_i, gt_i, ge_i, add_i, add_l, add_t, cat_i, cat_l, cat_t, neg_i, eqf_i, eqt_i, lenC_l, lenC_t, absC_i, intC_i, tupC_l, tupC_t, max2C_i, min2C_i, lenC_s, reprC_b, reprA_b, reprA_i, reprA_t, reprC_i, eqf_rb, eqt_rb, eqt_ri, slD_t, max3C_i, ixt0, ixt1, ixt2, ixt3, ixl0, ixl1, ixtl, ixll, truD, lenD, startC, endP, List.map_cons, List.map_nil, List.length_cons, List.length_nil, List.cons_append, List.nil_append, List.getElem?_cons_zero, List.getElem?_cons_succ, List.set_cons_zero, List.set_cons_succ, List.replicate_succ, List.replicate_zero, Nat.reduceSub, Nat.reduceAdd, Nat.reduceLT, Option.isSome_some, true_and, and_true, ne_eq, not_false_eq_true, reduceCtorEq, if_true, if_false, Bool.false_eq_true, decide_eq_true_eq, List.mem_cons, List.not_mem_nil, or_self, or_false, false_or]
    rw [ix_hd hl.ne]
    obtain ⟨h1, h2, h3⟩ := hl.hd
    by_cases he : (i : Int) = hd0 l
    · have hb : (hd0 l == 0 + (i : Int)) = true := by simpa using he.symm
      simp -dsimp only [hb, sSeq, sAsg, sRet, sIf, sExp, sFor_eq, sPar2, sPar3, sSetI_eq, sAug_eq, slotA_d, sSetG_eq, sRetG, sGL, sGP, sNil, sBrk, sCnt, sNo, eName_eq, slotE_d, slotE_gen, slotE_scr, slotE_own, eC, eOp, eUn, eSc, eScL, eScR, eCh, eAnd, eOr, eNot, eIf, eTup, eLst, eCB, eIx, eIxN, eSl, eSlN, eSlS, eAddN, eLenN, eApp, eExt, ePop, eCallP_eq, eCallG_eq, eIsi, eGL, eGS, eGC, eGP, aNil, aCons, wB_eq, wTru, wTruN, wAnd, wOr, wNot, wYes, gN, gT_d, gL_own, gL_d, gsC, gsN, oNone, oSome_eq, asI_i, iLst, iTpl, iRg1, iRg2, iEnm, iEnmT, iZp, iScr, eLc_eq, hasD, slotD_eq, slotK_d, slotK_own, ownD_eq, slotO_own, isOwn, scrD, putE, asDs, asD_d, asD_own, argR_d, argR_own, argR_gen, argR_scr, asL_own, asL_d, asT_d, asB_d, sub_i, iadd_i, mul_i, fdiv_i, mod_i, pow_i, lt_i, le_i, gt_i, ge_i, add_i, add_l, add_t, cat_i, cat_l, cat_t, neg_i, eqf_i, eqt_i, lenC_l, lenC_t, absC_i, intC_i, tupC_l, tupC_t, max2C_i, min2C_i, lenC_s, reprC_b, reprA_b, reprA_i, reprA_t, reprC_i, eqf_rb, eqt_rb, eqt_ri, slD_t, max3C_i, ixt0, ixt1, ixt2, ixt3, ixl0, ixl1, ixtl, ixll, truD, lenD, startC, endP, List.map_cons, List.map_nil, List.length_cons, List.length_nil, List.cons_append, List.nil_append, List.getElem?_cons_zero, List.getElem?_cons_succ, List.set_cons_zero, List.set_cons_succ, List.replicate_succ, List.replicate_zero, Nat.reduceSub, Nat.reduceAdd, Nat.reduceLT, Option.isSome_some, true_and, and_true, ne_eq, not_false_eq_true, reduceCtorEq, if_true, if_false, Bool.false_eq_true, decide_eq_true_eq, List.mem_cons, List.not_mem_nil, or_self, or_false, false_or]
      refine ⟨by rw [List.length_map]; omega, hR _ ⟨L ++ [l], some (.d (.int (0 + i))), some (.d (tupI l)), by simp; omega, ?_, fun m hm => ?_, fun r hr0 hr1 m hm => ?_, by simp⟩⟩
      · refine List.pairwise_append.mpr ⟨hLa, by simp, fun a ha b hb => ?_⟩
        rw [List.mem_singleton.mp hb, ← he]
        exact (hLm a ha).1
      · rcases List.mem_append.mp hm with hm | hm
        · have := hLm m hm
          exact ⟨by omega, this.2⟩
        · rw [List.mem_singleton.mp hm]
          exact ⟨by omega, i, by omega, hir, hl⟩
      · by_cases hri : r < (i : Int)
        · exact List.mem_append_left _ (hLc r hr0 hri m hm)
        · have : r = (i : Int) := by omega
          subst this
          rw [hm.uniq hl]
          simp
    · have hb : (hd0 l == 0 + (i : Int)) = false := by
        rw [beq_eq_false_iff_ne]
        omega
      simp -dsimp only [hb, sSeq, sAsg, sRet, sIf, sExp, sFor_eq, sPar2, sPar3, sSetI_eq, sAug_eq, slotA_d, sSetG_eq, sRetG, sGL, sGP, sNil, sBrk, sCnt, sNo, eName_eq, slotE_d, slotE_gen, slotE_scr, slotE_own, eC, eOp, eUn, eSc, eScL, eScR, eCh, eAnd, eOr, eNot, eIf, eTup, eLst, eCB, eIx, eIxN, eSl, eSlN, eSlS, eAddN, eLenN, eApp, eExt, ePop, eCallP_eq, eCallG_eq, eIsi, eGL, eGS, eGC, eGP, aNil, aCons, wB_eq, wTru, wTruN, wAnd, wOr, wNot, wYes, gN, gT_d, gL_own, gL_d, gsC, gsN, oNone, oSome_eq, asI_i, iLst, iTpl, iRg1, iRg2, iEnm, iEnmT, iZp, iScr, eLc_eq, hasD, slotD_eq, slotK_d, slotK_own, ownD_eq, slotO_own, isOwn, scrD, putE, asDs, asD_d, asD_own, argR_d, argR_own, argR_gen, argR_scr, asL_own, asL_d, asT_d, asB_d, sub_i, iadd_i, mul_i, fdiv_i, mod_i, pow_i, lt_i, le_i, gt_i, ge_i, add_i, add_l, add_t, cat_i, cat_l, cat_t, neg_i, eqf_i, eqt_i, lenC_l, lenC_t, absC_i, intC_i, tupC_l, tupC_t, max2C_i, min2C_i, lenC_s, reprC_b, reprA_b, reprA_i, reprA_t, reprC_i, eqf_rb, eqt_rb, eqt_ri, slD_t, max3C_i, ixt0, ixt1, ixt2, ixt3, ixl0, ixl1, ixtl, ixll, truD, lenD, startC, endP, List.map_cons, List.map_nil, List.length_cons, List.length_nil, List.cons_append, List.nil_append, List.getElem?_cons_zero, List.getElem?_cons_succ, List.set_cons_zero, List.set_cons_succ, List.replicate_succ, List.replicate_zero, Nat.reduceSub, Nat.reduceAdd, Nat.reduceLT, Option.isSome_some, true_and, and_true, ne_eq, not_false_eq_true, reduceCtorEq, if_true, if_false, Bool.false_eq_true, decide_eq_true_eq, List.mem_cons, List.not_mem_nil, or_self, or_false, false_or]
      refine hR _ ⟨L, some (.d (.int (0 + i))), some (.d (tupI l)), by omega, hLa, fun m hm => ?_, fun r hr0 hr1 m hm => ?_, rfl⟩
      · have := hLm m hm
        exact ⟨by omega, this.2⟩
      · by_cases hri : r < (i : Int)
        · exact hLc r hr0 hri m hm
        · have : r = (i : Int) := by omega
          subst this
          rw [hm.uniq hl]
          have := (Conn.range wo ((hl.mem _).mp h1) ⟨by omega, hir⟩).1
          exact hLc (hd0 l) this (by omega) l h3
  · obtain ⟨L, x2, x3, hLl, hLa, hLm, hLc, rfl⟩ := hI
    rw [rngX_length] at hLm hLc
    try simp -dsimp only [sSeq, sAsg, sRet, sIf, sExp, sFor_eq, sPar2, sPar3, sSetI_eq, sAug_eq, slotA_d, sSetG_eq, sRetG, sGL, sGP, sNil, sBrk, sCnt, sNo, eName_eq, slotE_d, slotE_gen, slotE_scr, slotE_own, eC, eOp, eUn, eSc, eScL, eScR, eCh, eAnd, eOr, eNot, eIf, eTup, eLst, eCB, eIx, eIxN, eSl, eSlN, eSlS, eAddN, eLenN, eApp, eExt, ePop, eCallP_eq, eCallG_eq, eIsi, eGL, eGS, eGC, eGP, aNil, aCons, wB_eq, wTru, wTruN, wAnd, wOr, wNot, wYes, gN, gT_d, gL_own, gL_d, gsC, gsN, oNone, oSome_eq, asI_i, iLst, iTpl, iRg1, iRg2, iEnm, iEnmT, iZp, iScr, eLc_eq, hasD, slotD_eq, slotK_d, slotK_own, ownD_eq, slotO_own, isOwn, scrD, putE, asDs, asD_d, asD_own, argR_d, argR_own, argR_gen, argR_scr, asL_own, asL_d, asT_d, asB_d, sub_i, iadd_i, mul_i, fdiv_i, mod_i, pow_i, lt_i, le_i, gt_i, ge_i, add_i, add_l, add_t, cat_i, cat_l, cat_t, neg_i, eqf_i, eqt_i, lenC_l, lenC_t, absC_i, intC_i, tupC_l, tupC_t, max2C_i, min2C_i, lenC_s, reprC_b, reprA_b, reprA_i, reprA_t, reprC_i, eqf_rb, eqt_rb, eqt_ri, slD_t, max3C_i, ixt0, ixt1, ixt2, ixt3, ixl0, ixl1, ixtl, ixll, truD, lenD, startC, endP, List.map_cons, List.map_nil, List.length_cons, List.length_nil, List.cons_append, List.nil_append, List.getElem?_cons_zero, List.getElem?_cons_succ, List.set_cons_zero, List.set_cons_succ, List.replicate_succ, List.replicate_zero, Nat.reduceSub, Nat.reduceAdd, Nat.reduceLT, Option.isSome_some, true_and, and_true, ne_eq, not_false_eq_true, reduceCtorEq, if_true, if_false, Bool.false_eq_true, decide_eq_true_eq, List.mem_cons, List.not_mem_nil, or_self, or_false, false_or]
    refine hQ L ⟨hLa, fun l => ⟨fun hl => (hLm l hl).2, fun ⟨r, h0, h1, hp⟩ => hLc r h0 (by omega) l hp⟩⟩
end K

set_option Elab.async false
set_option maxRecDepth 100000
set_option linter.all false
set_option autoImplicit false
set_option maxHeartbeats 4000000
namespace K
open PySem L2 Dl
/-! ### rooms put together tie by tie -/
def lotI (l : List Int) : Px := .list (l.map .int)
structure LotsOk (ts : List Tie) (n : Int) (lots : List (List Int)) : Prop where
  dis : lots.Pairwise (fun a b => ∀ x ∈ a, x ∉ b)
  ne : ∀ l ∈ lots, l ≠ []
  asc : ∀ l ∈ lots, l.Pairwise (· < ·)
  rng : ∀ l ∈ lots, ∀ x ∈ l, 0 ≤ x ∧ x < n
  cls : ∀ l ∈ lots, ∀ x ∈ l, ∀ y, y ∈ l ↔ Conn ts x y
  cov : ∀ r, 0 ≤ r → r < n → ∃ l ∈ lots, r ∈ l
theorem LotsOk.uniq {ts : List Tie} {n : Int} {lots : List (List Int)} (h : LotsOk ts n lots) {a b : List Int} (ha : a ∈ lots) (hb : b ∈ lots) {x : Int} (hx : x ∈ a) (hy : x ∈ b) : a = b :=
  uniq_sorted id (h.asc a ha) (h.asc b hb) fun z => (h.cls a ha x hx z).trans (h.cls b hb x hy z).symm
theorem lots_begin (n : Nat) : LotsOk [] n ((List.range n).map fun i : Nat => [(i : Int)]) where
  dis := by
    rw [List.pairwise_map]
    exact List.nodup_range.imp fun {a b} hab x hx hy => hab (by
      have h1 := List.mem_singleton.mp hx
      have h2 := List.mem_singleton.mp hy
      omega)
  ne := fun l hl => by
    obtain ⟨i, _, rfl⟩ := List.mem_map.mp hl
    simp
  asc := fun l hl => by
    obtain ⟨i, _, rfl⟩ := List.mem_map.mp hl
    simp
  rng := fun l hl x hx => by
    obtain ⟨i, hi, rfl⟩ := List.mem_map.mp hl
    rw [List.mem_singleton.mp hx]
    have := List.mem_range.mp hi
    omega
  cls := fun l hl x hx y => by
    obtain ⟨i, hi, rfl⟩ := List.mem_map.mp hl
    rw [List.mem_singleton.mp hx, conn_nil, List.mem_singleton]
    exact ⟨fun h => h.symm, fun h => h.symm⟩
  cov := fun r h0 h1 => ⟨[((r.toNat : Nat) : Int)], List.mem_map.mpr ⟨r.toNat, List.mem_range.mpr (by omega), rfl⟩, by rw [List.mem_singleton]; omega⟩
def hit (t : Tie) (l : List Int) : Bool := decide (t.v ∈ l) || decide (t.w ∈ l)
theorem lots_step {ts : List Tie} {n : Int} {lots : List (List Int)} (h : LotsOk ts n lots) {t : Tie} (hv : 0 ≤ t.v ∧ t.v < n) (hw : 0 ≤ t.w ∧ t.w < n) {ms : List Int} (hp : ms.Perm (lots.filter (hit t)).flatten) (hs : ms.Pairwise (· ≤ ·)) :
    LotsOk (ts ++ [t]) n (lots.filter (fun l => !hit t l) ++ [ms]) := by
  obtain ⟨A, hA, hvA⟩ := h.cov t.v hv.1 hv.2
  obtain ⟨B, hB, hwB⟩ := h.cov t.w hw.1 hw.2
  have mem : ∀ x, x ∈ ms ↔ Conn ts x t.v ∨ Conn ts x t.w := fun x => by
    rw [hp.mem_iff, List.mem_flatten]
    constructor
    · rintro ⟨l, hl, hx⟩
      have q := List.mem_filter.mp hl
      have q2 := q.2
      simp only [hit, Bool.or_eq_true, decide_eq_true_eq] at q2
      rcases q2 with q2 | q2
      · exact .inl ((h.cls l q.1 x hx _).mp q2)
      · exact .inr ((h.cls l q.1 x hx _).mp q2)
    · rintro (c | c)
      · exact ⟨A, List.mem_filter.mpr ⟨hA, by simp [hit, hvA]⟩, (h.cls A hA _ hvA x).mpr c.symm⟩
      · exact ⟨B, List.mem_filter.mpr ⟨hB, by simp [hit, hwB]⟩, (h.cls B hB _ hwB x).mpr c.symm⟩
  have hnd : (lots.filter (hit t)).flatten.Nodup := by
    refine List.pairwise_flatten.mpr ⟨fun l hl => (h.asc l (List.mem_filter.mp hl).1).imp fun {a b} q => by omega, ?_⟩
    refine (h.dis.filter _).imp fun {a b} q => ?_
    exact fun x hx y hy e => q x hx (e ▸ hy)
  have masc := asc_of hp hs hnd
  have mrng : ∀ x ∈ ms, 0 ≤ x ∧ x < n := fun x hx => by
    obtain ⟨l, hl, hx⟩ := List.mem_flatten.mp (hp.mem_iff.mp hx)
    exact h.rng l (List.mem_filter.mp hl).1 x hx
  have out : ∀ l ∈ lots.filter (fun l => !hit t l), l ∈ lots ∧ ∀ x ∈ l, ¬ Conn ts x t.v ∧ ¬ Conn ts x t.w := fun l hl => by
    have q := List.mem_filter.mp hl
    have q2 := q.2
    simp only [hit, Bool.not_eq_true', Bool.or_eq_false_iff, decide_eq_false_iff_not] at q2
    exact ⟨q.1, fun x hx => ⟨fun c => q2.1 ((h.cls l q.1 x hx _).mpr c), fun c => q2.2 ((h.cls l q.1 x hx _).mpr c)⟩⟩
  refine ⟨?_, fun l hl => ?_, fun l hl => ?_, fun l hl => ?_, fun l hl x hx y => ?_, fun r h0 h1 => ?_⟩
  · refine List.pairwise_append.mpr ⟨h.dis.filter _, by simp, fun a ha b hb x hx hy => ?_⟩
    rw [List.mem_singleton.mp hb] at hy
    have q := (out a ha).2 x hx
    exact ((mem x).mp hy).elim q.1 q.2
  · rcases List.mem_append.mp hl with hl | hl
    · exact h.ne l (out l hl).1
    · rw [List.mem_singleton.mp hl]
      intro e
      have := (mem t.v).mpr (.inl .refl)
      rw [e] at this
      cases this
  · rcases List.mem_append.mp hl with hl | hl
    · exact h.asc l (out l hl).1
    · rw [List.mem_singleton.mp hl]
      exact masc
  · rcases List.mem_append.mp hl with hl | hl
    · exact h.rng l (out l hl).1
    · rw [List.mem_singleton.mp hl]
      exact mrng
  · rw [conn_snoc]
    rcases List.mem_append.mp hl with hl | hl
    · have q := (out l hl).2 x hx
      rw [h.cls l (out l hl).1 x hx y]
      exact ⟨fun c => .inl c, fun c => c.elim id fun c => c.elim (fun c => absurd c.1 q.1) fun c => absurd c.1 q.2⟩
    · have e := List.mem_singleton.mp hl
      subst e
      rw [mem y]
      have hx := (mem x).mp hx
      constructor
      · rintro (c | c)
        · rcases hx with d | d
          · exact .inl (d.trans c.symm)
          · exact .inr (.inr ⟨d, c.symm⟩)
        · rcases hx with d | d
          · exact .inr (.inl ⟨d, c.symm⟩)
          · exact .inl (d.trans c.symm)
      · rintro (c | c | c)
        · exact hx.imp (fun d => c.symm.trans d) fun d => c.symm.trans d
        · exact .inr c.2.symm
        · exact .inl c.2.symm
  · obtain ⟨l, hl, hr⟩ := h.cov r h0 h1
    cases hh : hit t l
    · exact ⟨l, List.mem_append_left _ (List.mem_filter.mpr ⟨hl, by simp [hh]⟩), hr⟩
    · exact ⟨ms, by simp, hp.mem_iff.mpr (List.mem_flatten.mpr ⟨l, List.mem_filter.mpr ⟨hl, hh⟩, hr⟩)⟩
theorem lots_end {w : Web} {gr : Int} {lots ms : List (List Int)} (wo : WebOk w gr) (h : LotsOk w.ties w.rooms lots) (hp : ms.Perm lots) (hs : ms.Pairwise (fun x y => hd0 x ≤ hd0 y)) : PiecesOk w ms := by
  have hdis : ms.Pairwise (fun a b => ∀ x ∈ a, x ∉ b) := (hp.pairwise_iff fun {a b} q x hx hy => q x hy hx).mpr h.dis
  refine ⟨?_, fun l => ?_⟩
  · have hb := hs.and hdis
    refine List.Pairwise.imp_of_mem ?_ hb
    intro a b ha hb' q
    have a1 := (asc_head (h.asc a (hp.mem_iff.mp ha)) (h.ne a (hp.mem_iff.mp ha))).1
    have b1 := (asc_head (h.asc b (hp.mem_iff.mp hb')) (h.ne b (hp.mem_iff.mp hb'))).1
    have : hd0 a ≠ hd0 b := fun e => q.2 _ a1 (e ▸ b1)
    have := q.1
    omega
  · rw [hp.mem_iff]
    constructor
    · intro hl
      obtain ⟨x, hx⟩ := List.exists_mem_of_ne_nil l (h.ne l hl)
      have r := h.rng l hl x hx
      exact ⟨x, r.1, r.2, h.asc l hl, h.cls l hl x hx⟩
    · rintro ⟨r, h0, h1, hp⟩
      obtain ⟨m, hm, hr⟩ := h.cov r h0 h1
      have e : l = m := hp.uniq ⟨h.asc m hm, h.cls m hm r hr⟩
      rw [e]
      exact hm
end K

set_option Elab.async false
set_option maxRecDepth 100000
set_option linter.all false
set_option autoImplicit false
set_option maxHeartbeats 4000000
namespace K
open PySem L2 Dl
abbrev C_law_pieces : Cn := fun rs g Q => ∃ (w : Web) (gr : Int), rs = [.d (eW w)] ∧ (WebOk w gr ∧ w.ties.length ≤ 1000 ∧ w.rooms ≤ 1000) ∧ ∀ L, PiecesOk w L → Q (.own (L.map tupI)) g
def w_law_pieces : WS :=
  (sSeq (sAsg (eLc (iRg1 (aCons (eIxN 0 (eC (.int 0))) aNil)) (gN 9) wYes (eLst (aCons (eName 9) aNil)) [9]) (gN 1))
  (sSeq (sFor (iTpl (eIxN 0 (eC (.int 1)))) (gT 4 (gsCons (gN 2) (gsCons (gN 3) (gsCons (gN 4) (gsCons (gN 5) gsNil)))))
  (sSeq (sPar2 6 7 (eLst aNil) (eLst aNil))
  (sSeq (sFor (iLst (eName 1)) (gN 8)
  (sIf (wOr (wB (eScR 8 (inD false) (eName 2))) (wB (eScR 8 (inD false) (eName 3)))) (sAsg (eAddN 6 (eName 8)) (gN 6)) (sExp (eApp 7 (eName 8)))))
  (sAsg (eAddN 7 (eLst (aCons (eCB sortIC (aCons (eName 6) aNil)) aNil))) (gN 1)))))
  (sRet (eCB sortTC (aCons (eLc (iLst (eName 1)) (gN 8) wYes (eCB tupC (aCons (eName 8) aNil)) [8]) aNil)))))
theorem len_law_pieces (rs : List Rv) (g : Option Nat) (Q : Rv → Option Nat → Prop) (h : C_law_pieces rs g Q) : rs.length = 1 := by
  obtain ⟨_, _, rfl, _⟩ := h
  rfl
theorem take_snoc {α : Type} {l : List α} {i : Nat} {a : α} (h : l[i]? = some a) : l.take (i + 1) = l.take i ++ [a] := by
  rw [List.take_add_one, h]
  rfl
theorem flat_len {ts : List Tie} {n : Int} {lots L : List (List Int)} (h : LotsOk ts n lots) (k : L.Sublist lots) : L.flatten.length ≤ n.toNat := by
  refine nodup_len _ _ (List.pairwise_flatten.mpr ⟨fun l hl => (h.asc l (k.subset hl)).imp fun {a b} q => by omega, (h.dis.sublist k).imp (S := fun a b => ∀ x ∈ a, ∀ y ∈ b, x ≠ y) fun {a b} q x hx y hy e => q x hx (by rw [e]; exact hy)⟩) fun x hx => ?_
  obtain ⟨l, hl, hx⟩ := List.mem_flatten.mp hx
  have := h.rng l (k.subset hl) x hx
  omega
theorem filt_len {α : Type} {l : List α} {p : α → Bool} {j : Nat} : ((l.take j).filter p).Sublist l := List.filter_sublist.trans (List.take_sublist _ _)
theorem spec_law_pieces (rs : List Rv) (g : Option Nat) (Q : Rv → Option Nat → Prop) (h : C_law_pieces rs g Q) : w_law_pieces (startC 10 rs g) (endP Q) fun _ _ => False := by
  obtain ⟨w, gr, rfl, ⟨wo, hw, hr⟩, hQ⟩ := h
  have hr0 := wo.r0
  simp -dsimp only [w_law_pieces, eW, sSeq, sAsg, sRet, sIf, sExp, sFor_eq, sPar2, sPar3, sSetI_eq, sAug_eq, slotA_d, sSetG_eq, sRetG, sGL, sGP, sNil, sBrk, sCnt, sNo, eName_eq, slotE_d, slotE_gen, slotE_scr, slotE_own, eC, eOp, eUn, eSc, eScL, eScR, eCh, eAnd, eOr, eNot, eIf, eTup, eLst, eCB, eIx, eIxN, eSl, eSlN, eSlS, eAddN, eLenN, eApp, eExt, ePop, eCallP_eq, eCallG_eq, eIsi, eGL, eGS, eGC, eGP, aNil, aCons, wB_eq, wTru, wTruN, wAnd, wOr, wNot, wYes, gN, gT_d, gL_own, gL_d, gsC, gsN, oNone, oSome_eq, asI_i, iLst, iTpl, iRg1, iRg2, iEnm, iEnmT, iZp, iScr, eLc_eq, hasD, slotD_eq, slotK_d, slotK_own, ownD_eq, slotO_own, isOwn, scrD, putE, asDs, asD_d, asD_own, argR_d, argR_own, argR_gen, argR_scr, asL_own, asL_d, asT_d, asB_d, sub_i, iadd_i, mul_i, fdiv_i, mod_i, pow_i, lt_i, le_i, gt_i, ge_i, add_i, add_l, add_t, cat_i, cat_l, cat_t, neg_i, eqf_i, eqt_i, lenC_l, lenC_t, absC_i, intC_i, tupC_l, tupC_t, max2C_i, min2C_i, lenC_s, reprC_b, reprA_b, reprA_i, reprA_t, reprC_i, eqf_rb, eqt_rb, eqt_ri, slD_t, max3C_i, ixt0, ixt1, ixt2, ixt3, ixl0, ixl1, ixtl, ixll, truD, lenD, startC, endP, List.map_cons, List.map_nil, List.length_cons, List.length_nil, List.cons_append, List.nil_append, List.getElem?_cons_zero, List.getElem?_cons_succ, List.set_cons_zero, List.set_cons_succ, List.replicate_succ, List.replicate_zero, Nat.reduceSub, Nat.reduceAdd, Nat.reduceLT, Option.isSome_some, true_and, and_true, ne_eq, not_false_eq_true, reduceCtorEq, if_true, if_false, Bool.false_eq_true, decide_eq_true_eq, List.mem_cons, List.not_mem_nil, or_self, or_false, false_or]
  refine ⟨by unfold smI; omega, by simp [nown], ?_⟩
  rw [rngX_map]
  refine lcW_mpa (fun i : Nat => PyData.int (0 + i)) (fun i : Nat => lotI [(i : Int)]) (List.range w.rooms.toNat) (fun i hi R S hR => ?_) (by rw [List.length_range]; omega) ?_
  · simp -dsimp only [Turn1, wipeE, sSeq, sAsg, sRet, sIf, sExp, sFor_eq, sPar2, sPar3, sSetI_eq, sAug_eq, slotA_d, sSetG_eq, sRetG, sGL, sGP, sNil, sBrk, sCnt, sNo, eName_eq, slotE_d, slotE_gen, slotE_scr, slotE_own, eC, eOp, eUn, eSc, eScL, eScR, eCh, eAnd, eOr, eNot, eIf, eTup, eLst, eCB, eIx, eIxN, eSl, eSlN, eSlS, eAddN, eLenN, eApp, eExt, ePop, eCallP_eq, eCallG_eq, eIsi, eGL, eGS, eGC, eGP, aNil, aCons, wB_eq, wTru, wTruN, wAnd, wOr, wNot, wYes, gN, gT_d, gL_own, gL_d, gsC, gsN, oNone, oSome_eq, asI_i, iLst, iTpl, iRg1, iRg2, iEnm, iEnmT, iZp, iScr, eLc_eq, hasD, slotD_eq, slotK_d, slotK_own, ownD_eq, slotO_own, isOwn, scrD, putE, asDs, asD_d, asD_own, argR_d, argR_own, argR_gen, argR_scr, asL_own, asL_d, asT_d, asB_d, sub_i, iadd_i, mul_i, fdiv_i, mod_i, pow_i, lt_i, le_i, gt_i, ge_i, add_i, add_l, add_t, cat_i, cat_l, cat_t, neg_i, eqf_i, eqt_i, lenC_l, lenC_t, absC_i, intC_i, tupC_l, tupC_t, max2C_i, min2C_i, lenC_s, reprC_b, reprA_b, reprA_i, reprA_t, reprC_i, eqf_rb, eqt_rb, eqt_ri, slD_t, max3C_i, ixt0, ixt1, ixt2, ixt3, ixl0, ixl1, ixtl, ixll, truD, lenD, startC, endP, List.map_cons, List.map_nil, List.length_cons, List.length_nil, List.cons_append, List.nil_append, List.getElem?_cons_zero, List.getElem?_cons_succ, List.set_cons_zero, List.set_cons_succ, List.replicate_succ, List.replicate_zero, Nat.reduceSub, Nat.reduceAdd, Nat.reduceLT, Option.isSome_some, true_and, and_true, ne_eq, not_false_eq_true, reduceCtorEq, if_true, if_false, Bool.false_eq_true, decide_eq_true_eq, List.mem_cons, List.not_mem_nil, or_self, or_false, false_or]
    refine ⟨by decide, ?_⟩
    rw [Int.zero_add]
    exact hR
  rw [show (List.range w.rooms.toNat).map (fun i : Nat => lotI [(i : Int)]) = ((List.range w.rooms.toNat).map fun i : Nat => [(i : Int)]).map lotI by simp]
  have hb := lots_begin w.rooms.toNat
  rw [show ((w.rooms.toNat : Nat) : Int) = w.rooms by omega] at hb
  have hlen : ((List.range w.rooms.toNat).map fun i : Nat => [(i : Int)]).length ≤ 1000 := by simp; omega
  generalize ((List.range w.rooms.toNat).map fun i : Nat => [(i : Int)]) = lots0 at hb hlen ⊢
  try simp -dsimp only [sSeq, sAsg, sRet, sIf, sExp, sFor_eq, sPar2, sPar3, sSetI_eq, sAug_eq, slotA_d, sSetG_eq, sRetG, sGL, sGP, sNil, sBrk, sCnt, sNo, eName_eq, slotE_d, slotE_gen, slotE_scr, slotE_own, eC, eOp, eUn, eSc, eScL, eScR, eCh, eAnd, eOr, eNot, eIf, eTup, eLst, eCB, eIx, eIxN, eSl, eSlN, eSlS, eAddN, eLenN, eApp, eExt, ePop, eCallP_eq, eCallG_eq, eIsi, eGL, eGS, eGC, eGP, aNil, aCons, wB_eq, wTru, wTruN, wAnd, wOr, wNot, wYes, gN, gT_d, gL_own, gL_d, gsC, gsN, oNone, oSome_eq, asI_i, iLst, iTpl, iRg1, iRg2, iEnm, iEnmT, iZp, iScr, eLc_eq, hasD, slotD_eq, slotK_d, slotK_own, ownD_eq, slotO_own, isOwn, scrD, putE, asDs, asD_d, asD_own, argR_d, argR_own, argR_gen, argR_scr, asL_own, asL_d, asT_d, asB_d, sub_i, iadd_i, mul_i, fdiv_i, mod_i, pow_i, lt_i, le_i, gt_i, ge_i, add_i, add_l, add_t, cat_i, cat_l, cat_t, neg_i, eqf_i, eqt_i, lenC_l, lenC_t, absC_i, intC_i, tupC_l, tupC_t, max2C_i, min2C_i, lenC_s, reprC_b, reprA_b, reprA_i, reprA_t, reprC_i, eqf_rb, eqt_rb, eqt_ri, slD_t, max3C_i, ixt0, ixt1, ixt2, ixt3, ixl0, ixl1, ixtl, ixll, truD, lenD, startC, endP, List.map_cons, List.map_nil, List.length_cons, List.length_nil, List.cons_append, List.nil_append, List.getElem?_cons_zero, List.getElem?_cons_succ, List.set_cons_zero, List.set_cons_succ, List.replicate_succ, List.replicate_zero, Nat.reduceSub, Nat.reduceAdd, Nat.reduceLT, Option.isSome_some, true_and, and_true, ne_eq, not_false_eq_true, reduceCtorEq, if_true, if_false, Bool.false_eq_true, decide_eq_true_eq, List.mem_cons, List.not_mem_nil, or_self, or_false, false_or]
  refine forW_ind _ (fun i c => ∃ (lots : List (List Int)) (x2 x3 x4 x5 x6 x7 x9 : Option Rv) (x8 : Option Px), LotsOk (w.ties.take i) w.rooms lots ∧ lots.length ≤ 1000 + i ∧ c = ⟨[some (.d (eW w)), some (.own (lots.map lotI)), x2, x3, x4, x5, x6, x7, x8.map .d, x9], g⟩) (fun i x c hx hI R hR => ?_) (fun c hI => ?_) _ ⟨lots0, none, none, none, none, none, none, none, none, by simpa using hb, by omega, rfl⟩
  · obtain ⟨lots, x2, x3, x4, x5, x6, x7, x9, x8, hlo, hll, rfl⟩ := hI
    obtain ⟨t, ht, rfl⟩ := map_at hx
    have htm : t ∈ w.ties := List.mem_of_getElem? ht
    have hil : i < w.ties.length := (List.getElem?_eq_some_iff.mp ht).1
    have tk := wo.tie t htm
    simp -dsimp only [eT, sSeq, sAsg, sRet, sIf, sExp, sFor_eq, sPar2, sPar3, sSetI_eq, sAug_eq, slotA_d, sSetG_eq, sRetG, sGL, sGP, sNil, sBrk, sCnt, sNo, eName_eq, slotE_d, slotE_gen, slotE_scr, slotE_own, eC, eOp, eUn, eSc, eScL, eScR, eCh, eAnd, eOr, eNot, eIf, eTup, eLst, eCB, eIx, eIxN, eSl, eSlN, eSlS, eAddN, eLenN, eApp, eExt, ePop, eCallP_eq, eCallG_eq, eIsi, eGL, eGS, eGC, eGP, aNil, aCons, wB_eq, wTru, wTruN, wAnd, wOr, wNot, wYes, gN, gT_d, gL_own, gL_d, gsC, gsN, oNone, oSome_eq, asI_i, iLst, iTpl, iRg1, iRg2, iEnm, iEnmT, iZp, iScr, eLc_eq, hasD, slotD_eq, slotK_d, slotK_own, ownD_eq, slotO_own, isOwn, scrD, putE, asDs, asD_d, asD_own, argR_d, argR_own, argR_gen, argR_scr, asL_own, asL_d, asT_d, asB_d, sub_i, iadd_i, mul_i, fdiv_i, mod_i, pow_i, lt_i, le_i, gt_i, ge_i, add_i, add_l, add_t, cat_i, cat_l, cat_t, neg_i, eqf_i, eqt_i, lenC_l, lenC_t, absC_i, intC_i, tupC_l, tupC_t, max2C_i, min2C_i, lenC_s, reprC_b, reprA_b, reprA_i, reprA_t, reprC_i, eqf_rb, eqt_rb, eqt_ri, slD_t, max3C_i, ixt0, ixt1, ixt2, ixt3, ixl0, ixl1, ixtl, ixll, truD, lenD, startC, endP, List.map_cons, List.map_nil, List.length_cons, List.length_nil, List.cons_append, List.nil_append, List.getElem?_cons_zero, List.getElem?_cons_succ, List.set_cons_zero, List.set_cons_succ, List.replicate_succ, List.replicate_zero, Nat.reduceSub, Nat.reduceAdd, Nat.reduceLT, Option.isSome_some, true_and, and_true, ne_eq, not_false_eq_true, reduceCtorEq, if_true, if_false, Bool.false_eq_true, decide_eq_true_eq, List.mem_cons, List.not_mem_nil, or_self, or_false, false_or]
    refine ⟨by decide, by decide, ?_⟩
    refine forW_ind _ (fun j c => ∃ (x8 : Option Px) (x9 : Option Rv), c = ⟨[some (.d (eW w)), some (.d (.list (lots.map lotI))), some (.d (.int t.v)), some (.d (.int t.w)), some (.d (.int t.p)), some (.d (.int t.q)), some (.own (((lots.take j).filter (hit t)).flatten.map .int)), some (.own (((lots.take j).filter fun l => !hit t l).map lotI)), x8.map .d, x9], g⟩) (fun j x c hx hI R2 hR2 => ?_) (fun c hI => ?_) _ ⟨x8, x9, by simp⟩
    · obtain ⟨x8, x9, rfl⟩ := hI
      obtain ⟨l, hl, rfl⟩ := map_at hx
      have hlm : l ∈ lots := List.mem_of_getElem? hl
      have hlj := (List.getElem?_eq_some_iff.mp hl).1
      have b1 := flat_len hlo (filt_len (l := lots) (p := hit t) (j := j))
      have b2 : l.length ≤ w.rooms.toNat := nodup_len _ l ((hlo.asc l hlm).imp fun {a b} q => by omega) fun x hx => by
        have := hlo.rng l hlm x hx
        omega
      have b3 := (filt_len (l := lots) (p := fun l => !hit t l) (j := j)).length_le
      have tk1 := take_snoc hl
      have joined : hit t l = true → R2 ⟨[some (.d (eW w)), some (.d (.list (lots.map lotI))), some (.d (.int t.v)), some (.d (.int t.w)), some (.d (.int t.p)), some (.d (.int t.q)), some (.own (((lots.take j).filter (hit t)).flatten.map .int ++ l.map .int)), some (.own (((lots.take j).filter fun l => !hit t l).map lotI)), some (.d (lotI l)), x9], g⟩ := fun hh => by
        refine hR2 _ ⟨some (lotI l), x9, ?_⟩
        rw [tk1]
        simp [List.filter_append, hh]
      simp -dsimp only [lotI, sSeq, sAsg, sRet, sIf, sExp, sFor_eq, sPar2, sPar3, sSetI_eq, sAug_eq, slotA_d, sSetG_eq, sRetG, sGL, sGP, sNil, sBrk, sCnt, sNo, eName_eq, slotE_d, slotE_gen, slotE_scr, slotE_own, eC, eOp, eUn, eSc, eScL, eScR, eCh, eAnd, eOr, eNot, eIf, eTup, eLst, eCB, eIx, eIxN, eSl, eSlN, eSlS, eAddN, eLenN, eApp, eExt, ePop, eCallP_eq, eCallG_eq, eIsi, eGL, eGS, eGC, eGP, aNil, aCons, wB_eq, wTru, wTruN, wAnd, wOr, wNot, wYes, gN, gT_d, gL_own, gL_d, gsC, gsN, oNone, oSome_eq, asI_i, iLst, iTpl, iRg1, iRg2, iEnm, iEnmT, iZp, iScr, eLc_eq, hasD, slotD_eq, slotK_d, slotK_own, ownD_eq, slotO_own, isOwn, scrD, putE, asDs, asD_d, asD_own, argR_d, argR_own, argR_gen, argR_scr, asL_own, asL_d, asT_d, asB_d, sub_i, iadd_i, mul_i, fdiv_i, mod_i, pow_i, lt_i, le_i, gt_i, ge_i, add_i, add_l, add_t, cat_i, cat_l, cat_t, neg_i, eqf_i, eqt_i, lenC_l, lenC_t, absC_i, intC_i, tupC_l, tupC_t, max2C_i, min2C_i, lenC_s, reprC_b, reprA_b, reprA_i, reprA_t, reprC_i, eqf_rb, eqt_rb, eqt_ri, slD_t, max3C_i, ixt0, ixt1, ixt2, ixt3, ixl0, ixl1, ixtl, ixll, truD, lenD, startC, endP, List.map_cons, List.map_nil, List.length_cons, List.length_nil, List.cons_append, List.nil_append, List.getElem?_cons_zero, List.getElem?_cons_succ, List.set_cons_zero, List.set_cons_succ, List.replicate_succ, List.replicate_zero, Nat.reduceSub, Nat.reduceAdd, Nat.reduceLT, Option.isSome_some, true_and, and_true, ne_eq, not_false_eq_true, reduceCtorEq, if_true, if_false, Bool.false_eq_true, decide_eq_true_eq, List.mem_cons, List.not_mem_nil, or_self, or_false, false_or]
      rw [inF_l]
      by_cases hv : t.v ∈ l
      · simp -dsimp only [hv, decide_true, sSeq, sAsg, sRet, sIf, sExp, sFor_eq, sPar2, sPar3, sSetI_eq, sAug_eq, slotA_d, sSetG_eq, sRetG, sGL, sGP, sNil, sBrk, sCnt, sNo, eName_eq, slotE_d, slotE_gen, slotE_scr, slotE_own, eC, eOp, eUn, eSc, eScL, eScR, eCh, eAnd, eOr, eNot, eIf, eTup, eLst, eCB, eIx, eIxN, eSl, eSlN, eSlS, eAddN, eLenN, eApp, eExt, ePop, eCallP_eq, eCallG_eq, eIsi, eGL, eGS, eGC, eGP, aNil, aCons, wB_eq, wTru, wTruN, wAnd, wOr, wNot, wYes, gN, gT_d, gL_own, gL_d, gsC, gsN, oNone, oSome_eq, asI_i, iLst, iTpl, iRg1, iRg2, iEnm, iEnmT, iZp, iScr, eLc_eq, hasD, slotD_eq, slotK_d, slotK_own, ownD_eq, slotO_own, isOwn, scrD, putE, asDs, asD_d, asD_own, argR_d, argR_own, argR_gen, argR_scr, asL_own, asL_d, asT_d, asB_d, sub_i, iadd_i, mul_i, fdiv_i, mod_i, pow_i, lt_i, le_i, gt_i, ge_i, add_i, add_l, add_t, cat_i, cat_l, cat_t, neg_i, eqf_i, eqt_i, lenC_l, lenC_t, absC_i, intC_i, tupC_l, tupC_t, max2C_i, min2C_i, lenC_s, reprC_b, reprA_b, reprA_i, reprA_t, reprC_i, eqf_rb, eqt_rb, eqt_ri, slD_t, max3C_i, ixt0, ixt1, ixt2, ixt3, ixl0, ixl1, ixtl, ixll, truD, lenD, startC, endP, List.map_cons, List.map_nil, List.length_cons, List.length_nil, List.cons_append, List.nil_append, List.getElem?_cons_zero, List.getElem?_cons_succ, List.set_cons_zero, List.set_cons_succ, List.replicate_succ, List.replicate_zero, Nat.reduceSub, Nat.reduceAdd, Nat.reduceLT, Option.isSome_some, true_and, and_true, ne_eq, not_false_eq_true, reduceCtorEq, if_true, if_false, Bool.false_eq_true, decide_eq_true_eq, List.mem_cons, List.not_mem_nil, or_self, or_false, false_or]
        exact ⟨by rw [List.length_map, List.length_map]; omega, joined (by simp [hit, hv])⟩
      · simp -dsimp only [hv, decide_false, sSeq, sAsg, sRet, sIf, sExp, sFor_eq, sPar2, sPar3, sSetI_eq, sAug_eq, slotA_d, sSetG_eq, sRetG, sGL, sGP, sNil, sBrk, sCnt, sNo, eName_eq, slotE_d, slotE_gen, slotE_scr, slotE_own, eC, eOp, eUn, eSc, eScL, eScR, eCh, eAnd, eOr, eNot, eIf, eTup, eLst, eCB, eIx, eIxN, eSl, eSlN, eSlS, eAddN, eLenN, eApp, eExt, ePop, eCallP_eq, eCallG_eq, eIsi, eGL, eGS, eGC, eGP, aNil, aCons, wB_eq, wTru, wTruN, wAnd, wOr, wNot, wYes, gN, gT_d, gL_own, gL_d, gsC, gsN, oNone, oSome_eq, asI_i, iLst, iTpl, iRg1, iRg2, iEnm, iEnmT, iZp, iScr, eLc_eq, hasD, slotD_eq, slotK_d, slotK_own, ownD_eq, slotO_own, isOwn, scrD, putE, asDs, asD_d, asD_own, argR_d, argR_own, argR_gen, argR_scr, asL_own, asL_d, asT_d, asB_d, sub_i, iadd_i, mul_i, fdiv_i, mod_i, pow_i, lt_i, le_i, gt_i, ge_i, add_i, add_l, add_t, cat_i, cat_l, cat_t, neg_i, eqf_i, eqt_i, lenC_l, lenC_t, absC_i, intC_i, tupC_l, tupC_t, max2C_i, min2C_i, lenC_s, reprC_b, reprA_b, reprA_i, reprA_t, reprC_i, eqf_rb, eqt_rb, eqt_ri, slD_t, max3C_i, ixt0, ixt1, ixt2, ixt3, ixl0, ixl1, ixtl, ixll, truD, lenD, startC, endP, List.map_cons, List.map_nil, List.length_cons, List.length_nil, List.cons_append, List.nil_append, List.getElem?_cons_zero, List.getElem?_cons_succ, List.set_cons_zero, List.set_cons_succ, List.replicate_succ, List.replicate_zero, Nat.reduceSub, Nat.reduceAdd, Nat.reduceLT, Option.isSome_some, true_and, and_true, ne_eq, not_false_eq_true, reduceCtorEq, if_true, if_false, Bool.false_eq_true, decide_eq_true_eq, List.mem_cons, List.not_mem_nil, or_self, or_false, false_or]
        rw [inF_l]
        by_cases hw2 : t.w ∈ l
        · simp -dsimp only [hw2, decide_true, sSeq, sAsg, sRet, sIf, sExp, sFor_eq, sPar2, sPar3, sSetI_eq, sAug_eq, slotA_d, sSetG_eq, sRetG, sGL, sGP, sNil, sBrk, sCnt, sNo, eName_eq, slotE_d, slotE_gen, slotE_scr, slotE_own, eC, eOp, eUn, eSc, eScL, eScR, eCh, eAnd, eOr, eNot, eIf, eTup, eLst, eCB, eIx, eIxN, eSl, eSlN, eSlS, eAddN, eLenN, eApp, eExt, ePop, eCallP_eq, eCallG_eq, eIsi, eGL, eGS, eGC, eGP, aNil, aCons, wB_eq, wTru, wTruN, wAnd, wOr, wNot, wYes, gN, gT_d, gL_own, gL_d, gsC, gsN, oNone, oSome_eq, asI_i, iLst, iTpl, iRg1, iRg2, iEnm, iEnmT, iZp, iScr, eLc_eq, hasD, slotD_eq, slotK_d, slotK_own, ownD_eq, slotO_own, isOwn, scrD, putE, asDs, asD_d, asD_own, argR_d, argR_own, argR_gen, argR_scr, asL_own, asL_d, asT_d, asB_d, sub_i, iadd_i, mul_i, fdiv_i, mod_i, pow_i, lt_i, le_i, gt_i, ge_i, add_i, add_l, add_t, cat_i, cat_l, cat_t, neg_i, eqf_i, eqt_i, lenC_l, lenC_t, absC_i, intC_i, tupC_l, tupC_t, max2C_i, min2C_i, lenC_s, reprC_b, reprA_b, reprA_i, reprA_t, reprC_i, eqf_rb, eqt_rb, eqt_ri, slD_t, max3C_i, ixt0, ixt1, ixt2, ixt3, ixl0, ixl1, ixtl, ixll, truD, lenD, startC, endP, List.map_cons, List.map_nil, List.length_cons, List.length_nil, List.cons_append, List.nil_append, List.getElem?_cons_zero, List.getElem?_cons_succ, List.set_cons_zero, List.set_cons_succ, List.replicate_succ, List.replicate_zero, Nat.reduceSub, Nat.reduceAdd, Nat.reduceLT, Option.isSome_some, true_and, and_true, ne_eq, not_false_eq_true, reduceCtorEq, if_true, if_false, Bool.false_eq_true, decide_eq_true_eq, List.mem_cons, List.not_mem_nil, or_self, or_false, false_or]
          exact ⟨by rw [List.length_map, List.length_map]; omega, joined (by simp [hit, hw2])⟩
        · simp -dsimp only [hw2, decide_false, sSeq, sAsg, sRet, sIf, sExp, sFor_eq, sPar2, sPar3, sSetI_eq, sAug_eq, slotA_d, sSetG_eq, sRetG, sGL, sGP, sNil, sBrk, sCnt, sNo, eName_eq, slotE_d, slotE_gen, slotE_scr, slotE_own, eC, eOp, eUn, eSc, eScL, eScR, eCh, eAnd, eOr, eNot, eIf, eTup, eLst, eCB, eIx, eIxN, eSl, eSlN, eSlS, eAddN, eLenN, eApp, eExt, ePop, eCallP_eq, eCallG_eq, eIsi, eGL, eGS, eGC, eGP, aNil, aCons, wB_eq, wTru, wTruN, wAnd, wOr, wNot, wYes, gN, gT_d, gL_own, gL_d, gsC, gsN, oNone, oSome_eq, asI_i, iLst, iTpl, iRg1, iRg2, iEnm, iEnmT, iZp, iScr, eLc_eq, hasD, slotD_eq, slotK_d, slotK_own, ownD_eq, slotO_own, isOwn, scrD, putE, asDs, asD_d, asD_own, argR_d, argR_own, argR_gen, argR_scr, asL_own, asL_d, asT_d, asB_d, sub_i, iadd_i, mul_i, fdiv_i, mod_i, pow_i, lt_i, le_i, gt_i, ge_i, add_i, add_l, add_t, cat_i, cat_l, cat_t, neg_i, eqf_i, eqt_i, lenC_l, lenC_t, absC_i, intC_i, tupC_l, tupC_t, max2C_i, min2C_i, lenC_s, reprC_b, reprA_b, reprA_i, reprA_t, reprC_i, eqf_rb, eqt_rb, eqt_ri, slD_t, max3C_i, ixt0, ixt1, ixt2, ixt3, ixl0, ixl1, ixtl, ixll, truD, lenD, startC, endP, List.map_cons, List.map_nil, List.length_cons, List.length_nil, List.cons_append, List.nil_append, List.getElem?_cons_zero, List.getElem?_cons_succ, List.set_cons_zero, List.set_cons_succ, List.replicate_succ, List.replicate_zero, Nat.reduceSub, Nat.reduceAdd, Nat.reduceLT, Option.isSome_some, true_and, and_true, ne_eq, not_false_eq_true, reduceCtorEq, if_true, if_false, Bool.false_eq_true, decide_eq_true_eq, List.mem_cons, List.not_mem_nil, or_self, or_false, false_or]
          have hh : hit t l = false := by simp [hit, hv, hw2]
          refine ⟨by rw [List.length_map]; omega, hR2 _ ⟨some (lotI l), x9, ?_⟩⟩
          rw [tk1]
          simp [List.filter_append, hh, lotI]
    · obtain ⟨x8, x9, rfl⟩ := hI
      rw [List.length_map, List.take_length]
      have b3 := (List.filter_sublist (p := fun l => !hit t l) (l := lots)).length_le
      try simp -dsimp only [sSeq, sAsg, sRet, sIf, sExp, sFor_eq, sPar2, sPar3, sSetI_eq, sAug_eq, slotA_d, sSetG_eq, sRetG, sGL, sGP, sNil, sBrk, sCnt, sNo, eName_eq, slotE_d, slotE_gen, slotE_scr, slotE_own, eC, eOp, eUn, eSc, eScL, eScR, eCh, eAnd, eOr, eNot, eIf, eTup, eLst, eCB, eIx, eIxN, eSl, eSlN, eSlS, eAddN, eLenN, eApp, eExt, ePop, eCallP_eq, eCallG_eq, eIsi, eGL, eGS, eGC, eGP, aNil, aCons, wB_eq, wTru, wTruN, wAnd, wOr, wNot, wYes, gN, gT_d, gL_own, gL_d, gsC, gsN, oNone, oSome_eq, asI_i, iLst, iTpl, iRg1, iRg2, iEnm, iEnmT, iZp, iScr, eLc_eq, hasD, slotD_eq, slotK_d, slotK_own, ownD_eq, slotO_own, isOwn, scrD, putE, asDs, asD_d, asD_own, argR_d, argR_own, argR_gen, argR_scr, asL_own, asL_d, asT_d, asB_d, sub_i, iadd_i, mul_i, fdiv_i, mod_i, pow_i, lt_i, le_i, gt_i, ge_i, add_i, add_l, add_t, cat_i, cat_l, cat_t, neg_i, eqf_i, eqt_i, lenC_l, lenC_t, absC_i, intC_i, tupC_l, tupC_t, max2C_i, min2C_i, lenC_s, reprC_b, reprA_b, reprA_i, reprA_t, reprC_i, eqf_rb, eqt_rb, eqt_ri, slD_t, max3C_i, ixt0, ixt1, ixt2, ixt3, ixl0, ixl1, ixtl, ixll, truD, lenD, startC, endP, List.map_cons, List.map_nil, List.length_cons, List.length_nil, List.cons_append, List.nil_append, List.getElem?_cons_zero, List.getElem?_cons_succ, List.set_cons_zero, List.set_cons_succ, List.replicate_succ, List.replicate_zero, Nat.reduceSub, Nat.reduceAdd, Nat.reduceLT, Option.isSome_some, true_and, and_true, ne_eq, not_false_eq_true, reduceCtorEq, if_true, if_false, Bool.false_eq_true, decide_eq_true_eq, List.mem_cons, List.not_mem_nil, or_self, or_false, false_or]
      refine ⟨_, rfl, fun ms hp hs => ?_⟩
      try simp -dsimp only [sSeq, sAsg, sRet, sIf, sExp, sFor_eq, sPar2, sPar3, sSetI_eq, sAug_eq, slotA_d, sSetG_eq, sRetG, sGL, sGP, sNil, sBrk, sCnt, sNo, eName_eq, slotE_d, slotE_gen, slotE_scr, slotE_own, eC, eOp, eUn, eSc, eScL, eScR, eCh, eAnd, eOr, eNot, eIf, eTup, eLst, eCB, eIx, eIxN, eSl, eSlN, eSlS, eAddN, eLenN, eApp, eExt, ePop, eCallP_eq, eCallG_eq, eIsi, eGL, eGS, eGC, eGP, aNil, aCons, wB_eq, wTru, wTruN, wAnd, wOr, wNot, wYes, gN, gT_d, gL_own, gL_d, gsC, gsN, oNone, oSome_eq, asI_i, iLst, iTpl, iRg1, iRg2, iEnm, iEnmT, iZp, iScr, eLc_eq, hasD, slotD_eq, slotK_d, slotK_own, ownD_eq, slotO_own, isOwn, scrD, putE, asDs, asD_d, asD_own, argR_d, argR_own, argR_gen, argR_scr, asL_own, asL_d, asT_d, asB_d, sub_i, iadd_i, mul_i, fdiv_i, mod_i, pow_i, lt_i, le_i, gt_i, ge_i, add_i, add_l, add_t, cat_i, cat_l, cat_t, neg_i, eqf_i, eqt_i, lenC_l, lenC_t, absC_i, intC_i, tupC_l, tupC_t, max2C_i, min2C_i, lenC_s, reprC_b, reprA_b, reprA_i, reprA_t, reprC_i, eqf_rb, eqt_rb, eqt_ri, slD_t, max3C_i, ixt0, ixt1, ixt2, ixt3, ixl0, ixl1, ixtl, ixll, truD, lenD, startC, endP, List.map_cons, List.map_nil, List.length_cons, List.length_nil, List.cons_append, List.nil_append, List.getElem?_cons_zero, List.getElem?_cons_succ, List.set_cons_zero, List.set_cons_succ, List.replicate_succ, List.replicate_zero, Nat.reduceSub, Nat.reduceAdd, Nat.reduceLT, Option.isSome_some, true_and, and_true, ne_eq, not_false_eq_true, reduceCtorEq, if_true, if_false, Bool.false_eq_true, decide_eq_true_eq, List.mem_cons, List.not_mem_nil, or_self, or_false, false_or]
      refine ⟨by decide, by rw [List.length_map]; omega, hR _ ⟨lots.filter (fun l => !hit t l) ++ [ms], some (.d (.int t.v)), some (.d (.int t.w)), some (.d (.int t.p)), some (.d (.int t.q)), some (.d (.list ((lots.filter (hit t)).flatten.map .int))), some (.own ((lots.filter fun l => !hit t l).map lotI)), x9, x8, ?_, by simp; omega, by simp [lotI]⟩⟩
      rw [take_snoc ht]
      exact lots_step hlo ⟨tk.v0, tk.v1⟩ ⟨tk.w0, tk.w1⟩ hp hs
  · obtain ⟨lots, x2, x3, x4, x5, x6, x7, x9, x8, hlo, hll, rfl⟩ := hI
    rw [List.length_map, List.take_length] at hlo
    rw [List.length_map] at hll
    try simp -dsimp only [sSeq, sAsg, sRet, sIf, sExp, sFor_eq, sPar2, sPar3, sSetI_eq, sAug_eq, slotA_d, sSetG_eq, sRetG, sGL, sGP, sNil, sBrk, sCnt, sNo, eName_eq, slotE_d, slotE_gen, slotE_scr, slotE_own, eC, eOp, eUn, eSc, eScL, eScR, eCh, eAnd, eOr, eNot, eIf, eTup, eLst, eCB, eIx, eIxN, eSl, eSlN, eSlS, eAddN, eLenN, eApp, eExt, ePop, eCallP_eq, eCallG_eq, eIsi, eGL, eGS, eGC, eGP, aNil, aCons, wB_eq, wTru, wTruN, wAnd, wOr, wNot, wYes, gN, gT_d, gL_own, gL_d, gsC, gsN, oNone, oSome_eq, asI_i, iLst, iTpl, iRg1, iRg2, iEnm, iEnmT, iZp, iScr, eLc_eq, hasD, slotD_eq, slotK_d, slotK_own, ownD_eq, slotO_own, isOwn, scrD, putE, asDs, asD_d, asD_own, argR_d, argR_own, argR_gen, argR_scr, asL_own, asL_d, asT_d, asB_d, sub_i, iadd_i, mul_i, fdiv_i, mod_i, pow_i, lt_i, le_i, gt_i, ge_i, add_i, add_l, add_t, cat_i, cat_l, cat_t, neg_i, eqf_i, eqt_i, lenC_l, lenC_t, absC_i, intC_i, tupC_l, tupC_t, max2C_i, min2C_i, lenC_s, reprC_b, reprA_b, reprA_i, reprA_t, reprC_i, eqf_rb, eqt_rb, eqt_ri, slD_t, max3C_i, ixt0, ixt1, ixt2, ixt3, ixl0, ixl1, ixtl, ixll, truD, lenD, startC, endP, List.map_cons, List.map_nil, List.length_cons, List.length_nil, List.cons_append, List.nil_append, List.getElem?_cons_zero, List.getElem?_cons_succ, List.set_cons_zero, List.set_cons_succ, List.replicate_succ, List.replicate_zero, Nat.reduceSub, Nat.reduceAdd, Nat.reduceLT, Option.isSome_some, true_and, and_true, ne_eq, not_false_eq_true, reduceCtorEq, if_true, if_false, Bool.false_eq_true, decide_eq_true_eq, List.mem_cons, List.not_mem_nil, or_self, or_false, false_or]
    refine ⟨by cases x8 <;> simp [nown], ?_⟩
    refine lcW_mpa lotI tupI lots (fun l hl R S hR => ?_) (by omega) ?_
    · simp -dsimp only [Turn1, wipeE, lotI, sSeq, sAsg, sRet, sIf, sExp, sFor_eq, sPar2, sPar3, sSetI_eq, sAug_eq, slotA_d, sSetG_eq, sRetG, sGL, sGP, sNil, sBrk, sCnt, sNo, eName_eq, slotE_d, slotE_gen, slotE_scr, slotE_own, eC, eOp, eUn, eSc, eScL, eScR, eCh, eAnd, eOr, eNot, eIf, eTup, eLst, eCB, eIx, eIxN, eSl, eSlN, eSlS, eAddN, eLenN, eApp, eExt, ePop, eCallP_eq, eCallG_eq, eIsi, eGL, eGS, eGC, eGP, aNil, aCons, wB_eq, wTru, wTruN, wAnd, wOr, wNot, wYes, gN, gT_d, gL_own, gL_d, gsC, gsN, oNone, oSome_eq, asI_i, iLst, iTpl, iRg1, iRg2, iEnm, iEnmT, iZp, iScr, eLc_eq, hasD, slotD_eq, slotK_d, slotK_own, ownD_eq, slotO_own, isOwn, scrD, putE, asDs, asD_d, asD_own, argR_d, argR_own, argR_gen, argR_scr, asL_own, asL_d, asT_d, asB_d, sub_i, iadd_i, mul_i, fdiv_i, mod_i, pow_i, lt_i, le_i, gt_i, ge_i, add_i, add_l, add_t, cat_i, cat_l, cat_t, neg_i, eqf_i, eqt_i, lenC_l, lenC_t, absC_i, intC_i, tupC_l, tupC_t, max2C_i, min2C_i, lenC_s, reprC_b, reprA_b, reprA_i, reprA_t, reprC_i, eqf_rb, eqt_rb, eqt_ri, slD_t, max3C_i, ixt0, ixt1, ixt2, ixt3, ixl0, ixl1, ixtl, ixll, truD, lenD, startC, endP, List.map_cons, List.map_nil, List.length_cons, List.length_nil, List.cons_append, List.nil_append, List.getElem?_cons_zero, List.getElem?_cons_succ, List.set_cons_zero, List.set_cons_succ, List.replicate_succ, List.replicate_zero, Nat.reduceSub, Nat.reduceAdd, Nat.reduceLT, Option.isSome_some, true_and, and_true, ne_eq, not_false_eq_true, reduceCtorEq, if_true, if_false, Bool.false_eq_true, decide_eq_true_eq, List.mem_cons, List.not_mem_nil, or_self, or_false, false_or]
      exact hR
    try simp -dsimp only [sSeq, sAsg, sRet, sIf, sExp, sFor_eq, sPar2, sPar3, sSetI_eq, sAug_eq, slotA_d, sSetG_eq, sRetG, sGL, sGP, sNil, sBrk, sCnt, sNo, eName_eq, slotE_d, slotE_gen, slotE_scr, slotE_own, eC, eOp, eUn, eSc, eScL, eScR, eCh, eAnd, eOr, eNot, eIf, eTup, eLst, eCB, eIx, eIxN, eSl, eSlN, eSlS, eAddN, eLenN, eApp, eExt, ePop, eCallP_eq, eCallG_eq, eIsi, eGL, eGS, eGC, eGP, aNil, aCons, wB_eq, wTru, wTruN, wAnd, wOr, wNot, wYes, gN, gT_d, gL_own, gL_d, gsC, gsN, oNone, oSome_eq, asI_i, iLst, iTpl, iRg1, iRg2, iEnm, iEnmT, iZp, iScr, eLc_eq, hasD, slotD_eq, slotK_d, slotK_own, ownD_eq, slotO_own, isOwn, scrD, putE, asDs, asD_d, asD_own, argR_d, argR_own, argR_gen, argR_scr, asL_own, asL_d, asT_d, asB_d, sub_i, iadd_i, mul_i, fdiv_i, mod_i, pow_i, lt_i, le_i, gt_i, ge_i, add_i, add_l, add_t, cat_i, cat_l, cat_t, neg_i, eqf_i, eqt_i, lenC_l, lenC_t, absC_i, intC_i, tupC_l, tupC_t, max2C_i, min2C_i, lenC_s, reprC_b, reprA_b, reprA_i, reprA_t, reprC_i, eqf_rb, eqt_rb, eqt_ri, slD_t, max3C_i, ixt0, ixt1, ixt2, ixt3, ixl0, ixl1, ixtl, ixll, truD, lenD, startC, endP, List.map_cons, List.map_nil, List.length_cons, List.length_nil, List.cons_append, List.nil_append, List.getElem?_cons_zero, List.getElem?_cons_succ, List.set_cons_zero, List.set_cons_succ, List.replicate_succ, List.replicate_zero, Nat.reduceSub, Nat.reduceAdd, Nat.reduceLT, Option.isSome_some, true_and, and_true, ne_eq, not_false_eq_true, reduceCtorEq, if_true, if_false, Bool.false_eq_true, decide_eq_true_eq, List.mem_cons, List.not_mem_nil, or_self, or_false, false_or]
    refine ⟨lots, rfl, hlo.ne, fun ms hp hs => ?_⟩
    exact hQ ms (lots_end wo hlo hp hs)
end K

set_option Elab.async false
set_option maxRecDepth 100000
set_option linter.all false
set_option autoImplicit false
set_option maxHeartbeats 4000000
namespace K
open PySem L2 Dl
abbrev C_law_drawn : Cn := fun rs g Q => ∃ (gr : Int) (n : Nat), rs = [.gen, .d (.int gr)] ∧ g = some n ∧ n + 800 ≤ 2 ^ 40 ∧ 0 < gr ∧ gr ≤ 100000 ∧
  ∀ (w : Web) (m : Nat), WebOk w gr → w.rooms ≤ 5 → w.ties.length ≤ 7 → m ≤ n + 800 → Q (.d (eW w)) (some m)
def w_law_drawn : WS :=
  (sSeq (sAsg (eOp addD (eC (.int 1)) (eCallG C_law_draw (aCons (eName 0) (aCons (eC (.int 5)) aNil)))) (gN 2))
  (sSeq (sAsg (eCallG C_law_web (aCons (eName 0) (aCons (eName 2) (aCons (eCallG C_law_draw (aCons (eName 0) (aCons (eC (.int 8)) aNil))) (aCons (eName 1) aNil))))) (gN 3))
  (sSeq (sIf (wB (eSc (eqD false) (eCallG C_law_draw (aCons (eName 0) (aCons (eC (.int 3)) aNil))) (eC (.int 0)))) (sRet (eTup (aCons (eName 2) (aCons (eCB tupC (aCons (eLc (iTpl (eIxN 3 (eC (.int 1)))) (gN 4) (wB (eSc gtD (eCallG C_law_draw (aCons (eName 0) (aCons (eC (.int 3)) aNil))) (eC (.int 0)))) (eName 4) [4]) aNil)) aNil)))) sNil)
  (sRet (eName 3)))))
theorem len_law_drawn (rs : List Rv) (g : Option Nat) (Q : Rv → Option Nat → Prop) (h : C_law_drawn rs g Q) : rs.length = 2 := by
  obtain ⟨_, _, rfl, _⟩ := h
  rfl
theorem spec_law_drawn (rs : List Rv) (g : Option Nat) (Q : Rv → Option Nat → Prop) (h : C_law_drawn rs g Q) : w_law_drawn (startC 5 rs g) (endP Q) fun _ _ => False := by
  obtain ⟨gr, n, rfl, rfl, hn, hg0, hg1, hQ⟩ := h
  simp -dsimp only [w_law_drawn, C_law_draw, C_law_web, sSeq, sAsg, sRet, sIf, sExp, sFor_eq, sPar2, sPar3, sSetI_eq, sAug_eq, slotA_d, sSetG_eq, sRetG, sGL, sGP, sNil, sBrk, sCnt, sNo, eName_eq, slotE_d, slotE_gen, slotE_scr, slotE_own, eC, eOp, eUn, eSc, eScL, eScR, eCh, eAnd, eOr, eNot, eIf, eTup, eLst, eCB, eIx, eIxN, eSl, eSlN, eSlS, eAddN, eLenN, eApp, eExt, ePop, eCallP_eq, eCallG_eq, eIsi, eGL, eGS, eGC, eGP, aNil, aCons, wB_eq, wTru, wTruN, wAnd, wOr, wNot, wYes, gN, gT_d, gL_own, gL_d, gsC, gsN, oNone, oSome_eq, asI_i, iLst, iTpl, iRg1, iRg2, iEnm, iEnmT, iZp, iScr, eLc_eq, hasD, slotD_eq, slotK_d, slotK_own, ownD_eq, slotO_own, isOwn, scrD, putE, asDs, asD_d, asD_own, argR_d, argR_own, argR_gen, argR_scr, asL_own, asL_d, asT_d, asB_d, sub_i, iadd_i, mul_i, fdiv_i, mod_i, pow_i, lt_i, le_i, gt_i, ge_i, add_i, add_l, add_t, cat_i, cat_l, cat_t, neg_i, eqf_i, eqt_i, lenC_l, lenC_t, absC_i, intC_i, tupC_l, tupC_t, max2C_i, min2C_i, lenC_s, reprC_b, reprA_b, reprA_i, reprA_t, reprC_i, eqf_rb, eqt_rb, eqt_ri, slD_t, max3C_i, ixt0, ixt1, ixt2, ixt3, ixl0, ixl1, ixtl, ixll, truD, lenD, startC, endP, List.map_cons, List.map_nil, List.length_cons, List.length_nil, List.cons_append, List.nil_append, List.getElem?_cons_zero, List.getElem?_cons_succ, List.set_cons_zero, List.set_cons_succ, List.replicate_succ, List.replicate_zero, Nat.reduceSub, Nat.reduceAdd, Nat.reduceLT, Option.isSome_some, true_and, and_true, ne_eq, not_false_eq_true, reduceCtorEq, if_true, if_false, Bool.false_eq_true, decide_eq_true_eq, List.mem_cons, List.not_mem_nil, or_self, or_false, false_or]
  refine ⟨_, _, rfl, rfl, by omega, by omega, pow9000 (by omega) (by omega), fun a m1 haa hab hm1 => ?_⟩
  try simp -dsimp only [sSeq, sAsg, sRet, sIf, sExp, sFor_eq, sPar2, sPar3, sSetI_eq, sAug_eq, slotA_d, sSetG_eq, sRetG, sGL, sGP, sNil, sBrk, sCnt, sNo, eName_eq, slotE_d, slotE_gen, slotE_scr, slotE_own, eC, eOp, eUn, eSc, eScL, eScR, eCh, eAnd, eOr, eNot, eIf, eTup, eLst, eCB, eIx, eIxN, eSl, eSlN, eSlS, eAddN, eLenN, eApp, eExt, ePop, eCallP_eq, eCallG_eq, eIsi, eGL, eGS, eGC, eGP, aNil, aCons, wB_eq, wTru, wTruN, wAnd, wOr, wNot, wYes, gN, gT_d, gL_own, gL_d, gsC, gsN, oNone, oSome_eq, asI_i, iLst, iTpl, iRg1, iRg2, iEnm, iEnmT, iZp, iScr, eLc_eq, hasD, slotD_eq, slotK_d, slotK_own, ownD_eq, slotO_own, isOwn, scrD, putE, asDs, asD_d, asD_own, argR_d, argR_own, argR_gen, argR_scr, asL_own, asL_d, asT_d, asB_d, sub_i, iadd_i, mul_i, fdiv_i, mod_i, pow_i, lt_i, le_i, gt_i, ge_i, add_i, add_l, add_t, cat_i, cat_l, cat_t, neg_i, eqf_i, eqt_i, lenC_l, lenC_t, absC_i, intC_i, tupC_l, tupC_t, max2C_i, min2C_i, lenC_s, reprC_b, reprA_b, reprA_i, reprA_t, reprC_i, eqf_rb, eqt_rb, eqt_ri, slD_t, max3C_i, ixt0, ixt1, ixt2, ixt3, ixl0, ixl1, ixtl, ixll, truD, lenD, startC, endP, List.map_cons, List.map_nil, List.length_cons, List.length_nil, List.cons_append, List.nil_append, List.getElem?_cons_zero, List.getElem?_cons_succ, List.set_cons_zero, List.set_cons_succ, List.replicate_succ, List.replicate_zero, Nat.reduceSub, Nat.reduceAdd, Nat.reduceLT, Option.isSome_some, true_and, and_true, ne_eq, not_false_eq_true, reduceCtorEq, if_true, if_false, Bool.false_eq_true, decide_eq_true_eq, List.mem_cons, List.not_mem_nil, or_self, or_false, false_or]
  try simp -dsimp only [sSeq, sAsg, sRet, sIf, sExp, sFor_eq, sPar2, sPar3, sSetI_eq, sAug_eq, slotA_d, sSetG_eq, sRetG, sGL, sGP, sNil, sBrk, sCnt, sNo, eName_eq, slotE_d, slotE_gen, slotE_scr, slotE_own, eC, eOp, eUn, eSc, eScL, eScR, eCh, eAnd, eOr, eNot, eIf, eTup, eLst, eCB, eIx, eIxN, eSl, eSlN, eSlS, eAddN, eLenN, eApp, eExt, ePop, eCallP_eq, eCallG_eq, eIsi, eGL, eGS, eGC, eGP, aNil, aCons, wB_eq, wTru, wTruN, wAnd, wOr, wNot, wYes, gN, gT_d, gL_own, gL_d, gsC, gsN, oNone, oSome_eq, asI_i, iLst, iTpl, iRg1, iRg2, iEnm, iEnmT, iZp, iScr, eLc_eq, hasD, slotD_eq, slotK_d, slotK_own, ownD_eq, slotO_own, isOwn, scrD, putE, asDs, asD_d, asD_own, argR_d, argR_own, argR_gen, argR_scr, asL_own, asL_d, asT_d, asB_d, sub_i, iadd_i, mul_i, fdiv_i, mod_i, pow_i, lt_i, le_i, gt_i, ge_i, add_i, add_l, add_t, cat_i, cat_l, cat_t, neg_i, eqf_i, eqt_i, lenC_l, lenC_t, absC_i, intC_i, tupC_l, tupC_t, max2C_i, min2C_i, lenC_s, reprC_b, reprA_b, reprA_i, reprA_t, reprC_i, eqf_rb, eqt_rb, eqt_ri, slD_t, max3C_i, ixt0, ixt1, ixt2, ixt3, ixl0, ixl1, ixtl, ixll, truD, lenD, startC, endP, List.map_cons, List.map_nil, List.length_cons, List.length_nil, List.cons_append, List.nil_append, List.getElem?_cons_zero, List.getElem?_cons_succ, List.set_cons_zero, List.set_cons_succ, List.replicate_succ, List.replicate_zero, Nat.reduceSub, Nat.reduceAdd, Nat.reduceLT, Option.isSome_some, true_and, and_true, ne_eq, not_false_eq_true, reduceCtorEq, if_true, if_false, Bool.false_eq_true, decide_eq_true_eq, List.mem_cons, List.not_mem_nil, or_self, or_false, false_or]
  refine ⟨_, _, rfl, rfl, by omega, by omega, pow9000 (by omega) (by omega), fun b m2 hba hbb hm2 => ?_⟩
  try simp -dsimp only [sSeq, sAsg, sRet, sIf, sExp, sFor_eq, sPar2, sPar3, sSetI_eq, sAug_eq, slotA_d, sSetG_eq, sRetG, sGL, sGP, sNil, sBrk, sCnt, sNo, eName_eq, slotE_d, slotE_gen, slotE_scr, slotE_own, eC, eOp, eUn, eSc, eScL, eScR, eCh, eAnd, eOr, eNot, eIf, eTup, eLst, eCB, eIx, eIxN, eSl, eSlN, eSlS, eAddN, eLenN, eApp, eExt, ePop, eCallP_eq, eCallG_eq, eIsi, eGL, eGS, eGC, eGP, aNil, aCons, wB_eq, wTru, wTruN, wAnd, wOr, wNot, wYes, gN, gT_d, gL_own, gL_d, gsC, gsN, oNone, oSome_eq, asI_i, iLst, iTpl, iRg1, iRg2, iEnm, iEnmT, iZp, iScr, eLc_eq, hasD, slotD_eq, slotK_d, slotK_own, ownD_eq, slotO_own, isOwn, scrD, putE, asDs, asD_d, asD_own, argR_d, argR_own, argR_gen, argR_scr, asL_own, asL_d, asT_d, asB_d, sub_i, iadd_i, mul_i, fdiv_i, mod_i, pow_i, lt_i, le_i, gt_i, ge_i, add_i, add_l, add_t, cat_i, cat_l, cat_t, neg_i, eqf_i, eqt_i, lenC_l, lenC_t, absC_i, intC_i, tupC_l, tupC_t, max2C_i, min2C_i, lenC_s, reprC_b, reprA_b, reprA_i, reprA_t, reprC_i, eqf_rb, eqt_rb, eqt_ri, slD_t, max3C_i, ixt0, ixt1, ixt2, ixt3, ixl0, ixl1, ixtl, ixll, truD, lenD, startC, endP, List.map_cons, List.map_nil, List.length_cons, List.length_nil, List.cons_append, List.nil_append, List.getElem?_cons_zero, List.getElem?_cons_succ, List.set_cons_zero, List.set_cons_succ, List.replicate_succ, List.replicate_zero, Nat.reduceSub, Nat.reduceAdd, Nat.reduceLT, Option.isSome_some, true_and, and_true, ne_eq, not_false_eq_true, reduceCtorEq, if_true, if_false, Bool.false_eq_true, decide_eq_true_eq, List.mem_cons, List.not_mem_nil, or_self, or_false, false_or]
  try simp -dsimp only [sSeq, sAsg, sRet, sIf, sExp, sFor_eq, sPar2, sPar3, sSetI_eq, sAug_eq, slotA_d, sSetG_eq, sRetG, sGL, sGP, sNil, sBrk, sCnt, sNo, eName_eq, slotE_d, slotE_gen, slotE_scr, slotE_own, eC, eOp, eUn, eSc, eScL, eScR, eCh, eAnd, eOr, eNot, eIf, eTup, eLst, eCB, eIx, eIxN, eSl, eSlN, eSlS, eAddN, eLenN, eApp, eExt, ePop, eCallP_eq, eCallG_eq, eIsi, eGL, eGS, eGC, eGP, aNil, aCons, wB_eq, wTru, wTruN, wAnd, wOr, wNot, wYes, gN, gT_d, gL_own, gL_d, gsC, gsN, oNone, oSome_eq, asI_i, iLst, iTpl, iRg1, iRg2, iEnm, iEnmT, iZp, iScr, eLc_eq, hasD, slotD_eq, slotK_d, slotK_own, ownD_eq, slotO_own, isOwn, scrD, putE, asDs, asD_d, asD_own, argR_d, argR_own, argR_gen, argR_scr, asL_own, asL_d, asT_d, asB_d, sub_i, iadd_i, mul_i, fdiv_i, mod_i, pow_i, lt_i, le_i, gt_i, ge_i, add_i, add_l, add_t, cat_i, cat_l, cat_t, neg_i, eqf_i, eqt_i, lenC_l, lenC_t, absC_i, intC_i, tupC_l, tupC_t, max2C_i, min2C_i, lenC_s, reprC_b, reprA_b, reprA_i, reprA_t, reprC_i, eqf_rb, eqt_rb, eqt_ri, slD_t, max3C_i, ixt0, ixt1, ixt2, ixt3, ixl0, ixl1, ixtl, ixll, truD, lenD, startC, endP, List.map_cons, List.map_nil, List.length_cons, List.length_nil, List.cons_append, List.nil_append, List.getElem?_cons_zero, List.getElem?_cons_succ, List.set_cons_zero, List.set_cons_succ, List.replicate_succ, List.replicate_zero, Nat.reduceSub, Nat.reduceAdd, Nat.reduceLT, Option.isSome_some, true_and, and_true, ne_eq, not_false_eq_true, reduceCtorEq, if_true, if_false, Bool.false_eq_true, decide_eq_true_eq, List.mem_cons, List.not_mem_nil, or_self, or_false, false_or]
  refine ⟨1 + a, b, gr, m2, rfl, rfl, by omega, by omega, by omega, by omega, by omega, by omega, by omega, fun w m3 hwo hwr hwt hm3 => ?_⟩
  have hlt : w.ties.length ≤ 7 := by omega
  try simp -dsimp only [sSeq, sAsg, sRet, sIf, sExp, sFor_eq, sPar2, sPar3, sSetI_eq, sAug_eq, slotA_d, sSetG_eq, sRetG, sGL, sGP, sNil, sBrk, sCnt, sNo, eName_eq, slotE_d, slotE_gen, slotE_scr, slotE_own, eC, eOp, eUn, eSc, eScL, eScR, eCh, eAnd, eOr, eNot, eIf, eTup, eLst, eCB, eIx, eIxN, eSl, eSlN, eSlS, eAddN, eLenN, eApp, eExt, ePop, eCallP_eq, eCallG_eq, eIsi, eGL, eGS, eGC, eGP, aNil, aCons, wB_eq, wTru, wTruN, wAnd, wOr, wNot, wYes, gN, gT_d, gL_own, gL_d, gsC, gsN, oNone, oSome_eq, asI_i, iLst, iTpl, iRg1, iRg2, iEnm, iEnmT, iZp, iScr, eLc_eq, hasD, slotD_eq, slotK_d, slotK_own, ownD_eq, slotO_own, isOwn, scrD, putE, asDs, asD_d, asD_own, argR_d, argR_own, argR_gen, argR_scr, asL_own, asL_d, asT_d, asB_d, sub_i, iadd_i, mul_i, fdiv_i, mod_i, pow_i, lt_i, le_i, gt_i, ge_i, add_i, add_l, add_t, cat_i, cat_l, cat_t, neg_i, eqf_i, eqt_i, lenC_l, lenC_t, absC_i, intC_i, tupC_l, tupC_t, max2C_i, min2C_i, lenC_s, reprC_b, reprA_b, reprA_i, reprA_t, reprC_i, eqf_rb, eqt_rb, eqt_ri, slD_t, max3C_i, ixt0, ixt1, ixt2, ixt3, ixl0, ixl1, ixtl, ixll, truD, lenD, startC, endP, List.map_cons, List.map_nil, List.length_cons, List.length_nil, List.cons_append, List.nil_append, List.getElem?_cons_zero, List.getElem?_cons_succ, List.set_cons_zero, List.set_cons_succ, List.replicate_succ, List.replicate_zero, Nat.reduceSub, Nat.reduceAdd, Nat.reduceLT, Option.isSome_some, true_and, and_true, ne_eq, not_false_eq_true, reduceCtorEq, if_true, if_false, Bool.false_eq_true, decide_eq_true_eq, List.mem_cons, List.not_mem_nil, or_self, or_false, false_or]
  refine ⟨_, _, rfl, rfl, by omega, by omega, pow9000 (by omega) (by omega), fun c m4 hca hcb hm4 => ?_⟩
  try simp -dsimp only [sSeq, sAsg, sRet, sIf, sExp, sFor_eq, sPar2, sPar3, sSetI_eq, sAug_eq, slotA_d, sSetG_eq, sRetG, sGL, sGP, sNil, sBrk, sCnt, sNo, eName_eq, slotE_d, slotE_gen, slotE_scr, slotE_own, eC, eOp, eUn, eSc, eScL, eScR, eCh, eAnd, eOr, eNot, eIf, eTup, eLst, eCB, eIx, eIxN, eSl, eSlN, eSlS, eAddN, eLenN, eApp, eExt, ePop, eCallP_eq, eCallG_eq, eIsi, eGL, eGS, eGC, eGP, aNil, aCons, wB_eq, wTru, wTruN, wAnd, wOr, wNot, wYes, gN, gT_d, gL_own, gL_d, gsC, gsN, oNone, oSome_eq, asI_i, iLst, iTpl, iRg1, iRg2, iEnm, iEnmT, iZp, iScr, eLc_eq, hasD, slotD_eq, slotK_d, slotK_own, ownD_eq, slotO_own, isOwn, scrD, putE, asDs, asD_d, asD_own, argR_d, argR_own, argR_gen, argR_scr, asL_own, asL_d, asT_d, asB_d, sub_i, iadd_i, mul_i, fdiv_i, mod_i, pow_i, lt_i, le_i, gt_i, ge_i, add_i, add_l, add_t, cat_i, cat_l, cat_t, neg_i, eqf_i, eqt_i, lenC_l, lenC_t, absC_i, intC_i, tupC_l, tupC_t, max2C_i, min2C_i, lenC_s, reprC_b, reprA_b, reprA_i, reprA_t, reprC_i, eqf_rb, eqt_rb, eqt_ri, slD_t, max3C_i, ixt0, ixt1, ixt2, ixt3, ixl0, ixl1, ixtl, ixll, truD, lenD, startC, endP, List.map_cons, List.map_nil, List.length_cons, List.length_nil, List.cons_append, List.nil_append, List.getElem?_cons_zero, List.getElem?_cons_succ, List.set_cons_zero, List.set_cons_succ, List.replicate_succ, List.replicate_zero, Nat.reduceSub, Nat.reduceAdd, Nat.reduceLT, Option.isSome_some, true_and, and_true, ne_eq, not_false_eq_true, reduceCtorEq, if_true, if_false, Bool.false_eq_true, decide_eq_true_eq, List.mem_cons, List.not_mem_nil, or_self, or_false, false_or]
  try simp -dsimp only [sSeq, sAsg, sRet, sIf, sExp, sFor_eq, sPar2, sPar3, sSetI_eq, sAug_eq, slotA_d, sSetG_eq, sRetG, sGL, sGP, sNil, sBrk, sCnt, sNo, eName_eq, slotE_d, slotE_gen, slotE_scr, slotE_own, eC, eOp, eUn, eSc, eScL, eScR, eCh, eAnd, eOr, eNot, eIf, eTup, eLst, eCB, eIx, eIxN, eSl, eSlN, eSlS, eAddN, eLenN, eApp, eExt, ePop, eCallP_eq, eCallG_eq, eIsi, eGL, eGS, eGC, eGP, aNil, aCons, wB_eq, wTru, wTruN, wAnd, wOr, wNot, wYes, gN, gT_d, gL_own, gL_d, gsC, gsN, oNone, oSome_eq, asI_i, iLst, iTpl, iRg1, iRg2, iEnm, iEnmT, iZp, iScr, eLc_eq, hasD, slotD_eq, slotK_d, slotK_own, ownD_eq, slotO_own, isOwn, scrD, putE, asDs, asD_d, asD_own, argR_d, argR_own, argR_gen, argR_scr, asL_own, asL_d, asT_d, asB_d, sub_i, iadd_i, mul_i, fdiv_i, mod_i, pow_i, lt_i, le_i, gt_i, ge_i, add_i, add_l, add_t, cat_i, cat_l, cat_t, neg_i, eqf_i, eqt_i, lenC_l, lenC_t, absC_i, intC_i, tupC_l, tupC_t, max2C_i, min2C_i, lenC_s, reprC_b, reprA_b, reprA_i, reprA_t, reprC_i, eqf_rb, eqt_rb, eqt_ri, slD_t, max3C_i, ixt0, ixt1, ixt2, ixt3, ixl0, ixl1, ixtl, ixll, truD, lenD, startC, endP, List.map_cons, List.map_nil, List.length_cons, List.length_nil, List.cons_append, List.nil_append, List.getElem?_cons_zero, List.getElem?_cons_succ, List.set_cons_zero, List.set_cons_succ, List.replicate_succ, List.replicate_zero, Nat.reduceSub, Nat.reduceAdd, Nat.reduceLT, Option.isSome_some, true_and, and_true, ne_eq, not_false_eq_true, reduceCtorEq, if_true, if_false, Bool.false_eq_true, decide_eq_true_eq, List.mem_cons, List.not_mem_nil, or_self, or_false, false_or]
  by_cases hc : c = 0
  · simp -dsimp only [hc, beq_self_eq_true, sSeq, sAsg, sRet, sIf, sExp, sFor_eq, sPar2, sPar3, sSetI_eq, sAug_eq, slotA_d, sSetG_eq, sRetG, sGL, sGP, sNil, sBrk, sCnt, sNo, eName_eq, slotE_d, slotE_gen, slotE_scr, slotE_own, eC, eOp, eUn, eSc, eScL, eScR, eCh, eAnd, eOr, eNot, eIf, eTup, eLst, eCB, eIx, eIxN, eSl, eSlN, eSlS, eAddN, eLenN, eApp, eExt, ePop, eCallP_eq, eCallG_eq, eIsi, eGL, eGS, eGC, eGP, aNil, aCons, wB_eq, wTru, wTruN, wAnd, wOr, wNot, wYes, gN, gT_d, gL_own, gL_d, gsC, gsN, oNone, oSome_eq, asI_i, iLst, iTpl, iRg1, iRg2, iEnm, iEnmT, iZp, iScr, eLc_eq, hasD, slotD_eq, slotK_d, slotK_own, ownD_eq, slotO_own, isOwn, scrD, putE, asDs, asD_d, asD_own, argR_d, argR_own, argR_gen, argR_scr, asL_own, asL_d, asT_d, asB_d, sub_i, iadd_i, mul_i, fdiv_i, mod_i, pow_i, lt_i, le_i, gt_i, ge_i, add_i, add_l, add_t, cat_i, cat_l, cat_t, neg_i, eqf_i, eqt_i, lenC_l, lenC_t, absC_i, intC_i, tupC_l, tupC_t, max2C_i, min2C_i, lenC_s, reprC_b, reprA_b, reprA_i, reprA_t, reprC_i, eqf_rb, eqt_rb, eqt_ri, slD_t, max3C_i, ixt0, ixt1, ixt2, ixt3, ixl0, ixl1, ixtl, ixll, truD, lenD, startC, endP, List.map_cons, List.map_nil, List.length_cons, List.length_nil, List.cons_append, List.nil_append, List.getElem?_cons_zero, List.getElem?_cons_succ, List.set_cons_zero, List.set_cons_succ, List.replicate_succ, List.replicate_zero, Nat.reduceSub, Nat.reduceAdd, Nat.reduceLT, Option.isSome_some, true_and, and_true, ne_eq, not_false_eq_true, reduceCtorEq, if_true, if_false, Bool.false_eq_true, decide_eq_true_eq, List.mem_cons, List.not_mem_nil, or_self, or_false, false_or]
    simp -dsimp only [eW, sSeq, sAsg, sRet, sIf, sExp, sFor_eq, sPar2, sPar3, sSetI_eq, sAug_eq, slotA_d, sSetG_eq, sRetG, sGL, sGP, sNil, sBrk, sCnt, sNo, eName_eq, slotE_d, slotE_gen, slotE_scr, slotE_own, eC, eOp, eUn, eSc, eScL, eScR, eCh, eAnd, eOr, eNot, eIf, eTup, eLst, eCB, eIx, eIxN, eSl, eSlN, eSlS, eAddN, eLenN, eApp, eExt, ePop, eCallP_eq, eCallG_eq, eIsi, eGL, eGS, eGC, eGP, aNil, aCons, wB_eq, wTru, wTruN, wAnd, wOr, wNot, wYes, gN, gT_d, gL_own, gL_d, gsC, gsN, oNone, oSome_eq, asI_i, iLst, iTpl, iRg1, iRg2, iEnm, iEnmT, iZp, iScr, eLc_eq, hasD, slotD_eq, slotK_d, slotK_own, ownD_eq, slotO_own, isOwn, scrD, putE, asDs, asD_d, asD_own, argR_d, argR_own, argR_gen, argR_scr, asL_own, asL_d, asT_d, asB_d, sub_i, iadd_i, mul_i, fdiv_i, mod_i, pow_i, lt_i, le_i, gt_i, ge_i, add_i, add_l, add_t, cat_i, cat_l, cat_t, neg_i, eqf_i, eqt_i, lenC_l, lenC_t, absC_i, intC_i, tupC_l, tupC_t, max2C_i, min2C_i, lenC_s, reprC_b, reprA_b, reprA_i, reprA_t, reprC_i, eqf_rb, eqt_rb, eqt_ri, slD_t, max3C_i, ixt0, ixt1, ixt2, ixt3, ixl0, ixl1, ixtl, ixll, truD, lenD, startC, endP, List.map_cons, List.map_nil, List.length_cons, List.length_nil, List.cons_append, List.nil_append, List.getElem?_cons_zero, List.getElem?_cons_succ, List.set_cons_zero, List.set_cons_succ, List.replicate_succ, List.replicate_zero, Nat.reduceSub, Nat.reduceAdd, Nat.reduceLT, Option.isSome_some, true_and, and_true, ne_eq, not_false_eq_true, reduceCtorEq, if_true, if_false, Bool.false_eq_true, decide_eq_true_eq, List.mem_cons, List.not_mem_nil, or_self, or_false, false_or]
    refine ⟨by simp [nown], ?_⟩
    refine lcW_sub eT (2 ^ 40) w.ties [] m4 (fun t ht n2 R S hn2 hR hS => ?_) (by omega) (by simp; omega) fun k m5 hk1 hk2 hk3 => ?_
    · simp -dsimp only [Turn1, wipeE, sSeq, sAsg, sRet, sIf, sExp, sFor_eq, sPar2, sPar3, sSetI_eq, sAug_eq, slotA_d, sSetG_eq, sRetG, sGL, sGP, sNil, sBrk, sCnt, sNo, eName_eq, slotE_d, slotE_gen, slotE_scr, slotE_own, eC, eOp, eUn, eSc, eScL, eScR, eCh, eAnd, eOr, eNot, eIf, eTup, eLst, eCB, eIx, eIxN, eSl, eSlN, eSlS, eAddN, eLenN, eApp, eExt, ePop, eCallP_eq, eCallG_eq, eIsi, eGL, eGS, eGC, eGP, aNil, aCons, wB_eq, wTru, wTruN, wAnd, wOr, wNot, wYes, gN, gT_d, gL_own, gL_d, gsC, gsN, oNone, oSome_eq, asI_i, iLst, iTpl, iRg1, iRg2, iEnm, iEnmT, iZp, iScr, eLc_eq, hasD, slotD_eq, slotK_d, slotK_own, ownD_eq, slotO_own, isOwn, scrD, putE, asDs, asD_d, asD_own, argR_d, argR_own, argR_gen, argR_scr, asL_own, asL_d, asT_d, asB_d, sub_i, iadd_i, mul_i, fdiv_i, mod_i, pow_i, lt_i, le_i, gt_i, ge_i, add_i, add_l, add_t, cat_i, cat_l, cat_t, neg_i, eqf_i, eqt_i, lenC_l, lenC_t, absC_i, intC_i, tupC_l, tupC_t, max2C_i, min2C_i, lenC_s, reprC_b, reprA_b, reprA_i, reprA_t, reprC_i, eqf_rb, eqt_rb, eqt_ri, slD_t, max3C_i, ixt0, ixt1, ixt2, ixt3, ixl0, ixl1, ixtl, ixll, truD, lenD, startC, endP, List.map_cons, List.map_nil, List.length_cons, List.length_nil, List.cons_append, List.nil_append, List.getElem?_cons_zero, List.getElem?_cons_succ, List.set_cons_zero, List.set_cons_succ, List.replicate_succ, List.replicate_zero, Nat.reduceSub, Nat.reduceAdd, Nat.reduceLT, Option.isSome_some, true_and, and_true, ne_eq, not_false_eq_true, reduceCtorEq, if_true, if_false, Bool.false_eq_true, decide_eq_true_eq, List.mem_cons, List.not_mem_nil, or_self, or_false, false_or]
      refine ⟨_, _, rfl, rfl, by omega, by omega, pow9000 (by omega) (by omega), fun d m5 hd0 hd1 hm5 => ?_⟩
      try simp -dsimp only [sSeq, sAsg, sRet, sIf, sExp, sFor_eq, sPar2, sPar3, sSetI_eq, sAug_eq, slotA_d, sSetG_eq, sRetG, sGL, sGP, sNil, sBrk, sCnt, sNo, eName_eq, slotE_d, slotE_gen, slotE_scr, slotE_own, eC, eOp, eUn, eSc, eScL, eScR, eCh, eAnd, eOr, eNot, eIf, eTup, eLst, eCB, eIx, eIxN, eSl, eSlN, eSlS, eAddN, eLenN, eApp, eExt, ePop, eCallP_eq, eCallG_eq, eIsi, eGL, eGS, eGC, eGP, aNil, aCons, wB_eq, wTru, wTruN, wAnd, wOr, wNot, wYes, gN, gT_d, gL_own, gL_d, gsC, gsN, oNone, oSome_eq, asI_i, iLst, iTpl, iRg1, iRg2, iEnm, iEnmT, iZp, iScr, eLc_eq, hasD, slotD_eq, slotK_d, slotK_own, ownD_eq, slotO_own, isOwn, scrD, putE, asDs, asD_d, asD_own, argR_d, argR_own, argR_gen, argR_scr, asL_own, asL_d, asT_d, asB_d, sub_i, iadd_i, mul_i, fdiv_i, mod_i, pow_i, lt_i, le_i, gt_i, ge_i, add_i, add_l, add_t, cat_i, cat_l, cat_t, neg_i, eqf_i, eqt_i, lenC_l, lenC_t, absC_i, intC_i, tupC_l, tupC_t, max2C_i, min2C_i, lenC_s, reprC_b, reprA_b, reprA_i, reprA_t, reprC_i, eqf_rb, eqt_rb, eqt_ri, slD_t, max3C_i, ixt0, ixt1, ixt2, ixt3, ixl0, ixl1, ixtl, ixll, truD, lenD, startC, endP, List.map_cons, List.map_nil, List.length_cons, List.length_nil, List.cons_append, List.nil_append, List.getElem?_cons_zero, List.getElem?_cons_succ, List.set_cons_zero, List.set_cons_succ, List.replicate_succ, List.replicate_zero, Nat.reduceSub, Nat.reduceAdd, Nat.reduceLT, Option.isSome_some, true_and, and_true, ne_eq, not_false_eq_true, reduceCtorEq, if_true, if_false, Bool.false_eq_true, decide_eq_true_eq, List.mem_cons, List.not_mem_nil, or_self, or_false, false_or]
      by_cases hd : 0 < d
      · simp -dsimp only [hd, sSeq, sAsg, sRet, sIf, sExp, sFor_eq, sPar2, sPar3, sSetI_eq, sAug_eq, slotA_d, sSetG_eq, sRetG, sGL, sGP, sNil, sBrk, sCnt, sNo, eName_eq, slotE_d, slotE_gen, slotE_scr, slotE_own, eC, eOp, eUn, eSc, eScL, eScR, eCh, eAnd, eOr, eNot, eIf, eTup, eLst, eCB, eIx, eIxN, eSl, eSlN, eSlS, eAddN, eLenN, eApp, eExt, ePop, eCallP_eq, eCallG_eq, eIsi, eGL, eGS, eGC, eGP, aNil, aCons, wB_eq, wTru, wTruN, wAnd, wOr, wNot, wYes, gN, gT_d, gL_own, gL_d, gsC, gsN, oNone, oSome_eq, asI_i, iLst, iTpl, iRg1, iRg2, iEnm, iEnmT, iZp, iScr, eLc_eq, hasD, slotD_eq, slotK_d, slotK_own, ownD_eq, slotO_own, isOwn, scrD, putE, asDs, asD_d, asD_own, argR_d, argR_own, argR_gen, argR_scr, asL_own, asL_d, asT_d, asB_d, sub_i, iadd_i, mul_i, fdiv_i, mod_i, pow_i, lt_i, le_i, gt_i, ge_i, add_i, add_l, add_t, cat_i, cat_l, cat_t, neg_i, eqf_i, eqt_i, lenC_l, lenC_t, absC_i, intC_i, tupC_l, tupC_t, max2C_i, min2C_i, lenC_s, reprC_b, reprA_b, reprA_i, reprA_t, reprC_i, eqf_rb, eqt_rb, eqt_ri, slD_t, max3C_i, ixt0, ixt1, ixt2, ixt3, ixl0, ixl1, ixtl, ixll, truD, lenD, startC, endP, List.map_cons, List.map_nil, List.length_cons, List.length_nil, List.cons_append, List.nil_append, List.getElem?_cons_zero, List.getElem?_cons_succ, List.set_cons_zero, List.set_cons_succ, List.replicate_succ, List.replicate_zero, Nat.reduceSub, Nat.reduceAdd, Nat.reduceLT, Option.isSome_some, true_and, and_true, ne_eq, not_false_eq_true, reduceCtorEq, if_true, if_false, Bool.false_eq_true, decide_eq_true_eq, List.mem_cons, List.not_mem_nil, or_self, or_false, false_or]
        exact hR m5 (by omega)
      · simp -dsimp only [hd, sSeq, sAsg, sRet, sIf, sExp, sFor_eq, sPar2, sPar3, sSetI_eq, sAug_eq, slotA_d, sSetG_eq, sRetG, sGL, sGP, sNil, sBrk, sCnt, sNo, eName_eq, slotE_d, slotE_gen, slotE_scr, slotE_own, eC, eOp, eUn, eSc, eScL, eScR, eCh, eAnd, eOr, eNot, eIf, eTup, eLst, eCB, eIx, eIxN, eSl, eSlN, eSlS, eAddN, eLenN, eApp, eExt, ePop, eCallP_eq, eCallG_eq, eIsi, eGL, eGS, eGC, eGP, aNil, aCons, wB_eq, wTru, wTruN, wAnd, wOr, wNot, wYes, gN, gT_d, gL_own, gL_d, gsC, gsN, oNone, oSome_eq, asI_i, iLst, iTpl, iRg1, iRg2, iEnm, iEnmT, iZp, iScr, eLc_eq, hasD, slotD_eq, slotK_d, slotK_own, ownD_eq, slotO_own, isOwn, scrD, putE, asDs, asD_d, asD_own, argR_d, argR_own, argR_gen, argR_scr, asL_own, asL_d, asT_d, asB_d, sub_i, iadd_i, mul_i, fdiv_i, mod_i, pow_i, lt_i, le_i, gt_i, ge_i, add_i, add_l, add_t, cat_i, cat_l, cat_t, neg_i, eqf_i, eqt_i, lenC_l, lenC_t, absC_i, intC_i, tupC_l, tupC_t, max2C_i, min2C_i, lenC_s, reprC_b, reprA_b, reprA_i, reprA_t, reprC_i, eqf_rb, eqt_rb, eqt_ri, slD_t, max3C_i, ixt0, ixt1, ixt2, ixt3, ixl0, ixl1, ixtl, ixll, truD, lenD, startC, endP, List.map_cons, List.map_nil, List.length_cons, List.length_nil, List.cons_append, List.nil_append, List.getElem?_cons_zero, List.getElem?_cons_succ, List.set_cons_zero, List.set_cons_succ, List.replicate_succ, List.replicate_zero, Nat.reduceSub, Nat.reduceAdd, Nat.reduceLT, Option.isSome_some, true_and, and_true, ne_eq, not_false_eq_true, reduceCtorEq, if_true, if_false, Bool.false_eq_true, decide_eq_true_eq, List.mem_cons, List.not_mem_nil, or_self, or_false, false_or]
        exact hS m5 (by omega)
    · simp -dsimp only [sSeq, sAsg, sRet, sIf, sExp, sFor_eq, sPar2, sPar3, sSetI_eq, sAug_eq, slotA_d, sSetG_eq, sRetG, sGL, sGP, sNil, sBrk, sCnt, sNo, eName_eq, slotE_d, slotE_gen, slotE_scr, slotE_own, eC, eOp, eUn, eSc, eScL, eScR, eCh, eAnd, eOr, eNot, eIf, eTup, eLst, eCB, eIx, eIxN, eSl, eSlN, eSlS, eAddN, eLenN, eApp, eExt, ePop, eCallP_eq, eCallG_eq, eIsi, eGL, eGS, eGC, eGP, aNil, aCons, wB_eq, wTru, wTruN, wAnd, wOr, wNot, wYes, gN, gT_d, gL_own, gL_d, gsC, gsN, oNone, oSome_eq, asI_i, iLst, iTpl, iRg1, iRg2, iEnm, iEnmT, iZp, iScr, eLc_eq, hasD, slotD_eq, slotK_d, slotK_own, ownD_eq, slotO_own, isOwn, scrD, putE, asDs, asD_d, asD_own, argR_d, argR_own, argR_gen, argR_scr, asL_own, asL_d, asT_d, asB_d, sub_i, iadd_i, mul_i, fdiv_i, mod_i, pow_i, lt_i, le_i, gt_i, ge_i, add_i, add_l, add_t, cat_i, cat_l, cat_t, neg_i, eqf_i, eqt_i, lenC_l, lenC_t, absC_i, intC_i, tupC_l, tupC_t, max2C_i, min2C_i, lenC_s, reprC_b, reprA_b, reprA_i, reprA_t, reprC_i, eqf_rb, eqt_rb, eqt_ri, slD_t, max3C_i, ixt0, ixt1, ixt2, ixt3, ixl0, ixl1, ixtl, ixll, truD, lenD, startC, endP, List.map_cons, List.map_nil, List.length_cons, List.length_nil, List.cons_append, List.nil_append, List.getElem?_cons_zero, List.getElem?_cons_succ, List.set_cons_zero, List.set_cons_succ, List.replicate_succ, List.replicate_zero, Nat.reduceSub, Nat.reduceAdd, Nat.reduceLT, Option.isSome_some, true_and, and_true, ne_eq, not_false_eq_true, reduceCtorEq, if_true, if_false, Bool.false_eq_true, decide_eq_true_eq, List.mem_cons, List.not_mem_nil, or_self, or_false, false_or]
      exact ⟨by decide, hQ ⟨1 + a, k⟩ m5 ⟨by show 1 ≤ 1 + a; omega, fun t ht => by
        have := hwo.tie t (hk1 t ht)
        rw [hwr] at this
        exact this⟩ (by show 1 + a ≤ 5; omega) (by show k.length ≤ 7; omega) (by omega)⟩
  · have hb : (c == 0) = false := by simpa using hc
    simp -dsimp only [hb, sSeq, sAsg, sRet, sIf, sExp, sFor_eq, sPar2, sPar3, sSetI_eq, sAug_eq, slotA_d, sSetG_eq, sRetG, sGL, sGP, sNil, sBrk, sCnt, sNo, eName_eq, slotE_d, slotE_gen, slotE_scr, slotE_own, eC, eOp, eUn, eSc, eScL, eScR, eCh, eAnd, eOr, eNot, eIf, eTup, eLst, eCB, eIx, eIxN, eSl, eSlN, eSlS, eAddN, eLenN, eApp, eExt, ePop, eCallP_eq, eCallG_eq, eIsi, eGL, eGS, eGC, eGP, aNil, aCons, wB_eq, wTru, wTruN, wAnd, wOr, wNot, wYes, gN, gT_d, gL_own, gL_d, gsC, gsN, oNone, oSome_eq, asI_i, iLst, iTpl, iRg1, iRg2, iEnm, iEnmT, iZp, iScr, eLc_eq, hasD, slotD_eq, slotK_d, slotK_own, ownD_eq, slotO_own, isOwn, scrD, putE, asDs, asD_d, asD_own, argR_d, argR_own, argR_gen, argR_scr, asL_own, asL_d, asT_d, asB_d, sub_i, iadd_i, mul_i, fdiv_i, mod_i, pow_i, lt_i, le_i, gt_i, ge_i, add_i, add_l, add_t, cat_i, cat_l, cat_t, neg_i, eqf_i, eqt_i, lenC_l, lenC_t, absC_i, intC_i, tupC_l, tupC_t, max2C_i, min2C_i, lenC_s, reprC_b, reprA_b, reprA_i, reprA_t, reprC_i, eqf_rb, eqt_rb, eqt_ri, slD_t, max3C_i, ixt0, ixt1, ixt2, ixt3, ixl0, ixl1, ixtl, ixll, truD, lenD, startC, endP, List.map_cons, List.map_nil, List.length_cons, List.length_nil, List.cons_append, List.nil_append, List.getElem?_cons_zero, List.getElem?_cons_succ, List.set_cons_zero, List.set_cons_succ, List.replicate_succ, List.replicate_zero, Nat.reduceSub, Nat.reduceAdd, Nat.reduceLT, Option.isSome_some, true_and, and_true, ne_eq, not_false_eq_true, reduceCtorEq, if_true, if_false, Bool.false_eq_true, decide_eq_true_eq, List.mem_cons, List.not_mem_nil, or_self, or_false, false_or]
    exact hQ w m4 hwo (by omega) hlt (by omega)
theorem eqt_repr {xs : List Px} {P : Rv → Prop} (h : Sho 40 1000000 (.tuple xs)) : eqD true (.str (PyData.shown (.tuple xs))) (.str (PyData.shown (.tuple xs))) P = P (.d (.bool false)) := eqt_sh h
theorem sho_ints {l : List Int} {n : Nat} (hl : l.length ≤ n) (h : ∀ x ∈ l, x.natAbs < 1900) : Sho 1 (n * 1921 + 2 * n + 3) (tupI l) :=
  Sho.tup (e := 0) (b := 1921) (fun x hx => by
    obtain ⟨i, hi, rfl⟩ := List.mem_map.mp hx
    exact Sho.int (Nat.lt_of_le_of_lt (Nat.log2_le_self _) (by have := h i hi; omega))) (by simpa using hl)
theorem tieB_ok {w : Web} {gr : Int} (wo : WebOk w gr) (hg : gr ≤ 1000) {t : Tie} (ht : t ∈ w.ties) : tieB w.rooms (eT t) = true := by
  have k := wo.tie t ht
  have := k.v0
  have := k.v1
  have := k.w0
  have := k.w1
  have := k.p1
  have := k.q1
  have hp := k.p0
  have hq := k.q0
  have e1 : inR 0 (w.rooms - 1) (.int t.v) = true := by
    simp only [inR, Bool.and_eq_true, decide_eq_true_eq]; omega
  have e2 : inR 0 (w.rooms - 1) (.int t.w) = true := by
    simp only [inR, Bool.and_eq_true, decide_eq_true_eq]; omega
  have e3 : endB (.int t.p) = true := by
    simp only [endB, Bool.and_eq_true, decide_eq_true_eq, Bool.not_eq_true', beq_eq_false_iff_ne]
    exact ⟨⟨by omega, by omega⟩, hp⟩
  have e4 : endB (.int t.q) = true := by
    simp only [endB, Bool.and_eq_true, decide_eq_true_eq, Bool.not_eq_true', beq_eq_false_iff_ne]
    exact ⟨⟨by omega, by omega⟩, hq⟩
  simp [eT, tieB, e1, e2, e3, e4]
theorem webB_ok {w : Web} {gr : Int} (wo : WebOk w gr) (hg : gr ≤ 1000) (h5 : w.rooms ≤ 5) (h7 : w.ties.length ≤ 7) : webB (eW w) = true := by
  have := wo.r0
  have e1 : inR 1 5 (.int w.rooms) = true := by
    simp only [inR, Bool.and_eq_true, decide_eq_true_eq]; omega
  have e2 : decide (((w.ties.map eT).length : Int) ≤ 7) = true := by
    rw [List.length_map, decide_eq_true_eq]; omega
  have e3 : (w.ties.map eT).all (tieB w.rooms) = true := by
    rw [List.all_map, List.all_eq_true]
    exact fun t ht => tieB_ok wo hg ht
  simp only [webB, eW, e1, e2, e3, Bool.true_and]
theorem nice_ints (l : List Int) : Nice (.tuple (l.map .int)) := .tup fun x hx => by
  obtain ⟨i, _, rfl⟩ := List.mem_map.mp hx
  exact .int i
theorem nice_eT (t : Tie) : Nice (eT t) := nice_ints [t.v, t.w, t.p, t.q]
theorem nice_eW (w : Web) : Nice (eW w) := .tup fun x hx => by
  simp only [List.mem_cons, List.not_mem_nil, or_false] at hx
  rcases hx with rfl | rfl
  · exact .int _
  · exact .tup fun y hy => by
      obtain ⟨t, _, rfl⟩ := List.mem_map.mp hy
      exact nice_eT t
theorem piece_small {w : Web} {gr r : Int} {l : List Int} (wo : WebOk w gr) (h5 : w.rooms ≤ 5) (h0 : 0 ≤ r) (h1 : r < w.rooms) (h : IsPiece w.ties r l) : l.length ≤ 5 ∧ ∀ x ∈ l, x.natAbs < 1900 := by
  have rg : ∀ x ∈ l, 0 ≤ x ∧ x < w.rooms := fun x hx => ((h.mem x).mp hx).range wo ⟨h0, h1⟩
  refine ⟨nodup_len 5 l (h.asc.imp fun {a b} q => by omega) fun x hx => ?_, fun x hx => ?_⟩
  · have := rg x hx
    omega
  · have := rg x hx
    omega
theorem sho_piece {w : Web} {gr r : Int} {l : List Int} (wo : WebOk w gr) (h5 : w.rooms ≤ 5) (h0 : 0 ≤ r) (h1 : r < w.rooms) (h : IsPiece w.ties r l) : Sho 1 10000 (tupI l) :=
  (sho_ints (piece_small wo h5 h0 h1 h).1 (piece_small wo h5 h0 h1 h).2).mono (Nat.le_refl _) (by decide)
theorem pieces_len {w : Web} {gr : Int} {L : List (List Int)} (wo : WebOk w gr) (h5 : w.rooms ≤ 5) (h : PiecesOk w L) : L.length ≤ 5 := by
  have := nodup_len 5 (L.map hd0) (List.pairwise_map.mpr (h.asc.imp fun {a b} q => by omega)) fun x hx => by
    obtain ⟨l, hl, rfl⟩ := List.mem_map.mp hx
    obtain ⟨r, h0, h1, hp⟩ := (h.mem l).mp hl
    have := ((hp.mem _).mp hp.hd.1).range wo ⟨h0, h1⟩
    omega
  simpa using this
theorem sho_pieces {w : Web} {gr : Int} {L : List (List Int)} (wo : WebOk w gr) (h5 : w.rooms ≤ 5) (h : PiecesOk w L) : Sho 40 1000000 (.tuple (L.map tupI)) := by
  refine (Sho.tup (e := 1) (b := 10000) (n := 5) (fun x hx => ?_) ?_).mono (by decide) (by decide)
  · obtain ⟨l, hl, rfl⟩ := List.mem_map.mp hx
    obtain ⟨r, h0, h1, hp⟩ := (h.mem l).mp hl
    exact sho_piece wo h5 h0 h1 hp
  · rw [List.length_map]
    exact pieces_len wo h5 h
open Classical in
theorem piece_ex {w : Web} {gr r : Int} (wo : WebOk w gr) (h0 : 0 ≤ r) (h1 : r < w.rooms) : ∃ l, IsPiece w.ties r l := by
  refine ⟨((List.range w.rooms.toNat).map fun i : Nat => (i : Int)).filter fun x => decide (Conn w.ties r x), ?_, fun x => ?_⟩
  · refine List.Pairwise.filter _ (List.pairwise_map.mpr (List.pairwise_lt_range.imp fun {a b} q => by omega))
  · rw [List.mem_filter, decide_eq_true_eq]
    refine ⟨fun q => q.2, fun q => ⟨?_, q⟩⟩
    have := q.range wo ⟨h0, h1⟩
    exact List.mem_map.mpr ⟨x.toNat, List.mem_range.mpr (by omega), by omega⟩
theorem sho_outs {w : Web} {r : Int} (h7 : w.ties.length ≤ 7) : Sho 40 1000000 (.tuple ((outs w r).map eC2)) := by
  refine (Sho.tup (e := 1) (b := 10000) (n := 14) (fun x hx => ?_) ?_).mono (by decide) (by decide)
  · obtain ⟨⟨t, s⟩, hc, rfl⟩ := List.mem_map.mp hx
    obtain ⟨⟨⟨y, i, hi, hy⟩, hs⟩, _⟩ := outs_ok hc
    have := (List.getElem?_eq_some_iff.mp hy).1
    exact (sho_ints (l := [t, s]) (n := 2) (by simp) fun x hx => by
      simp only [List.mem_cons, List.not_mem_nil, or_false] at hx
      rcases hx with rfl | rfl <;> omega).mono (Nat.le_refl _) (by decide)
  · rw [List.length_map]
    have := outs_len w r
    omega
theorem sho_tie {w : Web} {gr : Int} {t : Tie} (k : TieOk w.rooms gr t) (hg : gr ≤ 1000) (h5 : w.rooms ≤ 5) : Sho 40 1000000 (eT t) := by
  have := k.v0
  have := k.v1
  have := k.w0
  have := k.w1
  have := k.p1
  have := k.q1
  exact (sho_ints (l := [t.v, t.w, t.p, t.q]) (n := 4) (by simp) fun x hx => by
    simp only [List.mem_cons, List.not_mem_nil, or_false] at hx
    rcases hx with rfl | rfl | rfl | rfl <;> omega).mono (by decide) (by decide)
abbrev C_law_right : Cn := fun rs g Q => ∃ (n : Nat), rs = [.gen] ∧ g = some n ∧ n + 1000 ≤ 2 ^ 40 ∧ ∀ m : Nat, m ≤ n + 1000 → Q (.d (.bool true)) (some m)
def w_law_right : WS :=
  (sSeq (sAsg (eCallG C_law_drawn (aCons (eName 0) (aCons (eCallG C_law_of (aCons (eName 0) (aCons (eLst (aCons (eC (.int 3)) (aCons (eC (.int 9)) (aCons (eC (.int 1000)) aNil)))) aNil))) aNil))) (gN 1))
  (sSeq (sAsg (eCallP C_law_pieces (aCons (eName 1) aNil)) (gN 2))
  (sSeq (sIf (wOr (wB (eSc (eqD true) (eCB reprA (aCons (eCallP Cis_web (aCons (eName 1) aNil)) aNil)) (eCB reprA (aCons (eC (.bool true)) aNil)))) (wB (eSc (eqD true) (eCB reprA (aCons (eCallP Cpieces_of (aCons (eName 1) aNil)) aNil)) (eCB reprA (aCons (eCB tupC (aCons (eName 2) aNil)) aNil))))) (sRet (eC (.bool false))) sNil)
  (sSeq (sFor (iRg1 (aCons (eIxN 1 (eC (.int 0))) aNil)) (gN 3)
  (sSeq (sAsg (eIx (eLc (iLst (eName 2)) (gN 7) (wB (eScR 7 (inD false) (eName 3))) (eName 7) [7]) (eC (.int 0))) (gN 4))
  (sIf (wOr (wB (eSc (eqD true) (eCB reprA (aCons (eCallP Cpiece_of (aCons (eName 1) (aCons (eName 3) aNil))) aNil)) (eCB reprA (aCons (eName 4) aNil)))) (wB (eSc (eqD true) (eCB reprA (aCons (eCallP Cways_out (aCons (eName 1) (aCons (eName 3) aNil))) aNil)) (eCB reprA (aCons (eCB tupC (aCons (eCallP C_law_out (aCons (eName 1) (aCons (eName 3) aNil))) aNil)) aNil))))) (sRet (eC (.bool false))) sNil)))
  (sSeq (sFor (iRg1 (aCons (eCB lenC (aCons (eIxN 1 (eC (.int 1))) aNil)) aNil)) (gN 5)
  (sFor (iTpl (eTup (aCons (eC (.int 1)) (aCons (eUn negD (eC (.int 1))) aNil)))) (gN 6)
  (sIf (wB (eSc (eqD true) (eCB reprA (aCons (eCallP Cends_of (aCons (eName 1) (aCons (eName 5) (aCons (eName 6) aNil)))) aNil)) (eCB reprA (aCons (eCallP C_law_ends (aCons (eName 1) (aCons (eName 5) (aCons (eName 6) aNil)))) aNil)))) (sRet (eC (.bool false))) sNil)))
  (sRet (eC (.bool true))))))))
theorem len_law_right (rs : List Rv) (g : Option Nat) (Q : Rv → Option Nat → Prop) (h : C_law_right rs g Q) : rs.length = 1 := by
  obtain ⟨_, rfl, _⟩ := h
  rfl
theorem spec_law_right (rs : List Rv) (g : Option Nat) (Q : Rv → Option Nat → Prop) (h : C_law_right rs g Q) : w_law_right (startC 8 rs g) (endP Q) fun _ _ => False := by
  obtain ⟨n, rfl, rfl, hn, hQ⟩ := h
  simp only [w_law_right]
  simp -dsimp only [C_law_draw, C_law_of, C_law_drawn, C_law_pieces, Cis_web, Cpieces_of, Cpiece_of, Cways_out, C_law_out, Cends_of, C_law_ends, sSeq, sAsg, sRet, sIf, sExp, sFor_eq, sPar2, sPar3, sSetI_eq, sAug_eq, slotA_d, sSetG_eq, sRetG, sGL, sGP, sNil, sBrk, sCnt, sNo, eName_eq, slotE_d, slotE_gen, slotE_scr, slotE_own, eC, eOp, eUn, eSc, eScL, eScR, eCh, eAnd, eOr, eNot, eIf, eTup, eLst, eCB, eIx, eIxN, eSl, eSlN, eSlS, eAddN, eLenN, eApp, eExt, ePop, eCallP_eq, eCallG_eq, eIsi, eGL, eGS, eGC, eGP, aNil, aCons, wB_eq, wTru, wTruN, wAnd, wOr, wNot, wYes, gN, gT_d, gL_own, gL_d, gsC, gsN, oNone, oSome_eq, asI_i, iLst, iTpl, iRg1, iRg2, iEnm, iEnmT, iZp, iScr, eLc_eq, hasD, slotD_eq, slotK_d, slotK_own, ownD_eq, slotO_own, isOwn, scrD, putE, asDs, asD_d, asD_own, argR_d, argR_own, argR_gen, argR_scr, asL_own, asL_d, asT_d, asB_d, sub_i, iadd_i, mul_i, fdiv_i, mod_i, pow_i, lt_i, le_i, gt_i, ge_i, add_i, add_l, add_t, cat_i, cat_l, cat_t, neg_i, eqf_i, eqt_i, lenC_l, lenC_t, absC_i, intC_i, tupC_l, tupC_t, max2C_i, min2C_i, lenC_s, reprC_b, reprA_b, reprA_i, reprA_t, reprC_i, eqf_rb, eqt_rb, eqt_ri, slD_t, max3C_i, ixt0, ixt1, ixt2, ixt3, ixl0, ixl1, ixtl, ixll, truD, lenD, startC, endP, List.map_cons, List.map_nil, List.length_cons, List.length_nil, List.cons_append, List.nil_append, List.getElem?_cons_zero, List.getElem?_cons_succ, List.set_cons_zero, List.set_cons_succ, List.replicate_succ, List.replicate_zero, Nat.reduceSub, Nat.reduceAdd, Nat.reduceLT, Option.isSome_some, true_and, and_true, ne_eq, not_false_eq_true, reduceCtorEq, if_true, if_false, Bool.false_eq_true, decide_eq_true_eq, List.mem_cons, List.not_mem_nil, or_self, or_false, false_or]
  refine ⟨by decide, _, n, rfl, rfl, by omega, by simp, by simp, fun sx hsx m1 hm1 => ?_⟩
  have hs : ∃ s : Int, sx = .int s ∧ 0 < s ∧ s ≤ 1000 := by
    simp only [List.mem_cons, List.not_mem_nil, or_false] at hsx
    rcases hsx with h | h | h
    · exact ⟨3, h, by decide, by decide⟩
    · exact ⟨9, h, by decide, by decide⟩
    · exact ⟨1000, h, by decide, by decide⟩
  obtain ⟨gr, rfl, hg1, hg2⟩ := hs
  try simp -dsimp only [sSeq, sAsg, sRet, sIf, sExp, sFor_eq, sPar2, sPar3, sSetI_eq, sAug_eq, slotA_d, sSetG_eq, sRetG, sGL, sGP, sNil, sBrk, sCnt, sNo, eName_eq, slotE_d, slotE_gen, slotE_scr, slotE_own, eC, eOp, eUn, eSc, eScL, eScR, eCh, eAnd, eOr, eNot, eIf, eTup, eLst, eCB, eIx, eIxN, eSl, eSlN, eSlS, eAddN, eLenN, eApp, eExt, ePop, eCallP_eq, eCallG_eq, eIsi, eGL, eGS, eGC, eGP, aNil, aCons, wB_eq, wTru, wTruN, wAnd, wOr, wNot, wYes, gN, gT_d, gL_own, gL_d, gsC, gsN, oNone, oSome_eq, asI_i, iLst, iTpl, iRg1, iRg2, iEnm, iEnmT, iZp, iScr, eLc_eq, hasD, slotD_eq, slotK_d, slotK_own, ownD_eq, slotO_own, isOwn, scrD, putE, asDs, asD_d, asD_own, argR_d, argR_own, argR_gen, argR_scr, asL_own, asL_d, asT_d, asB_d, sub_i, iadd_i, mul_i, fdiv_i, mod_i, pow_i, lt_i, le_i, gt_i, ge_i, add_i, add_l, add_t, cat_i, cat_l, cat_t, neg_i, eqf_i, eqt_i, lenC_l, lenC_t, absC_i, intC_i, tupC_l, tupC_t, max2C_i, min2C_i, lenC_s, reprC_b, reprA_b, reprA_i, reprA_t, reprC_i, eqf_rb, eqt_rb, eqt_ri, slD_t, max3C_i, ixt0, ixt1, ixt2, ixt3, ixl0, ixl1, ixtl, ixll, truD, lenD, startC, endP, List.map_cons, List.map_nil, List.length_cons, List.length_nil, List.cons_append, List.nil_append, List.getElem?_cons_zero, List.getElem?_cons_succ, List.set_cons_zero, List.set_cons_succ, List.replicate_succ, List.replicate_zero, Nat.reduceSub, Nat.reduceAdd, Nat.reduceLT, Option.isSome_some, true_and, and_true, ne_eq, not_false_eq_true, reduceCtorEq, if_true, if_false, Bool.false_eq_true, decide_eq_true_eq, List.mem_cons, List.not_mem_nil, or_self, or_false, false_or]
  refine ⟨gr, m1, rfl, rfl, by omega, hg1, by omega, fun w m2 hwo hw5 hw7 hm2 => ?_⟩
  try simp -dsimp only [sSeq, sAsg, sRet, sIf, sExp, sFor_eq, sPar2, sPar3, sSetI_eq, sAug_eq, slotA_d, sSetG_eq, sRetG, sGL, sGP, sNil, sBrk, sCnt, sNo, eName_eq, slotE_d, slotE_gen, slotE_scr, slotE_own, eC, eOp, eUn, eSc, eScL, eScR, eCh, eAnd, eOr, eNot, eIf, eTup, eLst, eCB, eIx, eIxN, eSl, eSlN, eSlS, eAddN, eLenN, eApp, eExt, ePop, eCallP_eq, eCallG_eq, eIsi, eGL, eGS, eGC, eGP, aNil, aCons, wB_eq, wTru, wTruN, wAnd, wOr, wNot, wYes, gN, gT_d, gL_own, gL_d, gsC, gsN, oNone, oSome_eq, asI_i, iLst, iTpl, iRg1, iRg2, iEnm, iEnmT, iZp, iScr, eLc_eq, hasD, slotD_eq, slotK_d, slotK_own, ownD_eq, slotO_own, isOwn, scrD, putE, asDs, asD_d, asD_own, argR_d, argR_own, argR_gen, argR_scr, asL_own, asL_d, asT_d, asB_d, sub_i, iadd_i, mul_i, fdiv_i, mod_i, pow_i, lt_i, le_i, gt_i, ge_i, add_i, add_l, add_t, cat_i, cat_l, cat_t, neg_i, eqf_i, eqt_i, lenC_l, lenC_t, absC_i, intC_i, tupC_l, tupC_t, max2C_i, min2C_i, lenC_s, reprC_b, reprA_b, reprA_i, reprA_t, reprC_i, eqf_rb, eqt_rb, eqt_ri, slD_t, max3C_i, ixt0, ixt1, ixt2, ixt3, ixl0, ixl1, ixtl, ixll, truD, lenD, startC, endP, List.map_cons, List.map_nil, List.length_cons, List.length_nil, List.cons_append, List.nil_append, List.getElem?_cons_zero, List.getElem?_cons_succ, List.set_cons_zero, List.set_cons_succ, List.replicate_succ, List.replicate_zero, Nat.reduceSub, Nat.reduceAdd, Nat.reduceLT, Option.isSome_some, true_and, and_true, ne_eq, not_false_eq_true, reduceCtorEq, if_true, if_false, Bool.false_eq_true, decide_eq_true_eq, List.mem_cons, List.not_mem_nil, or_self, or_false, false_or]
  refine ⟨w, gr, rfl, ⟨hwo, by omega, by omega⟩, fun L hL => ?_⟩
  try simp -dsimp only [sSeq, sAsg, sRet, sIf, sExp, sFor_eq, sPar2, sPar3, sSetI_eq, sAug_eq, slotA_d, sSetG_eq, sRetG, sGL, sGP, sNil, sBrk, sCnt, sNo, eName_eq, slotE_d, slotE_gen, slotE_scr, slotE_own, eC, eOp, eUn, eSc, eScL, eScR, eCh, eAnd, eOr, eNot, eIf, eTup, eLst, eCB, eIx, eIxN, eSl, eSlN, eSlS, eAddN, eLenN, eApp, eExt, ePop, eCallP_eq, eCallG_eq, eIsi, eGL, eGS, eGC, eGP, aNil, aCons, wB_eq, wTru, wTruN, wAnd, wOr, wNot, wYes, gN, gT_d, gL_own, gL_d, gsC, gsN, oNone, oSome_eq, asI_i, iLst, iTpl, iRg1, iRg2, iEnm, iEnmT, iZp, iScr, eLc_eq, hasD, slotD_eq, slotK_d, slotK_own, ownD_eq, slotO_own, isOwn, scrD, putE, asDs, asD_d, asD_own, argR_d, argR_own, argR_gen, argR_scr, asL_own, asL_d, asT_d, asB_d, sub_i, iadd_i, mul_i, fdiv_i, mod_i, pow_i, lt_i, le_i, gt_i, ge_i, add_i, add_l, add_t, cat_i, cat_l, cat_t, neg_i, eqf_i, eqt_i, lenC_l, lenC_t, absC_i, intC_i, tupC_l, tupC_t, max2C_i, min2C_i, lenC_s, reprC_b, reprA_b, reprA_i, reprA_t, reprC_i, eqf_rb, eqt_rb, eqt_ri, slD_t, max3C_i, ixt0, ixt1, ixt2, ixt3, ixl0, ixl1, ixtl, ixll, truD, lenD, startC, endP, List.map_cons, List.map_nil, List.length_cons, List.length_nil, List.cons_append, List.nil_append, List.getElem?_cons_zero, List.getElem?_cons_succ, List.set_cons_zero, List.set_cons_succ, List.replicate_succ, List.replicate_zero, Nat.reduceSub, Nat.reduceAdd, Nat.reduceLT, Option.isSome_some, true_and, and_true, ne_eq, not_false_eq_true, reduceCtorEq, if_true, if_false, Bool.false_eq_true, decide_eq_true_eq, List.mem_cons, List.not_mem_nil, or_self, or_false, false_or]
  refine ⟨eW w, rfl, nice_eW w, ?_⟩
  rw [webB_ok hwo (by omega) hw5 hw7]
  simp -dsimp only [beq_self_eq_true, Bool.not_true, sSeq, sAsg, sRet, sIf, sExp, sFor_eq, sPar2, sPar3, sSetI_eq, sAug_eq, slotA_d, sSetG_eq, sRetG, sGL, sGP, sNil, sBrk, sCnt, sNo, eName_eq, slotE_d, slotE_gen, slotE_scr, slotE_own, eC, eOp, eUn, eSc, eScL, eScR, eCh, eAnd, eOr, eNot, eIf, eTup, eLst, eCB, eIx, eIxN, eSl, eSlN, eSlS, eAddN, eLenN, eApp, eExt, ePop, eCallP_eq, eCallG_eq, eIsi, eGL, eGS, eGC, eGP, aNil, aCons, wB_eq, wTru, wTruN, wAnd, wOr, wNot, wYes, gN, gT_d, gL_own, gL_d, gsC, gsN, oNone, oSome_eq, asI_i, iLst, iTpl, iRg1, iRg2, iEnm, iEnmT, iZp, iScr, eLc_eq, hasD, slotD_eq, slotK_d, slotK_own, ownD_eq, slotO_own, isOwn, scrD, putE, asDs, asD_d, asD_own, argR_d, argR_own, argR_gen, argR_scr, asL_own, asL_d, asT_d, asB_d, sub_i, iadd_i, mul_i, fdiv_i, mod_i, pow_i, lt_i, le_i, gt_i, ge_i, add_i, add_l, add_t, cat_i, cat_l, cat_t, neg_i, eqf_i, eqt_i, lenC_l, lenC_t, absC_i, intC_i, tupC_l, tupC_t, max2C_i, min2C_i, lenC_s, reprC_b, reprA_b, reprA_i, reprA_t, reprC_i, eqf_rb, eqt_rb, eqt_ri, slD_t, max3C_i, ixt0, ixt1, ixt2, ixt3, ixl0, ixl1, ixtl, ixll, truD, lenD, startC, endP, List.map_cons, List.map_nil, List.length_cons, List.length_nil, List.cons_append, List.nil_append, List.getElem?_cons_zero, List.getElem?_cons_succ, List.set_cons_zero, List.set_cons_succ, List.replicate_succ, List.replicate_zero, Nat.reduceSub, Nat.reduceAdd, Nat.reduceLT, Option.isSome_some, true_and, and_true, ne_eq, not_false_eq_true, reduceCtorEq, if_true, if_false, Bool.false_eq_true, decide_eq_true_eq, List.mem_cons, List.not_mem_nil, or_self, or_false, false_or]
  refine ⟨w, gr, rfl, ⟨hwo, by omega, by omega⟩, fun M hM => ?_⟩
  have e := hM.uniq hL
  subst e
  have hsho := sho_pieces hwo hw5 hM
  try simp -dsimp only [sSeq, sAsg, sRet, sIf, sExp, sFor_eq, sPar2, sPar3, sSetI_eq, sAug_eq, slotA_d, sSetG_eq, sRetG, sGL, sGP, sNil, sBrk, sCnt, sNo, eName_eq, slotE_d, slotE_gen, slotE_scr, slotE_own, eC, eOp, eUn, eSc, eScL, eScR, eCh, eAnd, eOr, eNot, eIf, eTup, eLst, eCB, eIx, eIxN, eSl, eSlN, eSlS, eAddN, eLenN, eApp, eExt, ePop, eCallP_eq, eCallG_eq, eIsi, eGL, eGS, eGC, eGP, aNil, aCons, wB_eq, wTru, wTruN, wAnd, wOr, wNot, wYes, gN, gT_d, gL_own, gL_d, gsC, gsN, oNone, oSome_eq, asI_i, iLst, iTpl, iRg1, iRg2, iEnm, iEnmT, iZp, iScr, eLc_eq, hasD, slotD_eq, slotK_d, slotK_own, ownD_eq, slotO_own, isOwn, scrD, putE, asDs, asD_d, asD_own, argR_d, argR_own, argR_gen, argR_scr, asL_own, asL_d, asT_d, asB_d, sub_i, iadd_i, mul_i, fdiv_i, mod_i, pow_i, lt_i, le_i, gt_i, ge_i, add_i, add_l, add_t, cat_i, cat_l, cat_t, neg_i, eqf_i, eqt_i, lenC_l, lenC_t, absC_i, intC_i, tupC_l, tupC_t, max2C_i, min2C_i, lenC_s, reprC_b, reprA_b, reprA_i, reprA_t, reprC_i, eqf_rb, eqt_rb, eqt_ri, slD_t, max3C_i, ixt0, ixt1, ixt2, ixt3, ixl0, ixl1, ixtl, ixll, truD, lenD, startC, endP, List.map_cons, List.map_nil, List.length_cons, List.length_nil, List.cons_append, List.nil_append, List.getElem?_cons_zero, List.getElem?_cons_succ, List.set_cons_zero, List.set_cons_succ, List.replicate_succ, List.replicate_zero, Nat.reduceSub, Nat.reduceAdd, Nat.reduceLT, Option.isSome_some, true_and, and_true, ne_eq, not_false_eq_true, reduceCtorEq, if_true, if_false, Bool.false_eq_true, decide_eq_true_eq, List.mem_cons, List.not_mem_nil, or_self, or_false, false_or]
  refine ⟨hsho, hsho, ?_⟩
  rw [eqt_repr hsho]
  simp -dsimp only [eW, sSeq, sAsg, sRet, sIf, sExp, sFor_eq, sPar2, sPar3, sSetI_eq, sAug_eq, slotA_d, sSetG_eq, sRetG, sGL, sGP, sNil, sBrk, sCnt, sNo, eName_eq, slotE_d, slotE_gen, slotE_scr, slotE_own, eC, eOp, eUn, eSc, eScL, eScR, eCh, eAnd, eOr, eNot, eIf, eTup, eLst, eCB, eIx, eIxN, eSl, eSlN, eSlS, eAddN, eLenN, eApp, eExt, ePop, eCallP_eq, eCallG_eq, eIsi, eGL, eGS, eGC, eGP, aNil, aCons, wB_eq, wTru, wTruN, wAnd, wOr, wNot, wYes, gN, gT_d, gL_own, gL_d, gsC, gsN, oNone, oSome_eq, asI_i, iLst, iTpl, iRg1, iRg2, iEnm, iEnmT, iZp, iScr, eLc_eq, hasD, slotD_eq, slotK_d, slotK_own, ownD_eq, slotO_own, isOwn, scrD, putE, asDs, asD_d, asD_own, argR_d, argR_own, argR_gen, argR_scr, asL_own, asL_d, asT_d, asB_d, sub_i, iadd_i, mul_i, fdiv_i, mod_i, pow_i, lt_i, le_i, gt_i, ge_i, add_i, add_l, add_t, cat_i, cat_l, cat_t, neg_i, eqf_i, eqt_i, lenC_l, lenC_t, absC_i, intC_i, tupC_l, tupC_t, max2C_i, min2C_i, lenC_s, reprC_b, reprA_b, reprA_i, reprA_t, reprC_i, eqf_rb, eqt_rb, eqt_ri, slD_t, max3C_i, ixt0, ixt1, ixt2, ixt3, ixl0, ixl1, ixtl, ixll, truD, lenD, startC, endP, List.map_cons, List.map_nil, List.length_cons, List.length_nil, List.cons_append, List.nil_append, List.getElem?_cons_zero, List.getElem?_cons_succ, List.set_cons_zero, List.set_cons_succ, List.replicate_succ, List.replicate_zero, Nat.reduceSub, Nat.reduceAdd, Nat.reduceLT, Option.isSome_some, true_and, and_true, ne_eq, not_false_eq_true, reduceCtorEq, if_true, if_false, Bool.false_eq_true, decide_eq_true_eq, List.mem_cons, List.not_mem_nil, or_self, or_false, false_or]
  have hr0 := hwo.r0
  refine ⟨by unfold smI; omega, ?_⟩
  refine forW_ind _ (fun i c => ∃ (x3 x4 : Option Rv) (x7 : Option Px), c = ⟨[some .gen, some (.d (eW w)), some (.d (.list (M.map tupI))), x3, x4, none, none, x7.map .d], some m2⟩) (fun i x c hx hI R hR => ?_) (fun c hI => ?_) _ ⟨_, _, none, rfl⟩
  · obtain ⟨x3, x4, x7, rfl⟩ := hI
    obtain ⟨hi, rfl⟩ := rng_at hx
    have hi0 : (0 : Int) + (i : Int) < w.rooms := by omega
    have hi1 : (0 : Int) ≤ 0 + (i : Int) := by omega
    generalize (0 : Int) + (i : Int) = r at hi0 hi1 ⊢
    try simp -dsimp only [sSeq, sAsg, sRet, sIf, sExp, sFor_eq, sPar2, sPar3, sSetI_eq, sAug_eq, slotA_d, sSetG_eq, sRetG, sGL, sGP, sNil, sBrk, sCnt, sNo, eName_eq, slotE_d, slotE_gen, slotE_scr, slotE_own, eC, eOp, eUn, eSc, eScL, eScR, eCh, eAnd, eOr, eNot, eIf, eTup, eLst, eCB, eIx, eIxN, eSl, eSlN, eSlS, eAddN, eLenN, eApp, eExt, ePop, eCallP_eq, eCallG_eq, eIsi, eGL, eGS, eGC, eGP, aNil, aCons, wB_eq, wTru, wTruN, wAnd, wOr, wNot, wYes, gN, gT_d, gL_own, gL_d, gsC, gsN, oNone, oSome_eq, asI_i, iLst, iTpl, iRg1, iRg2, iEnm, iEnmT, iZp, iScr, eLc_eq, hasD, slotD_eq, slotK_d, slotK_own, ownD_eq, slotO_own, isOwn, scrD, putE, asDs, asD_d, asD_own, argR_d, argR_own, argR_gen, argR_scr, asL_own, asL_d, asT_d, asB_d, sub_i, iadd_i, mul_i, fdiv_i, mod_i, pow_i, lt_i, le_i, gt_i, ge_i, add_i, add_l, add_t, cat_i, cat_l, cat_t, neg_i, eqf_i, eqt_i, lenC_l, lenC_t, absC_i, intC_i, tupC_l, tupC_t, max2C_i, min2C_i, lenC_s, reprC_b, reprA_b, reprA_i, reprA_t, reprC_i, eqf_rb, eqt_rb, eqt_ri, slD_t, max3C_i, ixt0, ixt1, ixt2, ixt3, ixl0, ixl1, ixtl, ixll, truD, lenD, startC, endP, List.map_cons, List.map_nil, List.length_cons, List.length_nil, List.cons_append, List.nil_append, List.getElem?_cons_zero, List.getElem?_cons_succ, List.set_cons_zero, List.set_cons_succ, List.replicate_succ, List.replicate_zero, Nat.reduceSub, Nat.reduceAdd, Nat.reduceLT, Option.isSome_some, true_and, and_true, ne_eq, not_false_eq_true, reduceCtorEq, if_true, if_false, Bool.false_eq_true, decide_eq_true_eq, List.mem_cons, List.not_mem_nil, or_self, or_false, false_or]
    refine ⟨by cases x7 <;> simp [nown], ?_⟩
    have hML := pieces_len hwo hw5 hM
    refine lcW_fma tupI (fun l => if r ∈ l then some (tupI l) else none) M [] (fun l hl R2 S2 hR2 hS2 => ?_) (by simp only [List.length_nil]; omega) ?_
    · simp -dsimp only [Turn1, wipeE, sSeq, sAsg, sRet, sIf, sExp, sFor_eq, sPar2, sPar3, sSetI_eq, sAug_eq, slotA_d, sSetG_eq, sRetG, sGL, sGP, sNil, sBrk, sCnt, sNo, eName_eq, slotE_d, slotE_gen, slotE_scr, slotE_own, eC, eOp, eUn, eSc, eScL, eScR, eCh, eAnd, eOr, eNot, eIf, eTup, eLst, eCB, eIx, eIxN, eSl, eSlN, eSlS, eAddN, eLenN, eApp, eExt, ePop, eCallP_eq, eCallG_eq, eIsi, eGL, eGS, eGC, eGP, aNil, aCons, wB_eq, wTru, wTruN, wAnd, wOr, wNot, wYes, gN, gT_d, gL_own, gL_d, gsC, gsN, oNone, oSome_eq, asI_i, iLst, iTpl, iRg1, iRg2, iEnm, iEnmT, iZp, iScr, eLc_eq, hasD, slotD_eq, slotK_d, slotK_own, ownD_eq, slotO_own, isOwn, scrD, putE, asDs, asD_d, asD_own, argR_d, argR_own, argR_gen, argR_scr, asL_own, asL_d, asT_d, asB_d, sub_i, iadd_i, mul_i, fdiv_i, mod_i, pow_i, lt_i, le_i, gt_i, ge_i, add_i, add_l, add_t, cat_i, cat_l, cat_t, neg_i, eqf_i, eqt_i, lenC_l, lenC_t, absC_i, intC_i, tupC_l, tupC_t, max2C_i, min2C_i, lenC_s, reprC_b, reprA_b, reprA_i, reprA_t, reprC_i, eqf_rb, eqt_rb, eqt_ri, slD_t, max3C_i, ixt0, ixt1, ixt2, ixt3, ixl0, ixl1, ixtl, ixll, truD, lenD, startC, endP, List.map_cons, List.map_nil, List.length_cons, List.length_nil, List.cons_append, List.nil_append, List.getElem?_cons_zero, List.getElem?_cons_succ, List.set_cons_zero, List.set_cons_succ, List.replicate_succ, List.replicate_zero, Nat.reduceSub, Nat.reduceAdd, Nat.reduceLT, Option.isSome_some, true_and, and_true, ne_eq, not_false_eq_true, reduceCtorEq, if_true, if_false, Bool.false_eq_true, decide_eq_true_eq, List.mem_cons, List.not_mem_nil, or_self, or_false, false_or]
      simp -dsimp only [tupI, sSeq, sAsg, sRet, sIf, sExp, sFor_eq, sPar2, sPar3, sSetI_eq, sAug_eq, slotA_d, sSetG_eq, sRetG, sGL, sGP, sNil, sBrk, sCnt, sNo, eName_eq, slotE_d, slotE_gen, slotE_scr, slotE_own, eC, eOp, eUn, eSc, eScL, eScR, eCh, eAnd, eOr, eNot, eIf, eTup, eLst, eCB, eIx, eIxN, eSl, eSlN, eSlS, eAddN, eLenN, eApp, eExt, ePop, eCallP_eq, eCallG_eq, eIsi, eGL, eGS, eGC, eGP, aNil, aCons, wB_eq, wTru, wTruN, wAnd, wOr, wNot, wYes, gN, gT_d, gL_own, gL_d, gsC, gsN, oNone, oSome_eq, asI_i, iLst, iTpl, iRg1, iRg2, iEnm, iEnmT, iZp, iScr, eLc_eq, hasD, slotD_eq, slotK_d, slotK_own, ownD_eq, slotO_own, isOwn, scrD, putE, asDs, asD_d, asD_own, argR_d, argR_own, argR_gen, argR_scr, asL_own, asL_d, asT_d, asB_d, sub_i, iadd_i, mul_i, fdiv_i, mod_i, pow_i, lt_i, le_i, gt_i, ge_i, add_i, add_l, add_t, cat_i, cat_l, cat_t, neg_i, eqf_i, eqt_i, lenC_l, lenC_t, absC_i, intC_i, tupC_l, tupC_t, max2C_i, min2C_i, lenC_s, reprC_b, reprA_b, reprA_i, reprA_t, reprC_i, eqf_rb, eqt_rb, eqt_ri, slD_t, max3C_i, ixt0, ixt1, ixt2, ixt3, ixl0, ixl1, ixtl, ixll, truD, lenD, startC, endP, List.map_cons, List.map_nil, List.length_cons, List.length_nil, List.cons_append, List.nil_append, List.getElem?_cons_zero, List.getElem?_cons_succ, List.set_cons_zero, List.set_cons_succ, List.replicate_succ, List.replicate_zero, Nat.reduceSub, Nat.reduceAdd, Nat.reduceLT, Option.isSome_some, true_and, and_true, ne_eq, not_false_eq_true, reduceCtorEq, if_true, if_false, Bool.false_eq_true, decide_eq_true_eq, List.mem_cons, List.not_mem_nil, or_self, or_false, false_or]
      rw [inF_t]
      by_cases hrl : r ∈ l
      · simp -dsimp only [hrl, decide_true, sSeq, sAsg, sRet, sIf, sExp, sFor_eq, sPar2, sPar3, sSetI_eq, sAug_eq, slotA_d, sSetG_eq, sRetG, sGL, sGP, sNil, sBrk, sCnt, sNo, eName_eq, slotE_d, slotE_gen, slotE_scr, slotE_own, eC, eOp, eUn, eSc, eScL, eScR, eCh, eAnd, eOr, eNot, eIf, eTup, eLst, eCB, eIx, eIxN, eSl, eSlN, eSlS, eAddN, eLenN, eApp, eExt, ePop, eCallP_eq, eCallG_eq, eIsi, eGL, eGS, eGC, eGP, aNil, aCons, wB_eq, wTru, wTruN, wAnd, wOr, wNot, wYes, gN, gT_d, gL_own, gL_d, gsC, gsN, oNone, oSome_eq, asI_i, iLst, iTpl, iRg1, iRg2, iEnm, iEnmT, iZp, iScr, eLc_eq, hasD, slotD_eq, slotK_d, slotK_own, ownD_eq, slotO_own, isOwn, scrD, putE, asDs, asD_d, asD_own, argR_d, argR_own, argR_gen, argR_scr, asL_own, asL_d, asT_d, asB_d, sub_i, iadd_i, mul_i, fdiv_i, mod_i, pow_i, lt_i, le_i, gt_i, ge_i, add_i, add_l, add_t, cat_i, cat_l, cat_t, neg_i, eqf_i, eqt_i, lenC_l, lenC_t, absC_i, intC_i, tupC_l, tupC_t, max2C_i, min2C_i, lenC_s, reprC_b, reprA_b, reprA_i, reprA_t, reprC_i, eqf_rb, eqt_rb, eqt_ri, slD_t, max3C_i, ixt0, ixt1, ixt2, ixt3, ixl0, ixl1, ixtl, ixll, truD, lenD, startC, endP, List.map_cons, List.map_nil, List.length_cons, List.length_nil, List.cons_append, List.nil_append, List.getElem?_cons_zero, List.getElem?_cons_succ, List.set_cons_zero, List.set_cons_succ, List.replicate_succ, List.replicate_zero, Nat.reduceSub, Nat.reduceAdd, Nat.reduceLT, Option.isSome_some, true_and, and_true, ne_eq, not_false_eq_true, reduceCtorEq, if_true, if_false, Bool.false_eq_true, decide_eq_true_eq, List.mem_cons, List.not_mem_nil, or_self, or_false, false_or]
        exact hR2 _ (by simp [hrl, tupI])
      · simp -dsimp only [hrl, decide_false, sSeq, sAsg, sRet, sIf, sExp, sFor_eq, sPar2, sPar3, sSetI_eq, sAug_eq, slotA_d, sSetG_eq, sRetG, sGL, sGP, sNil, sBrk, sCnt, sNo, eName_eq, slotE_d, slotE_gen, slotE_scr, slotE_own, eC, eOp, eUn, eSc, eScL, eScR, eCh, eAnd, eOr, eNot, eIf, eTup, eLst, eCB, eIx, eIxN, eSl, eSlN, eSlS, eAddN, eLenN, eApp, eExt, ePop, eCallP_eq, eCallG_eq, eIsi, eGL, eGS, eGC, eGP, aNil, aCons, wB_eq, wTru, wTruN, wAnd, wOr, wNot, wYes, gN, gT_d, gL_own, gL_d, gsC, gsN, oNone, oSome_eq, asI_i, iLst, iTpl, iRg1, iRg2, iEnm, iEnmT, iZp, iScr, eLc_eq, hasD, slotD_eq, slotK_d, slotK_own, ownD_eq, slotO_own, isOwn, scrD, putE, asDs, asD_d, asD_own, argR_d, argR_own, argR_gen, argR_scr, asL_own, asL_d, asT_d, asB_d, sub_i, iadd_i, mul_i, fdiv_i, mod_i, pow_i, lt_i, le_i, gt_i, ge_i, add_i, add_l, add_t, cat_i, cat_l, cat_t, neg_i, eqf_i, eqt_i, lenC_l, lenC_t, absC_i, intC_i, tupC_l, tupC_t, max2C_i, min2C_i, lenC_s, reprC_b, reprA_b, reprA_i, reprA_t, reprC_i, eqf_rb, eqt_rb, eqt_ri, slD_t, max3C_i, ixt0, ixt1, ixt2, ixt3, ixl0, ixl1, ixtl, ixll, truD, lenD, startC, endP, List.map_cons, List.map_nil, List.length_cons, List.length_nil, List.cons_append, List.nil_append, List.getElem?_cons_zero, List.getElem?_cons_succ, List.set_cons_zero, List.set_cons_succ, List.replicate_succ, List.replicate_zero, Nat.reduceSub, Nat.reduceAdd, Nat.reduceLT, Option.isSome_some, true_and, and_true, ne_eq, not_false_eq_true, reduceCtorEq, if_true, if_false, Bool.false_eq_true, decide_eq_true_eq, List.mem_cons, List.not_mem_nil, or_self, or_false, false_or]
        exact hS2 (by simp [hrl])
    have hP : ∃ P0 rest, M.filterMap (fun l => if r ∈ l then some (tupI l) else none) = tupI P0 :: rest ∧ IsPiece w.ties r P0 := by
      obtain ⟨l, hl⟩ := piece_ex hwo hi1 hi0
      have hin : l ∈ M := (hM.mem l).mpr ⟨r, hi1, hi0, hl⟩
      have hne : tupI l ∈ M.filterMap (fun l => if r ∈ l then some (tupI l) else none) := List.mem_filterMap.mpr ⟨l, hin, by simp [hl.self]⟩
      generalize hF : M.filterMap (fun l => if r ∈ l then some (tupI l) else none) = F at hne
      cases F with
      | nil => cases hne
      | cons p rest =>
        have hp : p ∈ M.filterMap (fun l => if r ∈ l then some (tupI l) else none) := by rw [hF]; exact List.mem_cons_self
        obtain ⟨l2, hl2, e2⟩ := List.mem_filterMap.mp hp
        by_cases hr2 : r ∈ l2
        · simp only [hr2, if_true, Option.some.injEq] at e2
          obtain ⟨r2, _, _, hq⟩ := (hM.mem l2).mp hl2
          exact ⟨l2, rest, by rw [e2], hq.of ((hq.mem r).mp hr2)⟩
        · simp [hr2] at e2
    obtain ⟨P0, rest, eP, hP0⟩ := hP
    rw [eP]
    have hs0 := (sho_piece hwo hw5 hi1 hi0 hP0).mono (show 1 ≤ 40 by decide) (show 10000 ≤ 1000000 by decide)
    try simp -dsimp only [sSeq, sAsg, sRet, sIf, sExp, sFor_eq, sPar2, sPar3, sSetI_eq, sAug_eq, slotA_d, sSetG_eq, sRetG, sGL, sGP, sNil, sBrk, sCnt, sNo, eName_eq, slotE_d, slotE_gen, slotE_scr, slotE_own, eC, eOp, eUn, eSc, eScL, eScR, eCh, eAnd, eOr, eNot, eIf, eTup, eLst, eCB, eIx, eIxN, eSl, eSlN, eSlS, eAddN, eLenN, eApp, eExt, ePop, eCallP_eq, eCallG_eq, eIsi, eGL, eGS, eGC, eGP, aNil, aCons, wB_eq, wTru, wTruN, wAnd, wOr, wNot, wYes, gN, gT_d, gL_own, gL_d, gsC, gsN, oNone, oSome_eq, asI_i, iLst, iTpl, iRg1, iRg2, iEnm, iEnmT, iZp, iScr, eLc_eq, hasD, slotD_eq, slotK_d, slotK_own, ownD_eq, slotO_own, isOwn, scrD, putE, asDs, asD_d, asD_own, argR_d, argR_own, argR_gen, argR_scr, asL_own, asL_d, asT_d, asB_d, sub_i, iadd_i, mul_i, fdiv_i, mod_i, pow_i, lt_i, le_i, gt_i, ge_i, add_i, add_l, add_t, cat_i, cat_l, cat_t, neg_i, eqf_i, eqt_i, lenC_l, lenC_t, absC_i, intC_i, tupC_l, tupC_t, max2C_i, min2C_i, lenC_s, reprC_b, reprA_b, reprA_i, reprA_t, reprC_i, eqf_rb, eqt_rb, eqt_ri, slD_t, max3C_i, ixt0, ixt1, ixt2, ixt3, ixl0, ixl1, ixtl, ixll, truD, lenD, startC, endP, List.map_cons, List.map_nil, List.length_cons, List.length_nil, List.cons_append, List.nil_append, List.getElem?_cons_zero, List.getElem?_cons_succ, List.set_cons_zero, List.set_cons_succ, List.replicate_succ, List.replicate_zero, Nat.reduceSub, Nat.reduceAdd, Nat.reduceLT, Option.isSome_some, true_and, and_true, ne_eq, not_false_eq_true, reduceCtorEq, if_true, if_false, Bool.false_eq_true, decide_eq_true_eq, List.mem_cons, List.not_mem_nil, or_self, or_false, false_or]
    refine ⟨w, gr, r, rfl, ⟨hwo, by omega, by omega, hi1, hi0⟩, fun l hl => ?_⟩
    have el := hl.uniq hP0
    subst el
    simp -dsimp only [tupI, sSeq, sAsg, sRet, sIf, sExp, sFor_eq, sPar2, sPar3, sSetI_eq, sAug_eq, slotA_d, sSetG_eq, sRetG, sGL, sGP, sNil, sBrk, sCnt, sNo, eName_eq, slotE_d, slotE_gen, slotE_scr, slotE_own, eC, eOp, eUn, eSc, eScL, eScR, eCh, eAnd, eOr, eNot, eIf, eTup, eLst, eCB, eIx, eIxN, eSl, eSlN, eSlS, eAddN, eLenN, eApp, eExt, ePop, eCallP_eq, eCallG_eq, eIsi, eGL, eGS, eGC, eGP, aNil, aCons, wB_eq, wTru, wTruN, wAnd, wOr, wNot, wYes, gN, gT_d, gL_own, gL_d, gsC, gsN, oNone, oSome_eq, asI_i, iLst, iTpl, iRg1, iRg2, iEnm, iEnmT, iZp, iScr, eLc_eq, hasD, slotD_eq, slotK_d, slotK_own, ownD_eq, slotO_own, isOwn, scrD, putE, asDs, asD_d, asD_own, argR_d, argR_own, argR_gen, argR_scr, asL_own, asL_d, asT_d, asB_d, sub_i, iadd_i, mul_i, fdiv_i, mod_i, pow_i, lt_i, le_i, gt_i, ge_i, add_i, add_l, add_t, cat_i, cat_l, cat_t, neg_i, eqf_i, eqt_i, lenC_l, lenC_t, absC_i, intC_i, tupC_l, tupC_t, max2C_i, min2C_i, lenC_s, reprC_b, reprA_b, reprA_i, reprA_t, reprC_i, eqf_rb, eqt_rb, eqt_ri, slD_t, max3C_i, ixt0, ixt1, ixt2, ixt3, ixl0, ixl1, ixtl, ixll, truD, lenD, startC, endP, List.map_cons, List.map_nil, List.length_cons, List.length_nil, List.cons_append, List.nil_append, List.getElem?_cons_zero, List.getElem?_cons_succ, List.set_cons_zero, List.set_cons_succ, List.replicate_succ, List.replicate_zero, Nat.reduceSub, Nat.reduceAdd, Nat.reduceLT, Option.isSome_some, true_and, and_true, ne_eq, not_false_eq_true, reduceCtorEq, if_true, if_false, Bool.false_eq_true, decide_eq_true_eq, List.mem_cons, List.not_mem_nil, or_self, or_false, false_or]
    have hs1 : Sho 40 1000000 (PyData.tuple (l.map PyData.int)) := hs0
    refine ⟨hs1, hs1, ?_⟩
    rw [eqt_repr hs1]
    try simp -dsimp only [sSeq, sAsg, sRet, sIf, sExp, sFor_eq, sPar2, sPar3, sSetI_eq, sAug_eq, slotA_d, sSetG_eq, sRetG, sGL, sGP, sNil, sBrk, sCnt, sNo, eName_eq, slotE_d, slotE_gen, slotE_scr, slotE_own, eC, eOp, eUn, eSc, eScL, eScR, eCh, eAnd, eOr, eNot, eIf, eTup, eLst, eCB, eIx, eIxN, eSl, eSlN, eSlS, eAddN, eLenN, eApp, eExt, ePop, eCallP_eq, eCallG_eq, eIsi, eGL, eGS, eGC, eGP, aNil, aCons, wB_eq, wTru, wTruN, wAnd, wOr, wNot, wYes, gN, gT_d, gL_own, gL_d, gsC, gsN, oNone, oSome_eq, asI_i, iLst, iTpl, iRg1, iRg2, iEnm, iEnmT, iZp, iScr, eLc_eq, hasD, slotD_eq, slotK_d, slotK_own, ownD_eq, slotO_own, isOwn, scrD, putE, asDs, asD_d, asD_own, argR_d, argR_own, argR_gen, argR_scr, asL_own, asL_d, asT_d, asB_d, sub_i, iadd_i, mul_i, fdiv_i, mod_i, pow_i, lt_i, le_i, gt_i, ge_i, add_i, add_l, add_t, cat_i, cat_l, cat_t, neg_i, eqf_i, eqt_i, lenC_l, lenC_t, absC_i, intC_i, tupC_l, tupC_t, max2C_i, min2C_i, lenC_s, reprC_b, reprA_b, reprA_i, reprA_t, reprC_i, eqf_rb, eqt_rb, eqt_ri, slD_t, max3C_i, ixt0, ixt1, ixt2, ixt3, ixl0, ixl1, ixtl, ixll, truD, lenD, startC, endP, List.map_cons, List.map_nil, List.length_cons, List.length_nil, List.cons_append, List.nil_append, List.getElem?_cons_zero, List.getElem?_cons_succ, List.set_cons_zero, List.set_cons_succ, List.replicate_succ, List.replicate_zero, Nat.reduceSub, Nat.reduceAdd, Nat.reduceLT, Option.isSome_some, true_and, and_true, ne_eq, not_false_eq_true, reduceCtorEq, if_true, if_false, Bool.false_eq_true, decide_eq_true_eq, List.mem_cons, List.not_mem_nil, or_self, or_false, false_or]
    refine ⟨w, r, rfl, by omega, ?_⟩
    try simp -dsimp only [sSeq, sAsg, sRet, sIf, sExp, sFor_eq, sPar2, sPar3, sSetI_eq, sAug_eq, slotA_d, sSetG_eq, sRetG, sGL, sGP, sNil, sBrk, sCnt, sNo, eName_eq, slotE_d, slotE_gen, slotE_scr, slotE_own, eC, eOp, eUn, eSc, eScL, eScR, eCh, eAnd, eOr, eNot, eIf, eTup, eLst, eCB, eIx, eIxN, eSl, eSlN, eSlS, eAddN, eLenN, eApp, eExt, ePop, eCallP_eq, eCallG_eq, eIsi, eGL, eGS, eGC, eGP, aNil, aCons, wB_eq, wTru, wTruN, wAnd, wOr, wNot, wYes, gN, gT_d, gL_own, gL_d, gsC, gsN, oNone, oSome_eq, asI_i, iLst, iTpl, iRg1, iRg2, iEnm, iEnmT, iZp, iScr, eLc_eq, hasD, slotD_eq, slotK_d, slotK_own, ownD_eq, slotO_own, isOwn, scrD, putE, asDs, asD_d, asD_own, argR_d, argR_own, argR_gen, argR_scr, asL_own, asL_d, asT_d, asB_d, sub_i, iadd_i, mul_i, fdiv_i, mod_i, pow_i, lt_i, le_i, gt_i, ge_i, add_i, add_l, add_t, cat_i, cat_l, cat_t, neg_i, eqf_i, eqt_i, lenC_l, lenC_t, absC_i, intC_i, tupC_l, tupC_t, max2C_i, min2C_i, lenC_s, reprC_b, reprA_b, reprA_i, reprA_t, reprC_i, eqf_rb, eqt_rb, eqt_ri, slD_t, max3C_i, ixt0, ixt1, ixt2, ixt3, ixl0, ixl1, ixtl, ixll, truD, lenD, startC, endP, List.map_cons, List.map_nil, List.length_cons, List.length_nil, List.cons_append, List.nil_append, List.getElem?_cons_zero, List.getElem?_cons_succ, List.set_cons_zero, List.set_cons_succ, List.replicate_succ, List.replicate_zero, Nat.reduceSub, Nat.reduceAdd, Nat.reduceLT, Option.isSome_some, true_and, and_true, ne_eq, not_false_eq_true, reduceCtorEq, if_true, if_false, Bool.false_eq_true, decide_eq_true_eq, List.mem_cons, List.not_mem_nil, or_self, or_false, false_or]
    have hso := sho_outs (w := w) (r := r) hw7
    refine ⟨hso, w, r, rfl, by omega, ?_⟩
    try simp -dsimp only [sSeq, sAsg, sRet, sIf, sExp, sFor_eq, sPar2, sPar3, sSetI_eq, sAug_eq, slotA_d, sSetG_eq, sRetG, sGL, sGP, sNil, sBrk, sCnt, sNo, eName_eq, slotE_d, slotE_gen, slotE_scr, slotE_own, eC, eOp, eUn, eSc, eScL, eScR, eCh, eAnd, eOr, eNot, eIf, eTup, eLst, eCB, eIx, eIxN, eSl, eSlN, eSlS, eAddN, eLenN, eApp, eExt, ePop, eCallP_eq, eCallG_eq, eIsi, eGL, eGS, eGC, eGP, aNil, aCons, wB_eq, wTru, wTruN, wAnd, wOr, wNot, wYes, gN, gT_d, gL_own, gL_d, gsC, gsN, oNone, oSome_eq, asI_i, iLst, iTpl, iRg1, iRg2, iEnm, iEnmT, iZp, iScr, eLc_eq, hasD, slotD_eq, slotK_d, slotK_own, ownD_eq, slotO_own, isOwn, scrD, putE, asDs, asD_d, asD_own, argR_d, argR_own, argR_gen, argR_scr, asL_own, asL_d, asT_d, asB_d, sub_i, iadd_i, mul_i, fdiv_i, mod_i, pow_i, lt_i, le_i, gt_i, ge_i, add_i, add_l, add_t, cat_i, cat_l, cat_t, neg_i, eqf_i, eqt_i, lenC_l, lenC_t, absC_i, intC_i, tupC_l, tupC_t, max2C_i, min2C_i, lenC_s, reprC_b, reprA_b, reprA_i, reprA_t, reprC_i, eqf_rb, eqt_rb, eqt_ri, slD_t, max3C_i, ixt0, ixt1, ixt2, ixt3, ixl0, ixl1, ixtl, ixll, truD, lenD, startC, endP, List.map_cons, List.map_nil, List.length_cons, List.length_nil, List.cons_append, List.nil_append, List.getElem?_cons_zero, List.getElem?_cons_succ, List.set_cons_zero, List.set_cons_succ, List.replicate_succ, List.replicate_zero, Nat.reduceSub, Nat.reduceAdd, Nat.reduceLT, Option.isSome_some, true_and, and_true, ne_eq, not_false_eq_true, reduceCtorEq, if_true, if_false, Bool.false_eq_true, decide_eq_true_eq, List.mem_cons, List.not_mem_nil, or_self, or_false, false_or]
    refine ⟨hso, ?_⟩
    rw [eqt_repr hso]
    try simp -dsimp only [sSeq, sAsg, sRet, sIf, sExp, sFor_eq, sPar2, sPar3, sSetI_eq, sAug_eq, slotA_d, sSetG_eq, sRetG, sGL, sGP, sNil, sBrk, sCnt, sNo, eName_eq, slotE_d, slotE_gen, slotE_scr, slotE_own, eC, eOp, eUn, eSc, eScL, eScR, eCh, eAnd, eOr, eNot, eIf, eTup, eLst, eCB, eIx, eIxN, eSl, eSlN, eSlS, eAddN, eLenN, eApp, eExt, ePop, eCallP_eq, eCallG_eq, eIsi, eGL, eGS, eGC, eGP, aNil, aCons, wB_eq, wTru, wTruN, wAnd, wOr, wNot, wYes, gN, gT_d, gL_own, gL_d, gsC, gsN, oNone, oSome_eq, asI_i, iLst, iTpl, iRg1, iRg2, iEnm, iEnmT, iZp, iScr, eLc_eq, hasD, slotD_eq, slotK_d, slotK_own, ownD_eq, slotO_own, isOwn, scrD, putE, asDs, asD_d, asD_own, argR_d, argR_own, argR_gen, argR_scr, asL_own, asL_d, asT_d, asB_d, sub_i, iadd_i, mul_i, fdiv_i, mod_i, pow_i, lt_i, le_i, gt_i, ge_i, add_i, add_l, add_t, cat_i, cat_l, cat_t, neg_i, eqf_i, eqt_i, lenC_l, lenC_t, absC_i, intC_i, tupC_l, tupC_t, max2C_i, min2C_i, lenC_s, reprC_b, reprA_b, reprA_i, reprA_t, reprC_i, eqf_rb, eqt_rb, eqt_ri, slD_t, max3C_i, ixt0, ixt1, ixt2, ixt3, ixl0, ixl1, ixtl, ixll, truD, lenD, startC, endP, List.map_cons, List.map_nil, List.length_cons, List.length_nil, List.cons_append, List.nil_append, List.getElem?_cons_zero, List.getElem?_cons_succ, List.set_cons_zero, List.set_cons_succ, List.replicate_succ, List.replicate_zero, Nat.reduceSub, Nat.reduceAdd, Nat.reduceLT, Option.isSome_some, true_and, and_true, ne_eq, not_false_eq_true, reduceCtorEq, if_true, if_false, Bool.false_eq_true, decide_eq_true_eq, List.mem_cons, List.not_mem_nil, or_self, or_false, false_or]
    exact hR _ ⟨_, _, x7, rfl⟩
  · obtain ⟨x3, x4, x7, rfl⟩ := hI
    simp -dsimp only [eW, sSeq, sAsg, sRet, sIf, sExp, sFor_eq, sPar2, sPar3, sSetI_eq, sAug_eq, slotA_d, sSetG_eq, sRetG, sGL, sGP, sNil, sBrk, sCnt, sNo, eName_eq, slotE_d, slotE_gen, slotE_scr, slotE_own, eC, eOp, eUn, eSc, eScL, eScR, eCh, eAnd, eOr, eNot, eIf, eTup, eLst, eCB, eIx, eIxN, eSl, eSlN, eSlS, eAddN, eLenN, eApp, eExt, ePop, eCallP_eq, eCallG_eq, eIsi, eGL, eGS, eGC, eGP, aNil, aCons, wB_eq, wTru, wTruN, wAnd, wOr, wNot, wYes, gN, gT_d, gL_own, gL_d, gsC, gsN, oNone, oSome_eq, asI_i, iLst, iTpl, iRg1, iRg2, iEnm, iEnmT, iZp, iScr, eLc_eq, hasD, slotD_eq, slotK_d, slotK_own, ownD_eq, slotO_own, isOwn, scrD, putE, asDs, asD_d, asD_own, argR_d, argR_own, argR_gen, argR_scr, asL_own, asL_d, asT_d, asB_d, sub_i, iadd_i, mul_i, fdiv_i, mod_i, pow_i, lt_i, le_i, gt_i, ge_i, add_i, add_l, add_t, cat_i, cat_l, cat_t, neg_i, eqf_i, eqt_i, lenC_l, lenC_t, absC_i, intC_i, tupC_l, tupC_t, max2C_i, min2C_i, lenC_s, reprC_b, reprA_b, reprA_i, reprA_t, reprC_i, eqf_rb, eqt_rb, eqt_ri, slD_t, max3C_i, ixt0, ixt1, ixt2, ixt3, ixl0, ixl1, ixtl, ixll, truD, lenD, startC, endP, List.map_cons, List.map_nil, List.length_cons, List.length_nil, List.cons_append, List.nil_append, List.getElem?_cons_zero, List.getElem?_cons_succ, List.set_cons_zero, List.set_cons_succ, List.replicate_succ, List.replicate_zero, Nat.reduceSub, Nat.reduceAdd, Nat.reduceLT, Option.isSome_some, true_and, and_true, ne_eq, not_false_eq_true, reduceCtorEq, if_true, if_false, Bool.false_eq_true, decide_eq_true_eq, List.mem_cons, List.not_mem_nil, or_self, or_false, false_or]
    refine ⟨by rw [List.length_map]; unfold smI; omega, ?_⟩
    refine forW_ind _ (fun i c => ∃ (x3 x4 x5 x6 x7 : Option Rv), c = ⟨[some .gen, some (.d (eW w)), some (.d (.list (M.map tupI))), x3, x4, x5, x6, x7], some m2⟩) (fun i x c hx hI R hR => ?_) (fun c hI => ?_) _ ⟨_, _, _, _, _, rfl⟩
    · obtain ⟨x3, x4, x5, x6, x7, rfl⟩ := hI
      obtain ⟨hi, rfl⟩ := rng_at hx
      rw [List.length_map] at hi
      have hat : Web.at w (0 + (i : Int)) w.ties[i] := ⟨i, by omega, by simp⟩
      generalize (0 : Int) + (i : Int) = t at hat ⊢
      have tk := hwo.tie w.ties[i] (List.getElem_mem _)
      generalize w.ties[i] = y at hat tk
      try simp -dsimp only [sSeq, sAsg, sRet, sIf, sExp, sFor_eq, sPar2, sPar3, sSetI_eq, sAug_eq, slotA_d, sSetG_eq, sRetG, sGL, sGP, sNil, sBrk, sCnt, sNo, eName_eq, slotE_d, slotE_gen, slotE_scr, slotE_own, eC, eOp, eUn, eSc, eScL, eScR, eCh, eAnd, eOr, eNot, eIf, eTup, eLst, eCB, eIx, eIxN, eSl, eSlN, eSlS, eAddN, eLenN, eApp, eExt, ePop, eCallP_eq, eCallG_eq, eIsi, eGL, eGS, eGC, eGP, aNil, aCons, wB_eq, wTru, wTruN, wAnd, wOr, wNot, wYes, gN, gT_d, gL_own, gL_d, gsC, gsN, oNone, oSome_eq, asI_i, iLst, iTpl, iRg1, iRg2, iEnm, iEnmT, iZp, iScr, eLc_eq, hasD, slotD_eq, slotK_d, slotK_own, ownD_eq, slotO_own, isOwn, scrD, putE, asDs, asD_d, asD_own, argR_d, argR_own, argR_gen, argR_scr, asL_own, asL_d, asT_d, asB_d, sub_i, iadd_i, mul_i, fdiv_i, mod_i, pow_i, lt_i, le_i, gt_i, ge_i, add_i, add_l, add_t, cat_i, cat_l, cat_t, neg_i, eqf_i, eqt_i, lenC_l, lenC_t, absC_i, intC_i, tupC_l, tupC_t, max2C_i, min2C_i, lenC_s, reprC_b, reprA_b, reprA_i, reprA_t, reprC_i, eqf_rb, eqt_rb, eqt_ri, slD_t, max3C_i, ixt0, ixt1, ixt2, ixt3, ixl0, ixl1, ixtl, ixll, truD, lenD, startC, endP, List.map_cons, List.map_nil, List.length_cons, List.length_nil, List.cons_append, List.nil_append, List.getElem?_cons_zero, List.getElem?_cons_succ, List.set_cons_zero, List.set_cons_succ, List.replicate_succ, List.replicate_zero, Nat.reduceSub, Nat.reduceAdd, Nat.reduceLT, Option.isSome_some, true_and, and_true, ne_eq, not_false_eq_true, reduceCtorEq, if_true, if_false, Bool.false_eq_true, decide_eq_true_eq, List.mem_cons, List.not_mem_nil, or_self, or_false, false_or]
      refine ⟨by decide, ?_⟩
      refine forW_ind _ (fun j c => ∃ (x6 : Option Rv), c = ⟨[some .gen, some (.d (eW w)), some (.d (.list (M.map tupI))), x3, x4, some (.d (.int t)), x6, x7], some m2⟩) (fun j x c hx hI R2 hR2 => ?_) (fun c hI => ?_) _ ⟨_, rfl⟩
      · obtain ⟨x6, rfl⟩ := hI
        obtain ⟨s, rfl⟩ : ∃ s : Int, x = .int s := by
          have hm := List.mem_of_getElem? hx
          simp only [List.mem_cons, List.not_mem_nil, or_false] at hm
          rcases hm with h | h
          · exact ⟨1, h⟩
          · exact ⟨-1, h⟩
        have hsy := sho_tie (tk.rev s) (by omega) hw5
        try simp -dsimp only [sSeq, sAsg, sRet, sIf, sExp, sFor_eq, sPar2, sPar3, sSetI_eq, sAug_eq, slotA_d, sSetG_eq, sRetG, sGL, sGP, sNil, sBrk, sCnt, sNo, eName_eq, slotE_d, slotE_gen, slotE_scr, slotE_own, eC, eOp, eUn, eSc, eScL, eScR, eCh, eAnd, eOr, eNot, eIf, eTup, eLst, eCB, eIx, eIxN, eSl, eSlN, eSlS, eAddN, eLenN, eApp, eExt, ePop, eCallP_eq, eCallG_eq, eIsi, eGL, eGS, eGC, eGP, aNil, aCons, wB_eq, wTru, wTruN, wAnd, wOr, wNot, wYes, gN, gT_d, gL_own, gL_d, gsC, gsN, oNone, oSome_eq, asI_i, iLst, iTpl, iRg1, iRg2, iEnm, iEnmT, iZp, iScr, eLc_eq, hasD, slotD_eq, slotK_d, slotK_own, ownD_eq, slotO_own, isOwn, scrD, putE, asDs, asD_d, asD_own, argR_d, argR_own, argR_gen, argR_scr, asL_own, asL_d, asT_d, asB_d, sub_i, iadd_i, mul_i, fdiv_i, mod_i, pow_i, lt_i, le_i, gt_i, ge_i, add_i, add_l, add_t, cat_i, cat_l, cat_t, neg_i, eqf_i, eqt_i, lenC_l, lenC_t, absC_i, intC_i, tupC_l, tupC_t, max2C_i, min2C_i, lenC_s, reprC_b, reprA_b, reprA_i, reprA_t, reprC_i, eqf_rb, eqt_rb, eqt_ri, slD_t, max3C_i, ixt0, ixt1, ixt2, ixt3, ixl0, ixl1, ixtl, ixll, truD, lenD, startC, endP, List.map_cons, List.map_nil, List.length_cons, List.length_nil, List.cons_append, List.nil_append, List.getElem?_cons_zero, List.getElem?_cons_succ, List.set_cons_zero, List.set_cons_succ, List.replicate_succ, List.replicate_zero, Nat.reduceSub, Nat.reduceAdd, Nat.reduceLT, Option.isSome_some, true_and, and_true, ne_eq, not_false_eq_true, reduceCtorEq, if_true, if_false, Bool.false_eq_true, decide_eq_true_eq, List.mem_cons, List.not_mem_nil, or_self, or_false, false_or]
        refine ⟨w, t, s, y, rfl, hat, ?_⟩
        obtain ⟨z, hz⟩ : ∃ z, rev y s = z := ⟨_, rfl⟩
        rw [hz] at hsy ⊢
        simp only [eT] at hsy ⊢
        try simp -dsimp only [sSeq, sAsg, sRet, sIf, sExp, sFor_eq, sPar2, sPar3, sSetI_eq, sAug_eq, slotA_d, sSetG_eq, sRetG, sGL, sGP, sNil, sBrk, sCnt, sNo, eName_eq, slotE_d, slotE_gen, slotE_scr, slotE_own, eC, eOp, eUn, eSc, eScL, eScR, eCh, eAnd, eOr, eNot, eIf, eTup, eLst, eCB, eIx, eIxN, eSl, eSlN, eSlS, eAddN, eLenN, eApp, eExt, ePop, eCallP_eq, eCallG_eq, eIsi, eGL, eGS, eGC, eGP, aNil, aCons, wB_eq, wTru, wTruN, wAnd, wOr, wNot, wYes, gN, gT_d, gL_own, gL_d, gsC, gsN, oNone, oSome_eq, asI_i, iLst, iTpl, iRg1, iRg2, iEnm, iEnmT, iZp, iScr, eLc_eq, hasD, slotD_eq, slotK_d, slotK_own, ownD_eq, slotO_own, isOwn, scrD, putE, asDs, asD_d, asD_own, argR_d, argR_own, argR_gen, argR_scr, asL_own, asL_d, asT_d, asB_d, sub_i, iadd_i, mul_i, fdiv_i, mod_i, pow_i, lt_i, le_i, gt_i, ge_i, add_i, add_l, add_t, cat_i, cat_l, cat_t, neg_i, eqf_i, eqt_i, lenC_l, lenC_t, absC_i, intC_i, tupC_l, tupC_t, max2C_i, min2C_i, lenC_s, reprC_b, reprA_b, reprA_i, reprA_t, reprC_i, eqf_rb, eqt_rb, eqt_ri, slD_t, max3C_i, ixt0, ixt1, ixt2, ixt3, ixl0, ixl1, ixtl, ixll, truD, lenD, startC, endP, List.map_cons, List.map_nil, List.length_cons, List.length_nil, List.cons_append, List.nil_append, List.getElem?_cons_zero, List.getElem?_cons_succ, List.set_cons_zero, List.set_cons_succ, List.replicate_succ, List.replicate_zero, Nat.reduceSub, Nat.reduceAdd, Nat.reduceLT, Option.isSome_some, true_and, and_true, ne_eq, not_false_eq_true, reduceCtorEq, if_true, if_false, Bool.false_eq_true, decide_eq_true_eq, List.mem_cons, List.not_mem_nil, or_self, or_false, false_or]
        refine ⟨hsy, w, t, s, y, rfl, hat, ?_⟩
        rw [hz]
        simp -dsimp only [eT, sSeq, sAsg, sRet, sIf, sExp, sFor_eq, sPar2, sPar3, sSetI_eq, sAug_eq, slotA_d, sSetG_eq, sRetG, sGL, sGP, sNil, sBrk, sCnt, sNo, eName_eq, slotE_d, slotE_gen, slotE_scr, slotE_own, eC, eOp, eUn, eSc, eScL, eScR, eCh, eAnd, eOr, eNot, eIf, eTup, eLst, eCB, eIx, eIxN, eSl, eSlN, eSlS, eAddN, eLenN, eApp, eExt, ePop, eCallP_eq, eCallG_eq, eIsi, eGL, eGS, eGC, eGP, aNil, aCons, wB_eq, wTru, wTruN, wAnd, wOr, wNot, wYes, gN, gT_d, gL_own, gL_d, gsC, gsN, oNone, oSome_eq, asI_i, iLst, iTpl, iRg1, iRg2, iEnm, iEnmT, iZp, iScr, eLc_eq, hasD, slotD_eq, slotK_d, slotK_own, ownD_eq, slotO_own, isOwn, scrD, putE, asDs, asD_d, asD_own, argR_d, argR_own, argR_gen, argR_scr, asL_own, asL_d, asT_d, asB_d, sub_i, iadd_i, mul_i, fdiv_i, mod_i, pow_i, lt_i, le_i, gt_i, ge_i, add_i, add_l, add_t, cat_i, cat_l, cat_t, neg_i, eqf_i, eqt_i, lenC_l, lenC_t, absC_i, intC_i, tupC_l, tupC_t, max2C_i, min2C_i, lenC_s, reprC_b, reprA_b, reprA_i, reprA_t, reprC_i, eqf_rb, eqt_rb, eqt_ri, slD_t, max3C_i, ixt0, ixt1, ixt2, ixt3, ixl0, ixl1, ixtl, ixll, truD, lenD, startC, endP, List.map_cons, List.map_nil, List.length_cons, List.length_nil, List.cons_append, List.nil_append, List.getElem?_cons_zero, List.getElem?_cons_succ, List.set_cons_zero, List.set_cons_succ, List.replicate_succ, List.replicate_zero, Nat.reduceSub, Nat.reduceAdd, Nat.reduceLT, Option.isSome_some, true_and, and_true, ne_eq, not_false_eq_true, reduceCtorEq, if_true, if_false, Bool.false_eq_true, decide_eq_true_eq, List.mem_cons, List.not_mem_nil, or_self, or_false, false_or]
        refine ⟨hsy, ?_⟩
        rw [eqt_repr hsy]
        try simp -dsimp only [sSeq, sAsg, sRet, sIf, sExp, sFor_eq, sPar2, sPar3, sSetI_eq, sAug_eq, slotA_d, sSetG_eq, sRetG, sGL, sGP, sNil, sBrk, sCnt, sNo, eName_eq, slotE_d, slotE_gen, slotE_scr, slotE_own, eC, eOp, eUn, eSc, eScL, eScR, eCh, eAnd, eOr, eNot, eIf, eTup, eLst, eCB, eIx, eIxN, eSl, eSlN, eSlS, eAddN, eLenN, eApp, eExt, ePop, eCallP_eq, eCallG_eq, eIsi, eGL, eGS, eGC, eGP, aNil, aCons, wB_eq, wTru, wTruN, wAnd, wOr, wNot, wYes, gN, gT_d, gL_own, gL_d, gsC, gsN, oNone, oSome_eq, asI_i, iLst, iTpl, iRg1, iRg2, iEnm, iEnmT, iZp, iScr, eLc_eq, hasD, slotD_eq, slotK_d, slotK_own, ownD_eq, slotO_own, isOwn, scrD, putE, asDs, asD_d, asD_own, argR_d, argR_own, argR_gen, argR_scr, asL_own, asL_d, asT_d, asB_d, sub_i, iadd_i, mul_i, fdiv_i, mod_i, pow_i, lt_i, le_i, gt_i, ge_i, add_i, add_l, add_t, cat_i, cat_l, cat_t, neg_i, eqf_i, eqt_i, lenC_l, lenC_t, absC_i, intC_i, tupC_l, tupC_t, max2C_i, min2C_i, lenC_s, reprC_b, reprA_b, reprA_i, reprA_t, reprC_i, eqf_rb, eqt_rb, eqt_ri, slD_t, max3C_i, ixt0, ixt1, ixt2, ixt3, ixl0, ixl1, ixtl, ixll, truD, lenD, startC, endP, List.map_cons, List.map_nil, List.length_cons, List.length_nil, List.cons_append, List.nil_append, List.getElem?_cons_zero, List.getElem?_cons_succ, List.set_cons_zero, List.set_cons_succ, List.replicate_succ, List.replicate_zero, Nat.reduceSub, Nat.reduceAdd, Nat.reduceLT, Option.isSome_some, true_and, and_true, ne_eq, not_false_eq_true, reduceCtorEq, if_true, if_false, Bool.false_eq_true, decide_eq_true_eq, List.mem_cons, List.not_mem_nil, or_self, or_false, false_or]
        exact hR2 _ ⟨_, rfl⟩
      · obtain ⟨x6, rfl⟩ := hI
        try simp -dsimp only [sSeq, sAsg, sRet, sIf, sExp, sFor_eq, sPar2, sPar3, sSetI_eq, sAug_eq, slotA_d, sSetG_eq, sRetG, sGL, sGP, sNil, sBrk, sCnt, sNo, eName_eq, slotE_d, slotE_gen, slotE_scr, slotE_own, eC, eOp, eUn, eSc, eScL, eScR, eCh, eAnd, eOr, eNot, eIf, eTup, eLst, eCB, eIx, eIxN, eSl, eSlN, eSlS, eAddN, eLenN, eApp, eExt, ePop, eCallP_eq, eCallG_eq, eIsi, eGL, eGS, eGC, eGP, aNil, aCons, wB_eq, wTru, wTruN, wAnd, wOr, wNot, wYes, gN, gT_d, gL_own, gL_d, gsC, gsN, oNone, oSome_eq, asI_i, iLst, iTpl, iRg1, iRg2, iEnm, iEnmT, iZp, iScr, eLc_eq, hasD, slotD_eq, slotK_d, slotK_own, ownD_eq, slotO_own, isOwn, scrD, putE, asDs, asD_d, asD_own, argR_d, argR_own, argR_gen, argR_scr, asL_own, asL_d, asT_d, asB_d, sub_i, iadd_i, mul_i, fdiv_i, mod_i, pow_i, lt_i, le_i, gt_i, ge_i, add_i, add_l, add_t, cat_i, cat_l, cat_t, neg_i, eqf_i, eqt_i, lenC_l, lenC_t, absC_i, intC_i, tupC_l, tupC_t, max2C_i, min2C_i, lenC_s, reprC_b, reprA_b, reprA_i, reprA_t, reprC_i, eqf_rb, eqt_rb, eqt_ri, slD_t, max3C_i, ixt0, ixt1, ixt2, ixt3, ixl0, ixl1, ixtl, ixll, truD, lenD, startC, endP, List.map_cons, List.map_nil, List.length_cons, List.length_nil, List.cons_append, List.nil_append, List.getElem?_cons_zero, List.getElem?_cons_succ, List.set_cons_zero, List.set_cons_succ, List.replicate_succ, List.replicate_zero, Nat.reduceSub, Nat.reduceAdd, Nat.reduceLT, Option.isSome_some, true_and, and_true, ne_eq, not_false_eq_true, reduceCtorEq, if_true, if_false, Bool.false_eq_true, decide_eq_true_eq, List.mem_cons, List.not_mem_nil, or_self, or_false, false_or]
        exact hR _ ⟨_, _, _, _, _, rfl⟩
    · obtain ⟨x3, x4, x5, x6, x7, rfl⟩ := hI
      try simp -dsimp only [sSeq, sAsg, sRet, sIf, sExp, sFor_eq, sPar2, sPar3, sSetI_eq, sAug_eq, slotA_d, sSetG_eq, sRetG, sGL, sGP, sNil, sBrk, sCnt, sNo, eName_eq, slotE_d, slotE_gen, slotE_scr, slotE_own, eC, eOp, eUn, eSc, eScL, eScR, eCh, eAnd, eOr, eNot, eIf, eTup, eLst, eCB, eIx, eIxN, eSl, eSlN, eSlS, eAddN, eLenN, eApp, eExt, ePop, eCallP_eq, eCallG_eq, eIsi, eGL, eGS, eGC, eGP, aNil, aCons, wB_eq, wTru, wTruN, wAnd, wOr, wNot, wYes, gN, gT_d, gL_own, gL_d, gsC, gsN, oNone, oSome_eq, asI_i, iLst, iTpl, iRg1, iRg2, iEnm, iEnmT, iZp, iScr, eLc_eq, hasD, slotD_eq, slotK_d, slotK_own, ownD_eq, slotO_own, isOwn, scrD, putE, asDs, asD_d, asD_own, argR_d, argR_own, argR_gen, argR_scr, asL_own, asL_d, asT_d, asB_d, sub_i, iadd_i, mul_i, fdiv_i, mod_i, pow_i, lt_i, le_i, gt_i, ge_i, add_i, add_l, add_t, cat_i, cat_l, cat_t, neg_i, eqf_i, eqt_i, lenC_l, lenC_t, absC_i, intC_i, tupC_l, tupC_t, max2C_i, min2C_i, lenC_s, reprC_b, reprA_b, reprA_i, reprA_t, reprC_i, eqf_rb, eqt_rb, eqt_ri, slD_t, max3C_i, ixt0, ixt1, ixt2, ixt3, ixl0, ixl1, ixtl, ixll, truD, lenD, startC, endP, List.map_cons, List.map_nil, List.length_cons, List.length_nil, List.cons_append, List.nil_append, List.getElem?_cons_zero, List.getElem?_cons_succ, List.set_cons_zero, List.set_cons_succ, List.replicate_succ, List.replicate_zero, Nat.reduceSub, Nat.reduceAdd, Nat.reduceLT, Option.isSome_some, true_and, and_true, ne_eq, not_false_eq_true, reduceCtorEq, if_true, if_false, Bool.false_eq_true, decide_eq_true_eq, List.mem_cons, List.not_mem_nil, or_self, or_false, false_or]
      exact hQ m2 (by omega)
end K

set_option Elab.async false
set_option maxRecDepth 100000
set_option linter.all false
set_option autoImplicit false
set_option maxHeartbeats 4000000
namespace K
open PySem L2 Dl
theorem shp_eT (t : Tie) : Shp 1 (eT t) := Shp.ints [t.v, t.w, t.p, t.q]
theorem sh_eW {w : Web} (h : w.ties.length ≤ 1000) : Sh 3 (eW w) := by
  refine ⟨by simp, fun x hx => ?_, fun x hx => ?_⟩
  · simp only [List.mem_cons, List.not_mem_nil, or_false] at hx
    rcases hx with rfl | rfl
    · exact .int _
    · exact Shp.up (Shp.tup (n := 1) fun y hy => by
        obtain ⟨t, _, rfl⟩ := List.mem_map.mp hy
        exact shp_eT t) (by decide)
  · simp only [List.mem_cons, List.not_mem_nil, or_false] at hx
    rcases hx with rfl | rfl
    · exact trivial
    · refine ⟨by rw [List.length_map]; exact h, fun x hx => ?_, fun x hx => ?_⟩
      · obtain ⟨t, _, rfl⟩ := List.mem_map.mp hx
        exact Shp.up (shp_eT t) (by decide)
      · obtain ⟨t, _, rfl⟩ := List.mem_map.mp hx
        refine ⟨by simp, fun x hx => ?_, fun x hx => ?_⟩
        · simp only [List.mem_cons, List.not_mem_nil, or_false] at hx
          rcases hx with rfl | rfl | rfl | rfl <;> exact .int _
        · simp only [List.mem_cons, List.not_mem_nil, or_false] at hx
          rcases hx with rfl | rfl | rfl | rfl <;> exact trivial
theorem shp_eW (w : Web) : Shp 52 (eW w) := Shp.up (Shp.tup (n := 2) fun x hx => by
  simp only [List.mem_cons, List.not_mem_nil, or_false] at hx
  rcases hx with rfl | rfl
  · exact .int _
  · exact Shp.tup (n := 1) fun y hy => by
      obtain ⟨t, _, rfl⟩ := List.mem_map.mp hy
      exact shp_eT t) (by decide)
abbrev C_law_bent : Cn := C_bent 3
abbrev Claw : Cn := fun rs g Q => ∃ (ns : List Int), rs = [.scr ns] ∧ g = none ∧ ns.length ≤ 100 ∧ ∀ g', Q (.d (.bool true)) g'
def wlaw : WS :=
  (sSeq (sFor (iRg1 (aCons (eOp addD (eC (.int 1)) (eCB min2C (aCons (eCB lenC (aCons (eName 0) aNil)) (aCons (eC (.int 1)) aNil)))) aNil)) (gN 1)
  (sSeq (sSetG 2 C_law_begun (aCons (eName 0) (aCons (eName 1) aNil)))
  (sSeq (sIf (wNot (wTru (eCallG C_law_right (aCons (eName 2) aNil)))) (sRet (eC (.bool false))) sNil)
  (sSeq (sFor (iRg1 (aCons (eC (.int 3)) aNil)) (gN 3)
  (sSeq (sAsg (eCallG C_law_bent (aCons (eName 2) (aCons (eCallG C_law_drawn (aCons (eName 2) (aCons (eCallG C_law_of (aCons (eName 2) (aCons (eLst (aCons (eC (.int 2)) (aCons (eC (.int 1000)) (aCons (eC (.int 1001)) aNil)))) aNil))) aNil))) aNil))) (gN 4))
  (sIf (wB (eSc (eqD true) (eCB reprA (aCons (eCallP Cis_web (aCons (eName 4) aNil)) aNil)) (eCB reprA (aCons (eCallP C_law_is_web (aCons (eName 4) aNil)) aNil)))) (sRet (eC (.bool false))) sNil)))
  (sSeq (sAsg (eCallG C_law_drawn (aCons (eName 2) (aCons (eC (.int 1002)) aNil))) (gN 4))
  (sIf (wB (eSc (eqD true) (eCB reprA (aCons (eCallP Cis_web (aCons (eName 4) aNil)) aNil)) (eCB reprA (aCons (eCallP C_law_is_web (aCons (eName 4) aNil)) aNil)))) (sRet (eC (.bool false))) sNil))))))
  (sRet (eC (.bool true))))
theorem lenlaw (rs : List Rv) (g : Option Nat) (Q : Rv → Option Nat → Prop) (h : Claw rs g Q) : rs.length = 1 := by
  obtain ⟨a, rfl, _⟩ := h
  rfl
theorem speclaw (rs : List Rv) (g : Option Nat) (Q : Rv → Option Nat → Prop) (h : Claw rs g Q) : wlaw (startC 5 rs g) (endP Q) fun _ _ => False := by
  obtain ⟨ns, rfl, rfl, hl, hQ⟩ := h
  simp only [wlaw]
  simp -dsimp only [C_law_draw, C_law_of, C_law_begun, C_law_right, C_law_drawn, Cis_web, C_law_is_web, sSeq, sAsg, sRet, sIf, sExp, sFor_eq, sPar2, sPar3, sSetI_eq, sAug_eq, slotA_d, sSetG_eq, sRetG, sGL, sGP, sNil, sBrk, sCnt, sNo, eName_eq, slotE_d, slotE_gen, slotE_scr, slotE_own, eC, eOp, eUn, eSc, eScL, eScR, eCh, eAnd, eOr, eNot, eIf, eTup, eLst, eCB, eIx, eIxN, eSl, eSlN, eSlS, eAddN, eLenN, eApp, eExt, ePop, eCallP_eq, eCallG_eq, eIsi, eGL, eGS, eGC, eGP, aNil, aCons, wB_eq, wTru, wTruN, wAnd, wOr, wNot, wYes, gN, gT_d, gL_own, gL_d, gsC, gsN, oNone, oSome_eq, asI_i, iLst, iTpl, iRg1, iRg2, iEnm, iEnmT, iZp, iScr, eLc_eq, hasD, slotD_eq, slotK_d, slotK_own, ownD_eq, slotO_own, isOwn, scrD, putE, asDs, asD_d, asD_own, argR_d, argR_own, argR_gen, argR_scr, asL_own, asL_d, asT_d, asB_d, sub_i, iadd_i, mul_i, fdiv_i, mod_i, pow_i, lt_i, le_i, gt_i, ge_i, add_i, add_l, add_t, cat_i, cat_l, cat_t, neg_i, eqf_i, eqt_i, lenC_l, lenC_t, absC_i, intC_i, tupC_l, tupC_t, max2C_i, min2C_i, lenC_s, reprC_b, reprA_b, reprA_i, reprA_t, reprC_i, eqf_rb, eqt_rb, eqt_ri, slD_t, max3C_i, ixt0, ixt1, ixt2, ixt3, ixl0, ixl1, ixtl, ixll, truD, lenD, startC, endP, List.map_cons, List.map_nil, List.length_cons, List.length_nil, List.cons_append, List.nil_append, List.getElem?_cons_zero, List.getElem?_cons_succ, List.set_cons_zero, List.set_cons_succ, List.replicate_succ, List.replicate_zero, Nat.reduceSub, Nat.reduceAdd, Nat.reduceLT, Option.isSome_some, true_and, and_true, ne_eq, not_false_eq_true, reduceCtorEq, if_true, if_false, Bool.false_eq_true, decide_eq_true_eq, List.mem_cons, List.not_mem_nil, or_self, or_false, false_or]
  have hlo : 0 ≤ (if 1 < (ns.length : Int) then 1 else (ns.length : Int)) ∧ (if 1 < (ns.length : Int) then 1 else (ns.length : Int)) ≤ 1 := by split <;> omega
  generalize (if 1 < (ns.length : Int) then 1 else (ns.length : Int)) = tn at hlo ⊢
  refine ⟨by unfold smI; omega, ?_⟩
  refine forW_ind _ (fun i c => ∃ (x1 x3 x4 : Option Px) (x2 : Option Rv) (g : Option Nat), c = ⟨[some (.scr ns), x1.map .d, x2, x3.map .d, x4.map .d], g⟩) (fun i x c hx hI R hR => ?_) (fun c hI => ?_) _ ⟨none, none, none, none, none, rfl⟩
  · obtain ⟨x1, x3, x4, x2, g, rfl⟩ := hI
    obtain ⟨hi, rfl⟩ := rng_at hx
    have hi3 : i < 2 := by omega
    try simp -dsimp only [sSeq, sAsg, sRet, sIf, sExp, sFor_eq, sPar2, sPar3, sSetI_eq, sAug_eq, slotA_d, sSetG_eq, sRetG, sGL, sGP, sNil, sBrk, sCnt, sNo, eName_eq, slotE_d, slotE_gen, slotE_scr, slotE_own, eC, eOp, eUn, eSc, eScL, eScR, eCh, eAnd, eOr, eNot, eIf, eTup, eLst, eCB, eIx, eIxN, eSl, eSlN, eSlS, eAddN, eLenN, eApp, eExt, ePop, eCallP_eq, eCallG_eq, eIsi, eGL, eGS, eGC, eGP, aNil, aCons, wB_eq, wTru, wTruN, wAnd, wOr, wNot, wYes, gN, gT_d, gL_own, gL_d, gsC, gsN, oNone, oSome_eq, asI_i, iLst, iTpl, iRg1, iRg2, iEnm, iEnmT, iZp, iScr, eLc_eq, hasD, slotD_eq, slotK_d, slotK_own, ownD_eq, slotO_own, isOwn, scrD, putE, asDs, asD_d, asD_own, argR_d, argR_own, argR_gen, argR_scr, asL_own, asL_d, asT_d, asB_d, sub_i, iadd_i, mul_i, fdiv_i, mod_i, pow_i, lt_i, le_i, gt_i, ge_i, add_i, add_l, add_t, cat_i, cat_l, cat_t, neg_i, eqf_i, eqt_i, lenC_l, lenC_t, absC_i, intC_i, tupC_l, tupC_t, max2C_i, min2C_i, lenC_s, reprC_b, reprA_b, reprA_i, reprA_t, reprC_i, eqf_rb, eqt_rb, eqt_ri, slD_t, max3C_i, ixt0, ixt1, ixt2, ixt3, ixl0, ixl1, ixtl, ixll, truD, lenD, startC, endP, List.map_cons, List.map_nil, List.length_cons, List.length_nil, List.cons_append, List.nil_append, List.getElem?_cons_zero, List.getElem?_cons_succ, List.set_cons_zero, List.set_cons_succ, List.replicate_succ, List.replicate_zero, Nat.reduceSub, Nat.reduceAdd, Nat.reduceLT, Option.isSome_some, true_and, and_true, ne_eq, not_false_eq_true, reduceCtorEq, if_true, if_false, Bool.false_eq_true, decide_eq_true_eq, List.mem_cons, List.not_mem_nil, or_self, or_false, false_or]
    refine ⟨fun j hj => ?_, ns, 0 + i, rfl, rfl, by omega, by omega, hl, rfl, 0, rfl, ?_⟩
    · match j with
      | 0 => simp
      | 1 => simp
      | 2 => exact absurd rfl hj
      | 3 => simp
      | 4 => simp
      | n + 5 => simp
    try simp -dsimp only [sSeq, sAsg, sRet, sIf, sExp, sFor_eq, sPar2, sPar3, sSetI_eq, sAug_eq, slotA_d, sSetG_eq, sRetG, sGL, sGP, sNil, sBrk, sCnt, sNo, eName_eq, slotE_d, slotE_gen, slotE_scr, slotE_own, eC, eOp, eUn, eSc, eScL, eScR, eCh, eAnd, eOr, eNot, eIf, eTup, eLst, eCB, eIx, eIxN, eSl, eSlN, eSlS, eAddN, eLenN, eApp, eExt, ePop, eCallP_eq, eCallG_eq, eIsi, eGL, eGS, eGC, eGP, aNil, aCons, wB_eq, wTru, wTruN, wAnd, wOr, wNot, wYes, gN, gT_d, gL_own, gL_d, gsC, gsN, oNone, oSome_eq, asI_i, iLst, iTpl, iRg1, iRg2, iEnm, iEnmT, iZp, iScr, eLc_eq, hasD, slotD_eq, slotK_d, slotK_own, ownD_eq, slotO_own, isOwn, scrD, putE, asDs, asD_d, asD_own, argR_d, argR_own, argR_gen, argR_scr, asL_own, asL_d, asT_d, asB_d, sub_i, iadd_i, mul_i, fdiv_i, mod_i, pow_i, lt_i, le_i, gt_i, ge_i, add_i, add_l, add_t, cat_i, cat_l, cat_t, neg_i, eqf_i, eqt_i, lenC_l, lenC_t, absC_i, intC_i, tupC_l, tupC_t, max2C_i, min2C_i, lenC_s, reprC_b, reprA_b, reprA_i, reprA_t, reprC_i, eqf_rb, eqt_rb, eqt_ri, slD_t, max3C_i, ixt0, ixt1, ixt2, ixt3, ixl0, ixl1, ixtl, ixll, truD, lenD, startC, endP, List.map_cons, List.map_nil, List.length_cons, List.length_nil, List.cons_append, List.nil_append, List.getElem?_cons_zero, List.getElem?_cons_succ, List.set_cons_zero, List.set_cons_succ, List.replicate_succ, List.replicate_zero, Nat.reduceSub, Nat.reduceAdd, Nat.reduceLT, Option.isSome_some, true_and, and_true, ne_eq, not_false_eq_true, reduceCtorEq, if_true, if_false, Bool.false_eq_true, decide_eq_true_eq, List.mem_cons, List.not_mem_nil, or_self, or_false, false_or]
    refine ⟨0, rfl, rfl, by omega, fun m1 hm1 => ?_⟩
    simp -dsimp only [Bool.not_true, sSeq, sAsg, sRet, sIf, sExp, sFor_eq, sPar2, sPar3, sSetI_eq, sAug_eq, slotA_d, sSetG_eq, sRetG, sGL, sGP, sNil, sBrk, sCnt, sNo, eName_eq, slotE_d, slotE_gen, slotE_scr, slotE_own, eC, eOp, eUn, eSc, eScL, eScR, eCh, eAnd, eOr, eNot, eIf, eTup, eLst, eCB, eIx, eIxN, eSl, eSlN, eSlS, eAddN, eLenN, eApp, eExt, ePop, eCallP_eq, eCallG_eq, eIsi, eGL, eGS, eGC, eGP, aNil, aCons, wB_eq, wTru, wTruN, wAnd, wOr, wNot, wYes, gN, gT_d, gL_own, gL_d, gsC, gsN, oNone, oSome_eq, asI_i, iLst, iTpl, iRg1, iRg2, iEnm, iEnmT, iZp, iScr, eLc_eq, hasD, slotD_eq, slotK_d, slotK_own, ownD_eq, slotO_own, isOwn, scrD, putE, asDs, asD_d, asD_own, argR_d, argR_own, argR_gen, argR_scr, asL_own, asL_d, asT_d, asB_d, sub_i, iadd_i, mul_i, fdiv_i, mod_i, pow_i, lt_i, le_i, gt_i, ge_i, add_i, add_l, add_t, cat_i, cat_l, cat_t, neg_i, eqf_i, eqt_i, lenC_l, lenC_t, absC_i, intC_i, tupC_l, tupC_t, max2C_i, min2C_i, lenC_s, reprC_b, reprA_b, reprA_i, reprA_t, reprC_i, eqf_rb, eqt_rb, eqt_ri, slD_t, max3C_i, ixt0, ixt1, ixt2, ixt3, ixl0, ixl1, ixtl, ixll, truD, lenD, startC, endP, List.map_cons, List.map_nil, List.length_cons, List.length_nil, List.cons_append, List.nil_append, List.getElem?_cons_zero, List.getElem?_cons_succ, List.set_cons_zero, List.set_cons_succ, List.replicate_succ, List.replicate_zero, Nat.reduceSub, Nat.reduceAdd, Nat.reduceLT, Option.isSome_some, true_and, and_true, ne_eq, not_false_eq_true, reduceCtorEq, if_true, if_false, Bool.false_eq_true, decide_eq_true_eq, List.mem_cons, List.not_mem_nil, or_self, or_false, false_or]
    refine ⟨by unfold smI; omega, ?_⟩
    refine forW_ind _ (fun j c => ∃ (x3 x4 : Option Px) (m : Nat), m ≤ 1000 + 900 * j ∧ c = ⟨[some (.scr ns), some (.d (.int (0 + i))), some .gen, x3.map .d, x4.map .d], some m⟩) (fun j x c hx hI R2 hR2 => ?_) (fun c hI => ?_) _ ⟨x3, x4, m1, by omega, rfl⟩
    · obtain ⟨x3, x4, m, hm, rfl⟩ := hI
      obtain ⟨hj, rfl⟩ := rng_at hx
      have hj3 : j < 3 := hj
      try simp -dsimp only [sSeq, sAsg, sRet, sIf, sExp, sFor_eq, sPar2, sPar3, sSetI_eq, sAug_eq, slotA_d, sSetG_eq, sRetG, sGL, sGP, sNil, sBrk, sCnt, sNo, eName_eq, slotE_d, slotE_gen, slotE_scr, slotE_own, eC, eOp, eUn, eSc, eScL, eScR, eCh, eAnd, eOr, eNot, eIf, eTup, eLst, eCB, eIx, eIxN, eSl, eSlN, eSlS, eAddN, eLenN, eApp, eExt, ePop, eCallP_eq, eCallG_eq, eIsi, eGL, eGS, eGC, eGP, aNil, aCons, wB_eq, wTru, wTruN, wAnd, wOr, wNot, wYes, gN, gT_d, gL_own, gL_d, gsC, gsN, oNone, oSome_eq, asI_i, iLst, iTpl, iRg1, iRg2, iEnm, iEnmT, iZp, iScr, eLc_eq, hasD, slotD_eq, slotK_d, slotK_own, ownD_eq, slotO_own, isOwn, scrD, putE, asDs, asD_d, asD_own, argR_d, argR_own, argR_gen, argR_scr, asL_own, asL_d, asT_d, asB_d, sub_i, iadd_i, mul_i, fdiv_i, mod_i, pow_i, lt_i, le_i, gt_i, ge_i, add_i, add_l, add_t, cat_i, cat_l, cat_t, neg_i, eqf_i, eqt_i, lenC_l, lenC_t, absC_i, intC_i, tupC_l, tupC_t, max2C_i, min2C_i, lenC_s, reprC_b, reprA_b, reprA_i, reprA_t, reprC_i, eqf_rb, eqt_rb, eqt_ri, slD_t, max3C_i, ixt0, ixt1, ixt2, ixt3, ixl0, ixl1, ixtl, ixll, truD, lenD, startC, endP, List.map_cons, List.map_nil, List.length_cons, List.length_nil, List.cons_append, List.nil_append, List.getElem?_cons_zero, List.getElem?_cons_succ, List.set_cons_zero, List.set_cons_succ, List.replicate_succ, List.replicate_zero, Nat.reduceSub, Nat.reduceAdd, Nat.reduceLT, Option.isSome_some, true_and, and_true, ne_eq, not_false_eq_true, reduceCtorEq, if_true, if_false, Bool.false_eq_true, decide_eq_true_eq, List.mem_cons, List.not_mem_nil, or_self, or_false, false_or]
      refine ⟨by decide, _, m, rfl, rfl, by omega, by simp, by simp, fun sx hsx m2 hm2 => ?_⟩
      have hs : ∃ s : Int, sx = .int s ∧ 0 < s ∧ s ≤ 1001 := by
        simp only [List.mem_cons, List.not_mem_nil, or_false] at hsx
        rcases hsx with h | h | h
        · exact ⟨2, h, by decide, by decide⟩
        · exact ⟨1000, h, by decide, by decide⟩
        · exact ⟨1001, h, by decide, by decide⟩
      obtain ⟨gr, rfl, hg1, hg2⟩ := hs
      try simp -dsimp only [sSeq, sAsg, sRet, sIf, sExp, sFor_eq, sPar2, sPar3, sSetI_eq, sAug_eq, slotA_d, sSetG_eq, sRetG, sGL, sGP, sNil, sBrk, sCnt, sNo, eName_eq, slotE_d, slotE_gen, slotE_scr, slotE_own, eC, eOp, eUn, eSc, eScL, eScR, eCh, eAnd, eOr, eNot, eIf, eTup, eLst, eCB, eIx, eIxN, eSl, eSlN, eSlS, eAddN, eLenN, eApp, eExt, ePop, eCallP_eq, eCallG_eq, eIsi, eGL, eGS, eGC, eGP, aNil, aCons, wB_eq, wTru, wTruN, wAnd, wOr, wNot, wYes, gN, gT_d, gL_own, gL_d, gsC, gsN, oNone, oSome_eq, asI_i, iLst, iTpl, iRg1, iRg2, iEnm, iEnmT, iZp, iScr, eLc_eq, hasD, slotD_eq, slotK_d, slotK_own, ownD_eq, slotO_own, isOwn, scrD, putE, asDs, asD_d, asD_own, argR_d, argR_own, argR_gen, argR_scr, asL_own, asL_d, asT_d, asB_d, sub_i, iadd_i, mul_i, fdiv_i, mod_i, pow_i, lt_i, le_i, gt_i, ge_i, add_i, add_l, add_t, cat_i, cat_l, cat_t, neg_i, eqf_i, eqt_i, lenC_l, lenC_t, absC_i, intC_i, tupC_l, tupC_t, max2C_i, min2C_i, lenC_s, reprC_b, reprA_b, reprA_i, reprA_t, reprC_i, eqf_rb, eqt_rb, eqt_ri, slD_t, max3C_i, ixt0, ixt1, ixt2, ixt3, ixl0, ixl1, ixtl, ixll, truD, lenD, startC, endP, List.map_cons, List.map_nil, List.length_cons, List.length_nil, List.cons_append, List.nil_append, List.getElem?_cons_zero, List.getElem?_cons_succ, List.set_cons_zero, List.set_cons_succ, List.replicate_succ, List.replicate_zero, Nat.reduceSub, Nat.reduceAdd, Nat.reduceLT, Option.isSome_some, true_and, and_true, ne_eq, not_false_eq_true, reduceCtorEq, if_true, if_false, Bool.false_eq_true, decide_eq_true_eq, List.mem_cons, List.not_mem_nil, or_self, or_false, false_or]
      refine ⟨gr, m2, rfl, rfl, by omega, hg1, by omega, fun w m3 hwo hw5 hw7 hm3 => ?_⟩
      try simp -dsimp only [sSeq, sAsg, sRet, sIf, sExp, sFor_eq, sPar2, sPar3, sSetI_eq, sAug_eq, slotA_d, sSetG_eq, sRetG, sGL, sGP, sNil, sBrk, sCnt, sNo, eName_eq, slotE_d, slotE_gen, slotE_scr, slotE_own, eC, eOp, eUn, eSc, eScL, eScR, eCh, eAnd, eOr, eNot, eIf, eTup, eLst, eCB, eIx, eIxN, eSl, eSlN, eSlS, eAddN, eLenN, eApp, eExt, ePop, eCallP_eq, eCallG_eq, eIsi, eGL, eGS, eGC, eGP, aNil, aCons, wB_eq, wTru, wTruN, wAnd, wOr, wNot, wYes, gN, gT_d, gL_own, gL_d, gsC, gsN, oNone, oSome_eq, asI_i, iLst, iTpl, iRg1, iRg2, iEnm, iEnmT, iZp, iScr, eLc_eq, hasD, slotD_eq, slotK_d, slotK_own, ownD_eq, slotO_own, isOwn, scrD, putE, asDs, asD_d, asD_own, argR_d, argR_own, argR_gen, argR_scr, asL_own, asL_d, asT_d, asB_d, sub_i, iadd_i, mul_i, fdiv_i, mod_i, pow_i, lt_i, le_i, gt_i, ge_i, add_i, add_l, add_t, cat_i, cat_l, cat_t, neg_i, eqf_i, eqt_i, lenC_l, lenC_t, absC_i, intC_i, tupC_l, tupC_t, max2C_i, min2C_i, lenC_s, reprC_b, reprA_b, reprA_i, reprA_t, reprC_i, eqf_rb, eqt_rb, eqt_ri, slD_t, max3C_i, ixt0, ixt1, ixt2, ixt3, ixl0, ixl1, ixtl, ixll, truD, lenD, startC, endP, List.map_cons, List.map_nil, List.length_cons, List.length_nil, List.cons_append, List.nil_append, List.getElem?_cons_zero, List.getElem?_cons_succ, List.set_cons_zero, List.set_cons_succ, List.replicate_succ, List.replicate_zero, Nat.reduceSub, Nat.reduceAdd, Nat.reduceLT, Option.isSome_some, true_and, and_true, ne_eq, not_false_eq_true, reduceCtorEq, if_true, if_false, Bool.false_eq_true, decide_eq_true_eq, List.mem_cons, List.not_mem_nil, or_self, or_false, false_or]
      refine ⟨eW w, m3, rfl, rfl, by omega, nice_eW w, ⟨by decide, sh_eW (by omega)⟩, fun y m4 hy hm4 => ?_⟩
      try simp -dsimp only [sSeq, sAsg, sRet, sIf, sExp, sFor_eq, sPar2, sPar3, sSetI_eq, sAug_eq, slotA_d, sSetG_eq, sRetG, sGL, sGP, sNil, sBrk, sCnt, sNo, eName_eq, slotE_d, slotE_gen, slotE_scr, slotE_own, eC, eOp, eUn, eSc, eScL, eScR, eCh, eAnd, eOr, eNot, eIf, eTup, eLst, eCB, eIx, eIxN, eSl, eSlN, eSlS, eAddN, eLenN, eApp, eExt, ePop, eCallP_eq, eCallG_eq, eIsi, eGL, eGS, eGC, eGP, aNil, aCons, wB_eq, wTru, wTruN, wAnd, wOr, wNot, wYes, gN, gT_d, gL_own, gL_d, gsC, gsN, oNone, oSome_eq, asI_i, iLst, iTpl, iRg1, iRg2, iEnm, iEnmT, iZp, iScr, eLc_eq, hasD, slotD_eq, slotK_d, slotK_own, ownD_eq, slotO_own, isOwn, scrD, putE, asDs, asD_d, asD_own, argR_d, argR_own, argR_gen, argR_scr, asL_own, asL_d, asT_d, asB_d, sub_i, iadd_i, mul_i, fdiv_i, mod_i, pow_i, lt_i, le_i, gt_i, ge_i, add_i, add_l, add_t, cat_i, cat_l, cat_t, neg_i, eqf_i, eqt_i, lenC_l, lenC_t, absC_i, intC_i, tupC_l, tupC_t, max2C_i, min2C_i, lenC_s, reprC_b, reprA_b, reprA_i, reprA_t, reprC_i, eqf_rb, eqt_rb, eqt_ri, slD_t, max3C_i, ixt0, ixt1, ixt2, ixt3, ixl0, ixl1, ixtl, ixll, truD, lenD, startC, endP, List.map_cons, List.map_nil, List.length_cons, List.length_nil, List.cons_append, List.nil_append, List.getElem?_cons_zero, List.getElem?_cons_succ, List.set_cons_zero, List.set_cons_succ, List.replicate_succ, List.replicate_zero, Nat.reduceSub, Nat.reduceAdd, Nat.reduceLT, Option.isSome_some, true_and, and_true, ne_eq, not_false_eq_true, reduceCtorEq, if_true, if_false, Bool.false_eq_true, decide_eq_true_eq, List.mem_cons, List.not_mem_nil, or_self, or_false, false_or]
      refine ⟨y, rfl, hy.ni, ?_⟩
      try simp -dsimp only [sSeq, sAsg, sRet, sIf, sExp, sFor_eq, sPar2, sPar3, sSetI_eq, sAug_eq, slotA_d, sSetG_eq, sRetG, sGL, sGP, sNil, sBrk, sCnt, sNo, eName_eq, slotE_d, slotE_gen, slotE_scr, slotE_own, eC, eOp, eUn, eSc, eScL, eScR, eCh, eAnd, eOr, eNot, eIf, eTup, eLst, eCB, eIx, eIxN, eSl, eSlN, eSlS, eAddN, eLenN, eApp, eExt, ePop, eCallP_eq, eCallG_eq, eIsi, eGL, eGS, eGC, eGP, aNil, aCons, wB_eq, wTru, wTruN, wAnd, wOr, wNot, wYes, gN, gT_d, gL_own, gL_d, gsC, gsN, oNone, oSome_eq, asI_i, iLst, iTpl, iRg1, iRg2, iEnm, iEnmT, iZp, iScr, eLc_eq, hasD, slotD_eq, slotK_d, slotK_own, ownD_eq, slotO_own, isOwn, scrD, putE, asDs, asD_d, asD_own, argR_d, argR_own, argR_gen, argR_scr, asL_own, asL_d, asT_d, asB_d, sub_i, iadd_i, mul_i, fdiv_i, mod_i, pow_i, lt_i, le_i, gt_i, ge_i, add_i, add_l, add_t, cat_i, cat_l, cat_t, neg_i, eqf_i, eqt_i, lenC_l, lenC_t, absC_i, intC_i, tupC_l, tupC_t, max2C_i, min2C_i, lenC_s, reprC_b, reprA_b, reprA_i, reprA_t, reprC_i, eqf_rb, eqt_rb, eqt_ri, slD_t, max3C_i, ixt0, ixt1, ixt2, ixt3, ixl0, ixl1, ixtl, ixll, truD, lenD, startC, endP, List.map_cons, List.map_nil, List.length_cons, List.length_nil, List.cons_append, List.nil_append, List.getElem?_cons_zero, List.getElem?_cons_succ, List.set_cons_zero, List.set_cons_succ, List.replicate_succ, List.replicate_zero, Nat.reduceSub, Nat.reduceAdd, Nat.reduceLT, Option.isSome_some, true_and, and_true, ne_eq, not_false_eq_true, reduceCtorEq, if_true, if_false, Bool.false_eq_true, decide_eq_true_eq, List.mem_cons, List.not_mem_nil, or_self, or_false, false_or]
      refine ⟨y, rfl, ⟨hy.ni, Shp.up hy.sh (by decide)⟩, ?_⟩
      simp -dsimp only [beq_self_eq_true, Bool.not_true, sSeq, sAsg, sRet, sIf, sExp, sFor_eq, sPar2, sPar3, sSetI_eq, sAug_eq, slotA_d, sSetG_eq, sRetG, sGL, sGP, sNil, sBrk, sCnt, sNo, eName_eq, slotE_d, slotE_gen, slotE_scr, slotE_own, eC, eOp, eUn, eSc, eScL, eScR, eCh, eAnd, eOr, eNot, eIf, eTup, eLst, eCB, eIx, eIxN, eSl, eSlN, eSlS, eAddN, eLenN, eApp, eExt, ePop, eCallP_eq, eCallG_eq, eIsi, eGL, eGS, eGC, eGP, aNil, aCons, wB_eq, wTru, wTruN, wAnd, wOr, wNot, wYes, gN, gT_d, gL_own, gL_d, gsC, gsN, oNone, oSome_eq, asI_i, iLst, iTpl, iRg1, iRg2, iEnm, iEnmT, iZp, iScr, eLc_eq, hasD, slotD_eq, slotK_d, slotK_own, ownD_eq, slotO_own, isOwn, scrD, putE, asDs, asD_d, asD_own, argR_d, argR_own, argR_gen, argR_scr, asL_own, asL_d, asT_d, asB_d, sub_i, iadd_i, mul_i, fdiv_i, mod_i, pow_i, lt_i, le_i, gt_i, ge_i, add_i, add_l, add_t, cat_i, cat_l, cat_t, neg_i, eqf_i, eqt_i, lenC_l, lenC_t, absC_i, intC_i, tupC_l, tupC_t, max2C_i, min2C_i, lenC_s, reprC_b, reprA_b, reprA_i, reprA_t, reprC_i, eqf_rb, eqt_rb, eqt_ri, slD_t, max3C_i, ixt0, ixt1, ixt2, ixt3, ixl0, ixl1, ixtl, ixll, truD, lenD, startC, endP, List.map_cons, List.map_nil, List.length_cons, List.length_nil, List.cons_append, List.nil_append, List.getElem?_cons_zero, List.getElem?_cons_succ, List.set_cons_zero, List.set_cons_succ, List.replicate_succ, List.replicate_zero, Nat.reduceSub, Nat.reduceAdd, Nat.reduceLT, Option.isSome_some, true_and, and_true, ne_eq, not_false_eq_true, reduceCtorEq, if_true, if_false, Bool.false_eq_true, decide_eq_true_eq, List.mem_cons, List.not_mem_nil, or_self, or_false, false_or]
      exact hR2 _ ⟨some (.int (0 + j)), some y, m4, by omega, rfl⟩
    · obtain ⟨x3, x4, m, hm, rfl⟩ := hI
      rw [rngX_length] at hm
      have hm2 : m ≤ 3700 := by have : Int.toNat 3 = 3 := rfl; omega
      try simp -dsimp only [sSeq, sAsg, sRet, sIf, sExp, sFor_eq, sPar2, sPar3, sSetI_eq, sAug_eq, slotA_d, sSetG_eq, sRetG, sGL, sGP, sNil, sBrk, sCnt, sNo, eName_eq, slotE_d, slotE_gen, slotE_scr, slotE_own, eC, eOp, eUn, eSc, eScL, eScR, eCh, eAnd, eOr, eNot, eIf, eTup, eLst, eCB, eIx, eIxN, eSl, eSlN, eSlS, eAddN, eLenN, eApp, eExt, ePop, eCallP_eq, eCallG_eq, eIsi, eGL, eGS, eGC, eGP, aNil, aCons, wB_eq, wTru, wTruN, wAnd, wOr, wNot, wYes, gN, gT_d, gL_own, gL_d, gsC, gsN, oNone, oSome_eq, asI_i, iLst, iTpl, iRg1, iRg2, iEnm, iEnmT, iZp, iScr, eLc_eq, hasD, slotD_eq, slotK_d, slotK_own, ownD_eq, slotO_own, isOwn, scrD, putE, asDs, asD_d, asD_own, argR_d, argR_own, argR_gen, argR_scr, asL_own, asL_d, asT_d, asB_d, sub_i, iadd_i, mul_i, fdiv_i, mod_i, pow_i, lt_i, le_i, gt_i, ge_i, add_i, add_l, add_t, cat_i, cat_l, cat_t, neg_i, eqf_i, eqt_i, lenC_l, lenC_t, absC_i, intC_i, tupC_l, tupC_t, max2C_i, min2C_i, lenC_s, reprC_b, reprA_b, reprA_i, reprA_t, reprC_i, eqf_rb, eqt_rb, eqt_ri, slD_t, max3C_i, ixt0, ixt1, ixt2, ixt3, ixl0, ixl1, ixtl, ixll, truD, lenD, startC, endP, List.map_cons, List.map_nil, List.length_cons, List.length_nil, List.cons_append, List.nil_append, List.getElem?_cons_zero, List.getElem?_cons_succ, List.set_cons_zero, List.set_cons_succ, List.replicate_succ, List.replicate_zero, Nat.reduceSub, Nat.reduceAdd, Nat.reduceLT, Option.isSome_some, true_and, and_true, ne_eq, not_false_eq_true, reduceCtorEq, if_true, if_false, Bool.false_eq_true, decide_eq_true_eq, List.mem_cons, List.not_mem_nil, or_self, or_false, false_or]
      refine ⟨1002, m, rfl, rfl, by omega, by decide, by decide, fun w m3 hwo hw5 hw7 hm3 => ?_⟩
      try simp -dsimp only [sSeq, sAsg, sRet, sIf, sExp, sFor_eq, sPar2, sPar3, sSetI_eq, sAug_eq, slotA_d, sSetG_eq, sRetG, sGL, sGP, sNil, sBrk, sCnt, sNo, eName_eq, slotE_d, slotE_gen, slotE_scr, slotE_own, eC, eOp, eUn, eSc, eScL, eScR, eCh, eAnd, eOr, eNot, eIf, eTup, eLst, eCB, eIx, eIxN, eSl, eSlN, eSlS, eAddN, eLenN, eApp, eExt, ePop, eCallP_eq, eCallG_eq, eIsi, eGL, eGS, eGC, eGP, aNil, aCons, wB_eq, wTru, wTruN, wAnd, wOr, wNot, wYes, gN, gT_d, gL_own, gL_d, gsC, gsN, oNone, oSome_eq, asI_i, iLst, iTpl, iRg1, iRg2, iEnm, iEnmT, iZp, iScr, eLc_eq, hasD, slotD_eq, slotK_d, slotK_own, ownD_eq, slotO_own, isOwn, scrD, putE, asDs, asD_d, asD_own, argR_d, argR_own, argR_gen, argR_scr, asL_own, asL_d, asT_d, asB_d, sub_i, iadd_i, mul_i, fdiv_i, mod_i, pow_i, lt_i, le_i, gt_i, ge_i, add_i, add_l, add_t, cat_i, cat_l, cat_t, neg_i, eqf_i, eqt_i, lenC_l, lenC_t, absC_i, intC_i, tupC_l, tupC_t, max2C_i, min2C_i, lenC_s, reprC_b, reprA_b, reprA_i, reprA_t, reprC_i, eqf_rb, eqt_rb, eqt_ri, slD_t, max3C_i, ixt0, ixt1, ixt2, ixt3, ixl0, ixl1, ixtl, ixll, truD, lenD, startC, endP, List.map_cons, List.map_nil, List.length_cons, List.length_nil, List.cons_append, List.nil_append, List.getElem?_cons_zero, List.getElem?_cons_succ, List.set_cons_zero, List.set_cons_succ, List.replicate_succ, List.replicate_zero, Nat.reduceSub, Nat.reduceAdd, Nat.reduceLT, Option.isSome_some, true_and, and_true, ne_eq, not_false_eq_true, reduceCtorEq, if_true, if_false, Bool.false_eq_true, decide_eq_true_eq, List.mem_cons, List.not_mem_nil, or_self, or_false, false_or]
      refine ⟨eW w, rfl, nice_eW w, ?_⟩
      try simp -dsimp only [sSeq, sAsg, sRet, sIf, sExp, sFor_eq, sPar2, sPar3, sSetI_eq, sAug_eq, slotA_d, sSetG_eq, sRetG, sGL, sGP, sNil, sBrk, sCnt, sNo, eName_eq, slotE_d, slotE_gen, slotE_scr, slotE_own, eC, eOp, eUn, eSc, eScL, eScR, eCh, eAnd, eOr, eNot, eIf, eTup, eLst, eCB, eIx, eIxN, eSl, eSlN, eSlS, eAddN, eLenN, eApp, eExt, ePop, eCallP_eq, eCallG_eq, eIsi, eGL, eGS, eGC, eGP, aNil, aCons, wB_eq, wTru, wTruN, wAnd, wOr, wNot, wYes, gN, gT_d, gL_own, gL_d, gsC, gsN, oNone, oSome_eq, asI_i, iLst, iTpl, iRg1, iRg2, iEnm, iEnmT, iZp, iScr, eLc_eq, hasD, slotD_eq, slotK_d, slotK_own, ownD_eq, slotO_own, isOwn, scrD, putE, asDs, asD_d, asD_own, argR_d, argR_own, argR_gen, argR_scr, asL_own, asL_d, asT_d, asB_d, sub_i, iadd_i, mul_i, fdiv_i, mod_i, pow_i, lt_i, le_i, gt_i, ge_i, add_i, add_l, add_t, cat_i, cat_l, cat_t, neg_i, eqf_i, eqt_i, lenC_l, lenC_t, absC_i, intC_i, tupC_l, tupC_t, max2C_i, min2C_i, lenC_s, reprC_b, reprA_b, reprA_i, reprA_t, reprC_i, eqf_rb, eqt_rb, eqt_ri, slD_t, max3C_i, ixt0, ixt1, ixt2, ixt3, ixl0, ixl1, ixtl, ixll, truD, lenD, startC, endP, List.map_cons, List.map_nil, List.length_cons, List.length_nil, List.cons_append, List.nil_append, List.getElem?_cons_zero, List.getElem?_cons_succ, List.set_cons_zero, List.set_cons_succ, List.replicate_succ, List.replicate_zero, Nat.reduceSub, Nat.reduceAdd, Nat.reduceLT, Option.isSome_some, true_and, and_true, ne_eq, not_false_eq_true, reduceCtorEq, if_true, if_false, Bool.false_eq_true, decide_eq_true_eq, List.mem_cons, List.not_mem_nil, or_self, or_false, false_or]
      refine ⟨eW w, rfl, ⟨nice_eW w, shp_eW w⟩, ?_⟩
      simp -dsimp only [beq_self_eq_true, Bool.not_true, sSeq, sAsg, sRet, sIf, sExp, sFor_eq, sPar2, sPar3, sSetI_eq, sAug_eq, slotA_d, sSetG_eq, sRetG, sGL, sGP, sNil, sBrk, sCnt, sNo, eName_eq, slotE_d, slotE_gen, slotE_scr, slotE_own, eC, eOp, eUn, eSc, eScL, eScR, eCh, eAnd, eOr, eNot, eIf, eTup, eLst, eCB, eIx, eIxN, eSl, eSlN, eSlS, eAddN, eLenN, eApp, eExt, ePop, eCallP_eq, eCallG_eq, eIsi, eGL, eGS, eGC, eGP, aNil, aCons, wB_eq, wTru, wTruN, wAnd, wOr, wNot, wYes, gN, gT_d, gL_own, gL_d, gsC, gsN, oNone, oSome_eq, asI_i, iLst, iTpl, iRg1, iRg2, iEnm, iEnmT, iZp, iScr, eLc_eq, hasD, slotD_eq, slotK_d, slotK_own, ownD_eq, slotO_own, isOwn, scrD, putE, asDs, asD_d, asD_own, argR_d, argR_own, argR_gen, argR_scr, asL_own, asL_d, asT_d, asB_d, sub_i, iadd_i, mul_i, fdiv_i, mod_i, pow_i, lt_i, le_i, gt_i, ge_i, add_i, add_l, add_t, cat_i, cat_l, cat_t, neg_i, eqf_i, eqt_i, lenC_l, lenC_t, absC_i, intC_i, tupC_l, tupC_t, max2C_i, min2C_i, lenC_s, reprC_b, reprA_b, reprA_i, reprA_t, reprC_i, eqf_rb, eqt_rb, eqt_ri, slD_t, max3C_i, ixt0, ixt1, ixt2, ixt3, ixl0, ixl1, ixtl, ixll, truD, lenD, startC, endP, List.map_cons, List.map_nil, List.length_cons, List.length_nil, List.cons_append, List.nil_append, List.getElem?_cons_zero, List.getElem?_cons_succ, List.set_cons_zero, List.set_cons_succ, List.replicate_succ, List.replicate_zero, Nat.reduceSub, Nat.reduceAdd, Nat.reduceLT, Option.isSome_some, true_and, and_true, ne_eq, not_false_eq_true, reduceCtorEq, if_true, if_false, Bool.false_eq_true, decide_eq_true_eq, List.mem_cons, List.not_mem_nil, or_self, or_false, false_or]
      exact hR _ ⟨some (.int (0 + i)), x3, some (eW w), some .gen, some m3, rfl⟩
  · obtain ⟨x1, x3, x4, x2, g, rfl⟩ := hI
    try simp -dsimp only [sSeq, sAsg, sRet, sIf, sExp, sFor_eq, sPar2, sPar3, sSetI_eq, sAug_eq, slotA_d, sSetG_eq, sRetG, sGL, sGP, sNil, sBrk, sCnt, sNo, eName_eq, slotE_d, slotE_gen, slotE_scr, slotE_own, eC, eOp, eUn, eSc, eScL, eScR, eCh, eAnd, eOr, eNot, eIf, eTup, eLst, eCB, eIx, eIxN, eSl, eSlN, eSlS, eAddN, eLenN, eApp, eExt, ePop, eCallP_eq, eCallG_eq, eIsi, eGL, eGS, eGC, eGP, aNil, aCons, wB_eq, wTru, wTruN, wAnd, wOr, wNot, wYes, gN, gT_d, gL_own, gL_d, gsC, gsN, oNone, oSome_eq, asI_i, iLst, iTpl, iRg1, iRg2, iEnm, iEnmT, iZp, iScr, eLc_eq, hasD, slotD_eq, slotK_d, slotK_own, ownD_eq, slotO_own, isOwn, scrD, putE, asDs, asD_d, asD_own, argR_d, argR_own, argR_gen, argR_scr, asL_own, asL_d, asT_d, asB_d, sub_i, iadd_i, mul_i, fdiv_i, mod_i, pow_i, lt_i, le_i, gt_i, ge_i, add_i, add_l, add_t, cat_i, cat_l, cat_t, neg_i, eqf_i, eqt_i, lenC_l, lenC_t, absC_i, intC_i, tupC_l, tupC_t, max2C_i, min2C_i, lenC_s, reprC_b, reprA_b, reprA_i, reprA_t, reprC_i, eqf_rb, eqt_rb, eqt_ri, slD_t, max3C_i, ixt0, ixt1, ixt2, ixt3, ixl0, ixl1, ixtl, ixll, truD, lenD, startC, endP, List.map_cons, List.map_nil, List.length_cons, List.length_nil, List.cons_append, List.nil_append, List.getElem?_cons_zero, List.getElem?_cons_succ, List.set_cons_zero, List.set_cons_succ, List.replicate_succ, List.replicate_zero, Nat.reduceSub, Nat.reduceAdd, Nat.reduceLT, Option.isSome_some, true_and, and_true, ne_eq, not_false_eq_true, reduceCtorEq, if_true, if_false, Bool.false_eq_true, decide_eq_true_eq, List.mem_cons, List.not_mem_nil, or_self, or_false, false_or]
    exact hQ _
end K

set_option Elab.async false
set_option maxRecDepth 100000
set_option linter.all false
set_option autoImplicit false
set_option maxHeartbeats 4000000
namespace K
open PySem L2 Dl
def top (i : Nat) : Stmt := PySem.Challenge.pw_tubewords_k01_webs_judged.main.body.getD i (.Pass ⟨0, 0, 0, 0⟩)
theorem def_fn {P : Program} {w : World} {K : PySem.W.Frag} {mg : Str → Option Value} {base : Heap} {x qual : Str} {st : Stmt} {f : Addr} {fd : FuncData} {N ps : List Str} {k : Nat} {Pr : Cn} (nog : Bool) (F : FunD K x qual (defArgs st) (defBody st) (defScope st) [] [] f fd) (S : FnScope N ps (defScope st)) (hmg : mg x = some (.ref f)) (bi : Binds K fd ps [])
    (fw : WS) (len : ∀ rs g Q, Pr rs g Q → rs.length = ps.length) (hn : nog = true → ∀ rs g Q, Pr rs g Q → g = none) (spec : ∀ rs g Q, Pr rs g Q → fw (startC N.length rs g) (endP Q) fun _ _ => False)
    (hbody : ∀ (cdv : Value) (A : Around) (outer : List Env) (s : Shared) (H : Hp) (E : XK) (Δ : Dx), RoomG k (A.deeper (PyProof.Rows.envOfC qual (defScope st) s.heap.objs.size f cdv)) → Δ.K = K → (nog = true → Δ.a0 = none) →
      PSs (cxOf CX0 P w K mg base N qual (defScope st) f cdv A outer s H E).nox (defBody st) (tS Δ fw)) : FnG P w K mg base CX0 (k + 1) f fd ps (spD K Pr) := by
  refine fnG_of F S (fun vs H Q E h => ?_) (fun cdv A outer s H vs Q E hr h => ?_)
  · obtain ⟨am, G, rs, g, q, _, _, h3, h4, _⟩ := h
    rw [← h3.length]
    exact len rs g q h4
  · obtain ⟨am, G, rs, g, q, h1, h2, h3, h4, h5⟩ := h
    refine ⟨_, PSs.nox (hbody cdv A outer s H E (dx0 K am g G H) hr rfl (fun z => by rw [hn z rs g q h4]; rfl)), am, G, _, _, _, start_ok h1 h2 h3, spec rs g q h4, ⟨fun c am' F' σ' H' p l o => ?_, fun _ _ _ _ _ z => z.elim, fun _ _ _ _ _ z => z.elim, fun r g' am' F' H' v p l fn s => ?_⟩, fun _ _ _ _ _ z => z.elim⟩
    · exact h5 _ _ am' F' _ H' p l o.fin .non
    · exact h5 r g' am' F' v H' p l fn s
theorem nog_law_begun (rs : List Rv) (g : Option Nat) (Q : Rv → Option Nat → Prop) (h : C_law_begun rs g Q) : g = none := by
  obtain ⟨_, _, _, e, _⟩ := h
  exact e
theorem noglaw (rs : List Rv) (g : Option Nat) (Q : Rv → Option Nat → Prop) (h : Claw rs g Q) : g = none := by
  obtain ⟨_, _, e, _⟩ := h
  exact e
section
variable {P : Program} {w : World} {K : PySem.W.Frag} {mg : Str → Option Value} {base : Heap}
abbrev s_law_begun : Stmt := top 18
abbrev n_law_begun : List Str := ["script", "k", "cells", "cell", "great", "begun"]
abbrev p_law_begun : List Str := ["script", "k"]
theorem sc_law_begun : FnScope n_law_begun p_law_begun (defScope s_law_begun) := ⟨rfl, rfl, rfl, by decide +kernel, rfl, by decide +kernel, by decide +kernel⟩
theorem k_law_begun {f : Addr} {fd : FuncData} (F : FunD K "_law_begun" "_law_begun" (defArgs s_law_begun) (defBody s_law_begun) (defScope s_law_begun) [] [] f fd) (hm : mg "_law_begun" = some (.ref f)) (b_int : mg "int" = none) (b_len : mg "len" = none) : CalD P w K mg base 1 "_law_begun" C_law_begun := by
  have S := sc_law_begun
  refine def_ok true F S hm (F.bindsN fun _ _ _ _ _ _ us hl => match us, hl with | [_, _], _ => rfl) w_law_begun len_law_begun (fun _ => nog_law_begun) spec_law_begun (fun cdv A outer s H E Δ hr hK ha0 => ?_)
  have hu := hu_of hr.toRoom
  exact (dss_cons (ds_set 2 S.nd (de_op (do_add hK) (de_slS 0 hK (by rfl) (by first | exact Or.inl rfl | exact Or.inr (Or.inl rfl) | exact Or.inr (Or.inr rfl)) (by decide) (by decide) (do_some (de_name 1)) do_none) (de_slS 0 hK (by rfl) (by first | exact Or.inl rfl | exact Or.inr (Or.inl rfl) | exact Or.inr (Or.inr rfl)) (by decide) (by decide) do_none (do_some (de_name 1)))))
  (dss_cons (ds_setLc (own := [("cell", 3)]) 4 rfl rfl rfl (sw_true rfl rfl rfl (by decide +kernel)) S.nd (di_scr 0 hK (by rfl) (by first | exact Or.inl rfl | exact Or.inr (Or.inl rfl) | exact Or.inr (Or.inr rfl)) (by decide) (by decide)) (blkOk_by (own := [("cell", 3)]) (N := n_law_begun) (sc := defScope s_law_begun) (by decide +kernel)) (fun _ _ _ _ _ Δ _ => (dg_name 3 S.nd)) (fun _ _ _ _ _ Δ e1 => (pts_one (dt_cmpNL 3 sc_ge (de_op do_pow de_int de_int) (nomark _)))) (fun _ _ _ _ _ Δ e2 => (de_name 3)))
  (dss_cons (ds_set 5 S.nd (de_op (do_add hK) de_int (de_op do_mul' de_int (de_name 1))))
  (dss_cons (ds_for PassesOwn.never rfl (di_l (de_name 2)) (dg_name 3 S.nd)
  (dss_one (ds_set 5 S.nd (de_op do_mod' (de_ct cl_int (by rfl) b_int (by decide +kernel) (da_cons (de_op (do_add hK) (de_op do_mul' (de_name 5) de_int) (de_name 3)) da_nil)) de_int))))
  (dss_one (ds_retG (ha0 rfl) (fun Δ e3 => (de_if (dt_cmpNL 1 sc_lt (de_lenN 4 rfl (by rfl) b_len (by decide +kernel)) (nomark _)) (de_ixN 4 (de_name 1) (fun _ _ => rfl)) de_int)) (fun Δ e4 => (de_name 5)) (fun Δ e5 => (de_addN 2 (e5.trans hK) (de_lst (da_cons (de_op (do_add (e5.trans hK)) (de_op do_mul' de_int (de_name 1)) de_int) da_nil)))) (fun Δ e6 => de_int)))))))
abbrev s_law_draw : Stmt := top 19
abbrev n_law_draw : List Str := ["m", "below", "found", "spot", "cells", "added", "cell", "blend"]
abbrev p_law_draw : List Str := ["m", "below"]
theorem sc_law_draw : FnScope n_law_draw p_law_draw (defScope s_law_draw) := ⟨rfl, rfl, rfl, by decide +kernel, rfl, by decide +kernel, by decide +kernel⟩
theorem k_law_draw {f : Addr} {fd : FuncData} (F : FunD K "_law_draw" "_law_draw" (defArgs s_law_draw) (defBody s_law_draw) (defScope s_law_draw) [] [] f fd) (hm : mg "_law_draw" = some (.ref f)) (b_int : mg "int" = none) (b_len : mg "len" = none) : CalD P w K mg base 1 "_law_draw" C_law_draw := by
  have S := sc_law_draw
  refine def_ok false F S hm (F.bindsN fun _ _ _ _ _ _ us hl => match us, hl with | [_, _], _ => rfl) w_law_draw len_law_draw (fun z => nomatch z) spec_law_draw (fun cdv A outer s H E Δ hr hK ha0 => ?_)
  have hu := hu_of hr.toRoom
  exact (dss_cons (ds_if (dt_cmp sc_gt (de_gl 0 hu (by rfl) (by first | exact Or.inl rfl | exact Or.inr (Or.inl rfl) | exact Or.inr (Or.inr rfl)) (by decide) (by decide)) de_int (nomark _)) (dss_cons (ds_set 2 S.nd (de_op do_mod' (de_ct cl_int (by rfl) b_int (by decide +kernel) (da_cons (de_gl 0 hu (by rfl) (by first | exact Or.inl rfl | exact Or.inr (Or.inl rfl) | exact Or.inr (Or.inr rfl)) (by decide) (by decide)) da_nil)) (de_name 1)))
  (dss_cons (ds_gl 0 hu (by rfl) (by first | exact Or.inl rfl | exact Or.inr (Or.inl rfl) | exact Or.inr (Or.inr rfl)) (by decide) (by decide) (de_op do_fdiv' (de_gl 0 hu (by rfl) (by first | exact Or.inl rfl | exact Or.inr (Or.inl rfl) | exact Or.inr (Or.inr rfl)) (by decide) (by decide)) (de_name 1)) (by rfl))
  (dss_one (ds_ret (de_name 2))))) dss_nil)
  (dss_cons (ds_set 3 S.nd (de_gp 0 hu (by rfl) (by first | exact Or.inl rfl | exact Or.inr (Or.inl rfl) | exact Or.inr (Or.inr rfl)) (by decide) (by decide)))
  (dss_cons (ds_gp 0 hu (by rfl) (by first | exact Or.inl rfl | exact Or.inr (Or.inl rfl) | exact Or.inr (Or.inr rfl)) (by decide) (by decide) (de_addN 3 hK de_int) (by rfl))
  (dss_cons (ds_par2 4 5 rfl S.nd (de_gc 0 hu (by rfl) (by first | exact Or.inl rfl | exact Or.inr (Or.inl rfl) | exact Or.inr (Or.inr rfl)) (by decide) (by decide)) (fun Δ e1 => (de_op (do_add (e1.trans hK)) (de_gs 0 hu (by rfl) (by first | exact Or.inl rfl | exact Or.inr (Or.inl rfl) | exact Or.inr (Or.inr rfl)) (by decide) (by decide)) (de_op do_mul' (de_op do_mul' de_int (de_name 3)) (de_name 3)))) (by rfl))
  (dss_cons (ds_set 6 S.nd (de_ixN 4 (de_op do_mod' (de_ct cl_int (by rfl) b_int (by decide +kernel) (da_cons (de_name 3) da_nil)) (de_lenN 4 rfl (by rfl) b_len (by decide +kernel))) (fun _ _ => rfl)))
  (dss_cons (ds_set 7 S.nd (de_op do_mod' (de_ct cl_int (by rfl) b_int (by decide +kernel) (da_cons (de_op (do_add hK) (de_op do_mul' (de_name 6) (de_op (do_add hK) (de_op do_mul' de_int (de_name 3)) de_int)) (de_name 5)) da_nil)) de_int))
  (dss_cons (ds_set 7 S.nd (de_op do_mod' (de_ct cl_int (by rfl) b_int (by decide +kernel) (da_cons (de_op (do_add hK) (de_op (do_add hK) (de_op do_mul' (de_name 7) (de_name 7)) (de_op do_mul' de_int (de_name 3))) (de_gs 0 hu (by rfl) (by first | exact Or.inl rfl | exact Or.inr (Or.inl rfl) | exact Or.inr (Or.inr rfl)) (by decide) (by decide))) da_nil)) de_int))
  (dss_one (ds_ret (de_op do_mod' (de_op do_fdiv' (de_op do_mod' (de_ct cl_int (by rfl) b_int (by decide +kernel) (da_cons (de_op (do_add hK) (de_op do_mul' (de_name 7) de_int) (de_name 3)) da_nil)) de_int) de_int) (de_name 1)))))))))))
abbrev s_law_of : Stmt := top 20
abbrev n_law_of : List Str := ["m", "some"]
abbrev p_law_of : List Str := ["m", "some"]
theorem sc_law_of : FnScope n_law_of p_law_of (defScope s_law_of) := ⟨rfl, rfl, rfl, by decide +kernel, rfl, by decide +kernel, by decide +kernel⟩
theorem k_law_of {f : Addr} {fd : FuncData} (F : FunD K "_law_of" "_law_of" (defArgs s_law_of) (defBody s_law_of) (defScope s_law_of) [] [] f fd) (hm : mg "_law_of" = some (.ref f)) (b_len : mg "len" = none) (c_law_draw : CalD P w K mg base 1 "_law_draw" C_law_draw) : CalD P w K mg base 2 "_law_of" C_law_of := by
  have S := sc_law_of
  refine def_ok false F S hm (F.bindsN fun _ _ _ _ _ _ us hl => match us, hl with | [_, _], _ => rfl) w_law_of len_law_of (fun z => nomatch z) spec_law_of (fun cdv A outer s H E Δ hr hK ha0 => ?_)
  have hu := hu_of hr.toRoom
  exact (dss_one (ds_ret (de_ixN 1 (de_callG c_law_draw hK (hr.mono (by decide)) (by rfl) (da_cons (de_name 0) (da_cons (de_lenN 1 rfl (by rfl) b_len (by decide +kernel)) da_nil))) (fun _ _ => rfl))))
abbrev s_law_web : Stmt := top 21
abbrev n_law_web : List Str := ["m", "rooms", "ties", "greatest", "found", "k", "v", "w", "p", "q", "end"]
abbrev p_law_web : List Str := ["m", "rooms", "ties", "greatest"]
theorem sc_law_web : FnScope n_law_web p_law_web (defScope s_law_web) := ⟨rfl, rfl, rfl, by decide +kernel, rfl, by decide +kernel, by decide +kernel⟩
theorem k_law_web {f : Addr} {fd : FuncData} (F : FunD K "_law_web" "_law_web" (defArgs s_law_web) (defBody s_law_web) (defScope s_law_web) [] [] f fd) (hm : mg "_law_web" = some (.ref f)) (b_range : mg "range" = none) (b_tuple : mg "tuple" = none) (c_law_draw : CalD P w K mg base 1 "_law_draw" C_law_draw) (c_law_of : CalD P w K mg base 2 "_law_of" C_law_of) : CalD P w K mg base 3 "_law_web" C_law_web := by
  have S := sc_law_web
  refine def_ok false F S hm (F.bindsN fun _ _ _ _ _ _ us hl => match us, hl with | [_, _, _, _], _ => rfl) w_law_web len_law_web (fun z => nomatch z) spec_law_web (fun cdv A outer s H E Δ hr hK ha0 => ?_)
  have hu := hu_of hr.toRoom
  exact (dss_cons (ds_set 4 S.nd (de_lst da_nil))
  (dss_cons (ds_for PassesOwn.never rfl (di_r1 (by rfl) b_range (da_cons (de_name 2) da_nil)) (dg_name 5 S.nd)
  (dss_cons (ds_set 6 S.nd (de_if (dt_cmpNR 1 sc_lt (de_addN 5 hK de_int) (nomark _)) (de_callG c_law_draw hK (hr.mono (by decide)) (by rfl) (da_cons (de_name 0) (da_cons (de_addN 5 hK de_int) da_nil))) (de_callG c_law_draw hK (hr.mono (by decide)) (by rfl) (da_cons (de_name 0) (da_cons (de_name 1) da_nil)))))
  (dss_cons (ds_set 7 S.nd (de_if (dt_cmpNR 1 sc_lt (de_addN 5 hK de_int) (nomark _)) (de_addN 5 hK de_int) (de_callG c_law_draw hK (hr.mono (by decide)) (by rfl) (da_cons (de_name 0) (da_cons (de_name 1) da_nil)))))
  (dss_cons (ds_asg (de_lc (own := [("end", 10)]) rfl S.nd (di_r1 (by rfl) b_range (da_cons de_int da_nil)) (blkOk_by (own := [("end", 10)]) (N := n_law_web) (sc := defScope s_law_web) (by decide +kernel)) (fun _ _ _ _ _ Δ _ => (dg_name 10 S.nd)) (fun _ _ _ _ _ Δ e0 => (dts_nil)) (fun _ _ _ _ _ Δ e1 => (de_op do_mul' (de_op (do_add (e1.trans hK)) de_int (de_callG c_law_draw (e1.trans hK) (hr.mono (by decide)) (by rfl) (da_cons (de_name 0) (da_cons (de_name 3) da_nil)))) (de_callG c_law_of (e1.trans hK) (hr.mono (by decide)) (by rfl) (da_cons (de_name 0) (da_cons (de_lst (da_cons de_int (da_cons de_int (da_cons de_int (da_cons (de_un do_neg de_int) da_nil))))) da_nil)))))) (dg_lst (n := 2) rfl (dgs_cons (dg_name 8 S.nd) (dgs_cons (dg_name 9 S.nd) dgs_nil))))
  (dss_one (ds_expr (de_app 4 (de_if (dt_cmp (sc_eq hr.units) (de_callG c_law_draw hK (hr.mono (by decide)) (by rfl) (da_cons (de_name 0) (da_cons de_int da_nil))) de_int (nomark _)) (de_tup (da_cons (de_name 6) (da_cons (de_name 7) (da_cons (de_name 8) (da_cons (de_name 9) da_nil))))) (de_tup (da_cons (de_name 7) (da_cons (de_name 6) (da_cons (de_name 9) (da_cons (de_name 8) da_nil)))))))))))))
  (dss_one (ds_ret (de_tup (da_cons (de_name 1) (da_cons (de_ct (cl_tup hK) (by rfl) b_tuple (by decide +kernel) (da_cons (de_name 4) da_nil)) da_nil)))))))
abbrev s_law_drawn : Stmt := top 29
abbrev n_law_drawn : List Str := ["m", "greatest", "rooms", "web", "tie"]
abbrev p_law_drawn : List Str := ["m", "greatest"]
theorem sc_law_drawn : FnScope n_law_drawn p_law_drawn (defScope s_law_drawn) := ⟨rfl, rfl, rfl, by decide +kernel, rfl, by decide +kernel, by decide +kernel⟩
theorem k_law_drawn {f : Addr} {fd : FuncData} (F : FunD K "_law_drawn" "_law_drawn" (defArgs s_law_drawn) (defBody s_law_drawn) (defScope s_law_drawn) [] [] f fd) (hm : mg "_law_drawn" = some (.ref f)) (b_tuple : mg "tuple" = none) (c_law_draw : CalD P w K mg base 1 "_law_draw" C_law_draw) (c_law_web : CalD P w K mg base 3 "_law_web" C_law_web) : CalD P w K mg base 4 "_law_drawn" C_law_drawn := by
  have S := sc_law_drawn
  refine def_ok false F S hm (F.bindsN fun _ _ _ _ _ _ us hl => match us, hl with | [_, _], _ => rfl) w_law_drawn len_law_drawn (fun z => nomatch z) spec_law_drawn (fun cdv A outer s H E Δ hr hK ha0 => ?_)
  have hu := hu_of hr.toRoom
  exact (dss_cons (ds_set 2 S.nd (de_op (do_add hK) de_int (de_callG c_law_draw hK (hr.mono (by decide)) (by rfl) (da_cons (de_name 0) (da_cons de_int da_nil)))))
  (dss_cons (ds_set 3 S.nd (de_callG c_law_web hK (hr.mono (by decide)) (by rfl) (da_cons (de_name 0) (da_cons (de_name 2) (da_cons (de_callG c_law_draw hK (hr.mono (by decide)) (by rfl) (da_cons (de_name 0) (da_cons de_int da_nil))) (da_cons (de_name 1) da_nil))))))
  (dss_cons (ds_if (dt_cmp (sc_eq hr.units) (de_callG c_law_draw hK (hr.mono (by decide)) (by rfl) (da_cons (de_name 0) (da_cons de_int da_nil))) de_int (nomark _)) (dss_one (ds_ret (de_tup (da_cons (de_name 2) (da_cons (de_ct (cl_tup hK) (by rfl) b_tuple (by decide +kernel) (da_cons (de_lc (own := [("tie", 4)]) rfl S.nd (di_t (de_ixN 3 de_int (fun _ _ => rfl))) (blkOk_by (own := [("tie", 4)]) (N := n_law_drawn) (sc := defScope s_law_drawn) (by decide +kernel)) (fun _ _ _ _ _ Δ _ => (dg_name 4 S.nd)) (fun _ _ _ _ _ Δ e1 => (pts_one (dt_cmp sc_gt (de_callG c_law_draw (e1.trans hK) (hr.mono (by decide)) (by rfl) (da_cons (de_name 0) (da_cons de_int da_nil))) de_int (nomark _)))) (fun _ _ _ _ _ Δ e2 => (de_name 4))) da_nil)) da_nil))))) dss_nil)
  (dss_one (ds_ret (de_name 3))))))
abbrev s_law_pieces : Stmt := top 30
abbrev n_law_pieces : List Str := ["web", "lots", "v", "w", "p", "q", "joined", "others", "lot", "room"]
abbrev p_law_pieces : List Str := ["web"]
theorem sc_law_pieces : FnScope n_law_pieces p_law_pieces (defScope s_law_pieces) := ⟨rfl, rfl, rfl, by decide +kernel, rfl, by decide +kernel, by decide +kernel⟩
theorem k_law_pieces {f : Addr} {fd : FuncData} (F : FunD K "_law_pieces" "_law_pieces" (defArgs s_law_pieces) (defBody s_law_pieces) (defScope s_law_pieces) [] [] f fd) (hm : mg "_law_pieces" = some (.ref f)) (b_range : mg "range" = none) (b_sorted : mg "sorted" = none) (b_tuple : mg "tuple" = none) : CalD P w K mg base 1 "_law_pieces" C_law_pieces := by
  have S := sc_law_pieces
  refine def_ok false F S hm (F.bindsN fun _ _ _ _ _ _ us hl => match us, hl with | [_], _ => rfl) w_law_pieces len_law_pieces (fun z => nomatch z) spec_law_pieces (fun cdv A outer s H E Δ hr hK ha0 => ?_)
  have hu := hu_of hr.toRoom
  exact (dss_cons (ds_setLc (own := [("room", 9)]) 1 rfl rfl rfl (sw_true rfl rfl rfl (by decide +kernel)) S.nd (di_r1 (by rfl) b_range (da_cons (de_ixN 0 de_int (fun _ _ => rfl)) da_nil)) (blkOk_by (own := [("room", 9)]) (N := n_law_pieces) (sc := defScope s_law_pieces) (by decide +kernel)) (fun _ _ _ _ _ Δ _ => (dg_name 9 S.nd)) (fun _ _ _ _ _ Δ e0 => (dts_nil)) (fun _ _ _ _ _ Δ e1 => (de_lst (da_cons (de_name 9) da_nil))))
  (dss_cons (ds_for PassesOwn.never rfl (di_t (de_ixN 0 de_int (fun _ _ => rfl))) (dg_tup (n := 4) rfl (dgs_cons (dg_name 2 S.nd) (dgs_cons (dg_name 3 S.nd) (dgs_cons (dg_name 4 S.nd) (dgs_cons (dg_name 5 S.nd) dgs_nil)))))
  (dss_cons (ds_par2 6 7 rfl S.nd (de_lst da_nil) (fun Δ e2 => (de_lst da_nil)) (by rfl))
  (dss_cons (ds_for PassesOwn.never rfl (di_l (de_name 1)) (dg_name 8 S.nd)
  (dss_one (ds_if (PW.pt (dw_or (dt_cmpNR 8 sc_in (de_name 2) (by rfl)) (dw_or1 (dt_cmpNR 8 sc_in (de_name 3) (by rfl))))) (dss_one (ds_set 6 S.nd (de_addN 6 hK (de_name 8)))) (dss_one (ds_expr (de_app 7 (de_name 8)))))))
  (dss_one (ds_set 1 S.nd (de_addN 7 hK (de_lst (da_cons (de_cb (cl_sortI hK) (by rfl) b_sorted (by decide +kernel) (da_cons (de_name 6) da_nil)) da_nil))))))))
  (dss_one (ds_ret (de_cb (cl_sortT hK) (by rfl) b_sorted (by decide +kernel) (da_cons (de_lc (own := [("lot", 8)]) rfl S.nd (di_l (de_name 1)) (blkOk_by (own := [("lot", 8)]) (N := n_law_pieces) (sc := defScope s_law_pieces) (by decide +kernel)) (fun _ _ _ _ _ Δ _ => (dg_name 8 S.nd)) (fun _ _ _ _ _ Δ e0 => (dts_nil)) (fun _ _ _ _ _ Δ e3 => (de_ct (cl_tup (e3.trans hK)) (by rfl) b_tuple (by decide +kernel) (da_cons (de_name 8) da_nil)))) da_nil))))))
abbrev sis_tuple_of : Stmt := top 3
abbrev nis_tuple_of : List Str := ["value", "size"]
abbrev pis_tuple_of : List Str := ["value", "size"]
theorem scis_tuple_of : FnScope nis_tuple_of pis_tuple_of (defScope sis_tuple_of) := ⟨rfl, rfl, rfl, by decide +kernel, rfl, by decide +kernel, by decide +kernel⟩
theorem kis_tuple_of {f : Addr} {fd : FuncData} (F : FunD K "is_tuple_of" "is_tuple_of" (defArgs sis_tuple_of) (defBody sis_tuple_of) (defScope sis_tuple_of) [] [] f fd) (hm : mg "is_tuple_of" = some (.ref f)) (b_isinstance : mg "isinstance" = none) (b_len : mg "len" = none) (b_tuple : mg "tuple" = none) : CalD P w K mg base 1 "is_tuple_of" Cis_tuple_of := by
  have S := scis_tuple_of
  refine def_ok false F S hm (F.bindsN fun _ _ _ _ _ _ us hl => match us, hl with | [_, _], _ => rfl) wis_tuple_of lenis_tuple_of (fun z => nomatch z) specis_tuple_of (fun cdv A outer s H E Δ hr hK ha0 => ?_)
  have hu := hu_of hr.toRoom
  exact (dss_one (ds_ret (de_and (de_isi (T := "tuple") rfl (by rfl) b_isinstance (by decide +kernel) (by rfl) b_tuple (by decide +kernel) (de_name 0)) (de_one (de_cmpNR 1 (sc_eq hr.units) (de_lenN 0 rfl (by rfl) b_len (by decide +kernel)) (nomark _))))))
abbrev sis_integer : Stmt := top 1
abbrev nis_integer : List Str := ["value"]
abbrev pis_integer : List Str := ["value"]
theorem scis_integer : FnScope nis_integer pis_integer (defScope sis_integer) := ⟨rfl, rfl, rfl, by decide +kernel, rfl, by decide +kernel, by decide +kernel⟩
theorem kis_integer {f : Addr} {fd : FuncData} (F : FunD K "is_integer" "is_integer" (defArgs sis_integer) (defBody sis_integer) (defScope sis_integer) [] [] f fd) (hm : mg "is_integer" = some (.ref f)) (b_bool : mg "bool" = none) (b_int : mg "int" = none) (b_isinstance : mg "isinstance" = none) : CalD P w K mg base 1 "is_integer" Cis_integer := by
  have S := scis_integer
  refine def_ok false F S hm (F.bindsN fun _ _ _ _ _ _ us hl => match us, hl with | [_], _ => rfl) wis_integer lenis_integer (fun z => nomatch z) specis_integer (fun cdv A outer s H E Δ hr hK ha0 => ?_)
  have hu := hu_of hr.toRoom
  exact (dss_one (ds_ret (de_and (de_isi (T := "int") rfl (by rfl) b_isinstance (by decide +kernel) (by rfl) b_int (by decide +kernel) (de_name 0)) (de_one (de_not (de_isi (T := "bool") rfl (by rfl) b_isinstance (by decide +kernel) (by rfl) b_bool (by decide +kernel) (de_name 0)))))))
abbrev sis_integer_from : Stmt := top 2
abbrev nis_integer_from : List Str := ["value", "low", "high"]
abbrev pis_integer_from : List Str := ["value", "low", "high"]
theorem scis_integer_from : FnScope nis_integer_from pis_integer_from (defScope sis_integer_from) := ⟨rfl, rfl, rfl, by decide +kernel, rfl, by decide +kernel, by decide +kernel⟩
theorem kis_integer_from {f : Addr} {fd : FuncData} (F : FunD K "is_integer_from" "is_integer_from" (defArgs sis_integer_from) (defBody sis_integer_from) (defScope sis_integer_from) [] [] f fd) (hm : mg "is_integer_from" = some (.ref f)) (cis_integer : CalD P w K mg base 1 "is_integer" Cis_integer) : CalD P w K mg base 2 "is_integer_from" Cis_integer_from := by
  have S := scis_integer_from
  refine def_ok false F S hm (F.bindsN fun _ _ _ _ _ _ us hl => match us, hl with | [_, _, _], _ => rfl) wis_integer_from lenis_integer_from (fun z => nomatch z) specis_integer_from (fun cdv A outer s H E Δ hr hK ha0 => ?_)
  have hu := hu_of hr.toRoom
  exact (dss_one (ds_ret (de_and (de_callP cis_integer hK (hr.mono (by decide)) (by rfl) (da_cons (de_name 0) da_nil)) (de_one (de_chain sc_le sc_le (de_name 1) (de_name 0) (de_name 2))))))
abbrev sis_tuple_up_to : Stmt := top 4
abbrev nis_tuple_up_to : List Str := ["value", "size"]
abbrev pis_tuple_up_to : List Str := ["value", "size"]
theorem scis_tuple_up_to : FnScope nis_tuple_up_to pis_tuple_up_to (defScope sis_tuple_up_to) := ⟨rfl, rfl, rfl, by decide +kernel, rfl, by decide +kernel, by decide +kernel⟩
theorem kis_tuple_up_to {f : Addr} {fd : FuncData} (F : FunD K "is_tuple_up_to" "is_tuple_up_to" (defArgs sis_tuple_up_to) (defBody sis_tuple_up_to) (defScope sis_tuple_up_to) [] [] f fd) (hm : mg "is_tuple_up_to" = some (.ref f)) (b_isinstance : mg "isinstance" = none) (b_len : mg "len" = none) (b_tuple : mg "tuple" = none) : CalD P w K mg base 1 "is_tuple_up_to" Cis_tuple_up_to := by
  have S := scis_tuple_up_to
  refine def_ok false F S hm (F.bindsN fun _ _ _ _ _ _ us hl => match us, hl with | [_, _], _ => rfl) wis_tuple_up_to lenis_tuple_up_to (fun z => nomatch z) specis_tuple_up_to (fun cdv A outer s H E Δ hr hK ha0 => ?_)
  have hu := hu_of hr.toRoom
  exact (dss_one (ds_ret (de_and (de_isi (T := "tuple") rfl (by rfl) b_isinstance (by decide +kernel) (by rfl) b_tuple (by decide +kernel) (de_name 0)) (de_one (de_cmpNR 1 sc_le (de_lenN 0 rfl (by rfl) b_len (by decide +kernel)) (nomark _))))))
abbrev sare_rooms : Stmt := top 11
abbrev nare_rooms : List Str := ["rooms", "v", "w"]
abbrev pare_rooms : List Str := ["rooms", "v", "w"]
theorem scare_rooms : FnScope nare_rooms pare_rooms (defScope sare_rooms) := ⟨rfl, rfl, rfl, by decide +kernel, rfl, by decide +kernel, by decide +kernel⟩
theorem kare_rooms {f : Addr} {fd : FuncData} (F : FunD K "are_rooms" "are_rooms" (defArgs sare_rooms) (defBody sare_rooms) (defScope sare_rooms) [] [] f fd) (hm : mg "are_rooms" = some (.ref f)) (cis_integer_from : CalD P w K mg base 2 "is_integer_from" Cis_integer_from) : CalD P w K mg base 3 "are_rooms" Care_rooms := by
  have S := scare_rooms
  refine def_ok false F S hm (F.bindsN fun _ _ _ _ _ _ us hl => match us, hl with | [_, _, _], _ => rfl) ware_rooms lenare_rooms (fun z => nomatch z) specare_rooms (fun cdv A outer s H E Δ hr hK ha0 => ?_)
  have hu := hu_of hr.toRoom
  exact (dss_one (ds_ret (de_and (de_callP cis_integer_from hK (hr.mono (by decide)) (by rfl) (da_cons (de_name 1) (da_cons de_int (da_cons (de_op do_sub' (de_name 0) de_int) da_nil)))) (de_one (de_callP cis_integer_from hK (hr.mono (by decide)) (by rfl) (da_cons (de_name 2) (da_cons de_int (da_cons (de_op do_sub' (de_name 0) de_int) da_nil))))))))
abbrev sis_end : Stmt := top 12
abbrev nis_end : List Str := ["value"]
abbrev pis_end : List Str := ["value"]
theorem scis_end : FnScope nis_end pis_end (defScope sis_end) := ⟨rfl, rfl, rfl, by decide +kernel, rfl, by decide +kernel, by decide +kernel⟩
theorem kis_end {f : Addr} {fd : FuncData} (F : FunD K "is_end" "is_end" (defArgs sis_end) (defBody sis_end) (defScope sis_end) [] [] f fd) (hm : mg "is_end" = some (.ref f)) (g_GREATEST_END : ∃ t, mg "GREATEST_END" = some (.int 1000 t)) (cis_integer_from : CalD P w K mg base 2 "is_integer_from" Cis_integer_from) : CalD P w K mg base 3 "is_end" Cis_end := by
  have S := scis_end
  refine def_ok false F S hm (F.bindsN fun _ _ _ _ _ _ us hl => match us, hl with | [_], _ => rfl) wis_end lenis_end (fun z => nomatch z) specis_end (fun cdv A outer s H E Δ hr hK ha0 => ?_)
  have hu := hu_of hr.toRoom
  exact (dss_one (ds_ret (de_and (de_callP cis_integer_from hK (hr.mono (by decide)) (by rfl) (da_cons (de_name 0) (da_cons (de_un do_neg (de_glob g_GREATEST_END)) (da_cons (de_glob g_GREATEST_END) da_nil)))) (de_one (de_cmpNL 0 (sc_ne hr.units) de_int (nomark _))))))
abbrev sis_tie : Stmt := top 10
abbrev nis_tie : List Str := ["rooms", "value", "v", "w", "p", "q"]
abbrev pis_tie : List Str := ["rooms", "value"]
theorem scis_tie : FnScope nis_tie pis_tie (defScope sis_tie) := ⟨rfl, rfl, rfl, by decide +kernel, rfl, by decide +kernel, by decide +kernel⟩
theorem kis_tie {f : Addr} {fd : FuncData} (F : FunD K "is_tie" "is_tie" (defArgs sis_tie) (defBody sis_tie) (defScope sis_tie) [] [] f fd) (hm : mg "is_tie" = some (.ref f)) (care_rooms : CalD P w K mg base 3 "are_rooms" Care_rooms) (cis_end : CalD P w K mg base 3 "is_end" Cis_end) (cis_tuple_of : CalD P w K mg base 1 "is_tuple_of" Cis_tuple_of) : CalD P w K mg base 4 "is_tie" Cis_tie := by
  have S := scis_tie
  refine def_ok false F S hm (F.bindsN fun _ _ _ _ _ _ us hl => match us, hl with | [_, _], _ => rfl) wis_tie lenis_tie (fun z => nomatch z) specis_tie (fun cdv A outer s H E Δ hr hK ha0 => ?_)
  have hu := hu_of hr.toRoom
  exact (dss_cons (ds_if (dt_not (dt_tru (de_callP cis_tuple_of hK (hr.mono (by decide)) (by rfl) (da_cons (de_name 1) (da_cons de_int da_nil))))) (dss_one (ds_ret de_bl)) dss_nil)
  (dss_cons (ds_asg (de_name 1) (dg_tup (n := 4) rfl (dgs_cons (dg_name 2 S.nd) (dgs_cons (dg_name 3 S.nd) (dgs_cons (dg_name 4 S.nd) (dgs_cons (dg_name 5 S.nd) dgs_nil))))))
  (dss_one (ds_ret (de_and (de_callP care_rooms hK (hr.mono (by decide)) (by rfl) (da_cons (de_name 0) (da_cons (de_name 2) (da_cons (de_name 3) da_nil)))) (de_and (de_callP cis_end hK (hr.mono (by decide)) (by rfl) (da_cons (de_name 4) da_nil)) (de_one (de_callP cis_end hK (hr.mono (by decide)) (by rfl) (da_cons (de_name 5) da_nil)))))))))
abbrev sis_web : Stmt := top 9
abbrev nis_web : List Str := ["value", "rooms", "ties", "tie"]
abbrev pis_web : List Str := ["value"]
theorem scis_web : FnScope nis_web pis_web (defScope sis_web) := ⟨rfl, rfl, rfl, by decide +kernel, rfl, by decide +kernel, by decide +kernel⟩
theorem kis_web {f : Addr} {fd : FuncData} (F : FunD K "is_web" "is_web" (defArgs sis_web) (defBody sis_web) (defScope sis_web) [] [] f fd) (hm : mg "is_web" = some (.ref f)) (g_MOST_ROOMS : ∃ t, mg "MOST_ROOMS" = some (.int 5 t)) (g_MOST_TIES : ∃ t, mg "MOST_TIES" = some (.int 7 t)) (b_all : mg "all" = none) (cis_integer_from : CalD P w K mg base 2 "is_integer_from" Cis_integer_from) (cis_tie : CalD P w K mg base 4 "is_tie" Cis_tie) (cis_tuple_of : CalD P w K mg base 1 "is_tuple_of" Cis_tuple_of) (cis_tuple_up_to : CalD P w K mg base 1 "is_tuple_up_to" Cis_tuple_up_to) : CalD P w K mg base 5 "is_web" Cis_web := by
  have S := scis_web
  refine def_ok false F S hm (F.bindsN fun _ _ _ _ _ _ us hl => match us, hl with | [_], _ => rfl) wis_web lenis_web (fun z => nomatch z) specis_web (fun cdv A outer s H E Δ hr hK ha0 => ?_)
  have hu := hu_of hr.toRoom
  exact (dss_cons (ds_if (dt_not (dt_tru (de_callP cis_tuple_of hK (hr.mono (by decide)) (by rfl) (da_cons (de_name 0) (da_cons de_int da_nil))))) (dss_one (ds_ret de_bl)) dss_nil)
  (dss_cons (ds_asg (de_name 0) (dg_tup (n := 2) rfl (dgs_cons (dg_name 1 S.nd) (dgs_cons (dg_name 2 S.nd) dgs_nil))))
  (dss_cons (ds_if (PW.pt (dw_or (dt_not (dt_tru (de_callP cis_integer_from hK (hr.mono (by decide)) (by rfl) (da_cons (de_name 1) (da_cons de_int (da_cons (de_glob g_MOST_ROOMS) da_nil)))))) (dw_or1 (dt_not (dt_tru (de_callP cis_tuple_up_to hK (hr.mono (by decide)) (by rfl) (da_cons (de_name 2) (da_cons (de_glob g_MOST_TIES) da_nil)))))))) (dss_one (ds_ret de_bl)) dss_nil)
  (dss_one (ds_ret (de_cb (cl_all rfl) (by rfl) b_all (by decide +kernel) (da_cons (de_lc (own := [("tie", 3)]) rfl S.nd (di_t (de_name 2)) (blkOk_by (own := [("tie", 3)]) (N := nis_web) (sc := defScope sis_web) (by decide +kernel)) (fun _ _ _ _ _ Δ _ => (dg_name 3 S.nd)) (fun _ _ _ _ _ Δ e0 => (dts_nil)) (fun _ _ _ _ _ Δ e1 => (de_callP cis_tie (e1.trans hK) (hr.mono (by decide)) (by rfl) (da_cons (de_name 1) (da_cons (de_name 3) da_nil))))) da_nil)))))))
abbrev sways_out : Stmt := top 14
abbrev nways_out : List Str := ["web", "room", "ways", "number", "tie"]
abbrev pways_out : List Str := ["web", "room"]
theorem scways_out : FnScope nways_out pways_out (defScope sways_out) := ⟨rfl, rfl, rfl, by decide +kernel, rfl, by decide +kernel, by decide +kernel⟩
theorem kways_out {f : Addr} {fd : FuncData} (F : FunD K "ways_out" "ways_out" (defArgs sways_out) (defBody sways_out) (defScope sways_out) [] [] f fd) (hm : mg "ways_out" = some (.ref f)) (b_enumerate : mg "enumerate" = none) (b_tuple : mg "tuple" = none) : CalD P w K mg base 1 "ways_out" Cways_out := by
  have S := scways_out
  refine def_ok false F S hm (F.bindsN fun _ _ _ _ _ _ us hl => match us, hl with | [_, _], _ => rfl) wways_out lenways_out (fun z => nomatch z) specways_out (fun cdv A outer s H E Δ hr hK ha0 => ?_)
  have hu := hu_of hr.toRoom
  exact (dss_cons (ds_set 2 S.nd (de_lst da_nil))
  (dss_cons (ds_for PassesOwn.never rfl (di_enT hK (by rfl) b_enumerate (da_cons (de_ixN 0 de_int (fun _ _ => rfl)) da_nil)) (dg_tup (n := 2) rfl (dgs_cons (dg_name 3 S.nd) (dgs_cons (dg_name 4 S.nd) dgs_nil)))
  (dss_cons (ds_if (dt_cmpNR 1 (sc_eq hr.units) (de_ixN 4 de_int (fun _ _ => rfl)) (nomark _)) (dss_one (ds_expr (de_app 2 (de_tup (da_cons (de_name 3) (da_cons de_int da_nil)))))) dss_nil)
  (dss_one (ds_if (dt_cmpNR 1 (sc_eq hr.units) (de_ixN 4 de_int (fun _ _ => rfl)) (nomark _)) (dss_one (ds_expr (de_app 2 (de_tup (da_cons (de_name 3) (da_cons (de_un do_neg de_int) da_nil)))))) dss_nil))))
  (dss_one (ds_ret (de_ct (cl_tup hK) (by rfl) b_tuple (by decide +kernel) (da_cons (de_name 2) da_nil))))))
abbrev sends_of : Stmt := top 13
abbrev nends_of : List Str := ["web", "tie", "side", "v", "w", "p", "q"]
abbrev pends_of : List Str := ["web", "tie", "side"]
theorem scends_of : FnScope nends_of pends_of (defScope sends_of) := ⟨rfl, rfl, rfl, by decide +kernel, rfl, by decide +kernel, by decide +kernel⟩
theorem kends_of {f : Addr} {fd : FuncData} (F : FunD K "ends_of" "ends_of" (defArgs sends_of) (defBody sends_of) (defScope sends_of) [] [] f fd) (hm : mg "ends_of" = some (.ref f)) : CalD P w K mg base 1 "ends_of" Cends_of := by
  have S := scends_of
  refine def_ok false F S hm (F.bindsN fun _ _ _ _ _ _ us hl => match us, hl with | [_, _, _], _ => rfl) wends_of lenends_of (fun z => nomatch z) specends_of (fun cdv A outer s H E Δ hr hK ha0 => ?_)
  have hu := hu_of hr.toRoom
  exact (dss_cons (ds_asg (de_ix (de_ixN 0 de_int (fun _ _ => rfl)) (de_name 1) (fun _ _ => rfl)) (dg_tup (n := 4) rfl (dgs_cons (dg_name 3 S.nd) (dgs_cons (dg_name 4 S.nd) (dgs_cons (dg_name 5 S.nd) (dgs_cons (dg_name 6 S.nd) dgs_nil))))))
  (dss_cons (ds_if (dt_cmpNL 2 (sc_eq hr.units) de_int (nomark _)) (dss_one (ds_ret (de_tup (da_cons (de_name 3) (da_cons (de_name 4) (da_cons (de_name 5) (da_cons (de_name 6) da_nil))))))) dss_nil)
  (dss_one (ds_ret (de_tup (da_cons (de_name 4) (da_cons (de_name 3) (da_cons (de_name 6) (da_cons (de_name 5) da_nil)))))))))
abbrev spiece_of : Stmt := top 15
abbrev npiece_of : List Str := ["web", "room", "met", "waiting", "at", "tie", "side", "other"]
abbrev ppiece_of : List Str := ["web", "room"]
theorem scpiece_of : FnScope npiece_of ppiece_of (defScope spiece_of) := ⟨rfl, rfl, rfl, by decide +kernel, rfl, by decide +kernel, by decide +kernel⟩
theorem kpiece_of {f : Addr} {fd : FuncData} (F : FunD K "piece_of" "piece_of" (defArgs spiece_of) (defBody spiece_of) (defScope spiece_of) [] [] f fd) (hm : mg "piece_of" = some (.ref f)) (b_sorted : mg "sorted" = none) (b_tuple : mg "tuple" = none) (cends_of : CalD P w K mg base 1 "ends_of" Cends_of) (cways_out : CalD P w K mg base 1 "ways_out" Cways_out) : CalD P w K mg base 2 "piece_of" Cpiece_of := by
  have S := scpiece_of
  refine def_ok false F S hm (F.bindsN fun _ _ _ _ _ _ us hl => match us, hl with | [_, _], _ => rfl) wpiece_of lenpiece_of (fun z => nomatch z) specpiece_of (fun cdv A outer s H E Δ hr hK ha0 => ?_)
  have hu := hu_of hr.toRoom
  exact (dss_cons (ds_set 2 S.nd (de_lst (da_cons (de_name 1) da_nil)))
  (dss_cons (ds_set 3 S.nd (de_lst (da_cons (de_name 1) da_nil)))
  (dss_cons (ds_wh PassesOwn.never (dt_truN 3)
  (dss_cons (ds_set 4 S.nd (de_pop 3))
  (dss_one (ds_for PassesOwn.never rfl (di_t (de_callP cways_out hK (hr.mono (by decide)) (by rfl) (da_cons (de_name 0) (da_cons (de_name 4) da_nil)))) (dg_tup (n := 2) rfl (dgs_cons (dg_name 5 S.nd) (dgs_cons (dg_name 6 S.nd) dgs_nil)))
  (dss_cons (ds_set 7 S.nd (de_ix (de_callP cends_of hK (hr.mono (by decide)) (by rfl) (da_cons (de_name 0) (da_cons (de_name 5) (da_cons (de_name 6) da_nil)))) de_int (fun _ _ => rfl)))
  (dss_one (ds_if (dt_cmpNR 2 sc_notin (de_name 7) (by rfl)) (dss_cons (ds_expr (de_app 2 (de_name 7)))
  (dss_one (ds_expr (de_app 3 (de_name 7))))) dss_nil)))))))
  (dss_one (ds_ret (de_ct (cl_tup hK) (by rfl) b_tuple (by decide +kernel) (da_cons (de_cb (cl_sortI hK) (by rfl) b_sorted (by decide +kernel) (da_cons (de_name 2) da_nil)) da_nil)))))))
abbrev spieces_of : Stmt := top 16
abbrev npieces_of : List Str := ["web", "pieces", "room", "piece"]
abbrev ppieces_of : List Str := ["web"]
theorem scpieces_of : FnScope npieces_of ppieces_of (defScope spieces_of) := ⟨rfl, rfl, rfl, by decide +kernel, rfl, by decide +kernel, by decide +kernel⟩
theorem kpieces_of {f : Addr} {fd : FuncData} (F : FunD K "pieces_of" "pieces_of" (defArgs spieces_of) (defBody spieces_of) (defScope spieces_of) [] [] f fd) (hm : mg "pieces_of" = some (.ref f)) (b_range : mg "range" = none) (b_tuple : mg "tuple" = none) (cpiece_of : CalD P w K mg base 2 "piece_of" Cpiece_of) : CalD P w K mg base 3 "pieces_of" Cpieces_of := by
  have S := scpieces_of
  refine def_ok false F S hm (F.bindsN fun _ _ _ _ _ _ us hl => match us, hl with | [_], _ => rfl) wpieces_of lenpieces_of (fun z => nomatch z) specpieces_of (fun cdv A outer s H E Δ hr hK ha0 => ?_)
  have hu := hu_of hr.toRoom
  exact (dss_cons (ds_set 1 S.nd (de_lst da_nil))
  (dss_cons (ds_for PassesOwn.never rfl (di_r1 (by rfl) b_range (da_cons (de_ixN 0 de_int (fun _ _ => rfl)) da_nil)) (dg_name 2 S.nd)
  (dss_cons (ds_set 3 S.nd (de_callP cpiece_of hK (hr.mono (by decide)) (by rfl) (da_cons (de_name 0) (da_cons (de_name 2) da_nil))))
  (dss_one (ds_if (dt_cmpNR 2 (sc_eq hr.units) (de_ixN 3 de_int (fun _ _ => rfl)) (nomark _)) (dss_one (ds_expr (de_app 1 (de_name 3)))) dss_nil))))
  (dss_one (ds_ret (de_ct (cl_tup hK) (by rfl) b_tuple (by decide +kernel) (da_cons (de_name 1) da_nil))))))
abbrev s_law_ends : Stmt := top 22
abbrev n_law_ends : List Str := ["web", "tie", "side", "v", "w", "p", "q"]
abbrev p_law_ends : List Str := ["web", "tie", "side"]
theorem sc_law_ends : FnScope n_law_ends p_law_ends (defScope s_law_ends) := ⟨rfl, rfl, rfl, by decide +kernel, rfl, by decide +kernel, by decide +kernel⟩
theorem k_law_ends {f : Addr} {fd : FuncData} (F : FunD K "_law_ends" "_law_ends" (defArgs s_law_ends) (defBody s_law_ends) (defScope s_law_ends) [] [] f fd) (hm : mg "_law_ends" = some (.ref f)) : CalD P w K mg base 1 "_law_ends" C_law_ends := by
  have S := sc_law_ends
  refine def_ok false F S hm (F.bindsN fun _ _ _ _ _ _ us hl => match us, hl with | [_, _, _], _ => rfl) w_law_ends len_law_ends (fun z => nomatch z) spec_law_ends (fun cdv A outer s H E Δ hr hK ha0 => ?_)
  have hu := hu_of hr.toRoom
  exact (dss_cons (ds_asg (de_ix (de_ixN 0 de_int (fun _ _ => rfl)) (de_name 1) (fun _ _ => rfl)) (dg_tup (n := 4) rfl (dgs_cons (dg_name 3 S.nd) (dgs_cons (dg_name 4 S.nd) (dgs_cons (dg_name 5 S.nd) (dgs_cons (dg_name 6 S.nd) dgs_nil))))))
  (dss_one (ds_ret (de_if (dt_cmpNL 2 (sc_eq hr.units) de_int (nomark _)) (de_tup (da_cons (de_name 3) (da_cons (de_name 4) (da_cons (de_name 5) (da_cons (de_name 6) da_nil))))) (de_tup (da_cons (de_name 4) (da_cons (de_name 3) (da_cons (de_name 6) (da_cons (de_name 5) da_nil)))))))))
abbrev s_law_out : Stmt := top 23
abbrev n_law_out : List Str := ["web", "room", "found", "tie", "side"]
abbrev p_law_out : List Str := ["web", "room"]
theorem sc_law_out : FnScope n_law_out p_law_out (defScope s_law_out) := ⟨rfl, rfl, rfl, by decide +kernel, rfl, by decide +kernel, by decide +kernel⟩
theorem k_law_out {f : Addr} {fd : FuncData} (F : FunD K "_law_out" "_law_out" (defArgs s_law_out) (defBody s_law_out) (defScope s_law_out) [] [] f fd) (hm : mg "_law_out" = some (.ref f)) (b_len : mg "len" = none) (b_range : mg "range" = none) (c_law_ends : CalD P w K mg base 1 "_law_ends" C_law_ends) : CalD P w K mg base 2 "_law_out" C_law_out := by
  have S := sc_law_out
  refine def_ok false F S hm (F.bindsN fun _ _ _ _ _ _ us hl => match us, hl with | [_, _], _ => rfl) w_law_out len_law_out (fun z => nomatch z) spec_law_out (fun cdv A outer s H E Δ hr hK ha0 => ?_)
  have hu := hu_of hr.toRoom
  exact (dss_cons (ds_set 2 S.nd (de_lst da_nil))
  (dss_cons (ds_for PassesOwn.never rfl (di_r1 (by rfl) b_range (da_cons (de_cb (cl_len hK) (by rfl) b_len (by decide +kernel) (da_cons (de_ixN 0 de_int (fun _ _ => rfl)) da_nil)) da_nil)) (dg_name 3 S.nd)
  (dss_one (ds_set 2 S.nd (de_addN 2 hK (de_lc (own := [("side", 4)]) rfl S.nd (di_t (de_tup (da_cons de_int (da_cons (de_un do_neg de_int) da_nil)))) (blkOk_by (own := [("side", 4)]) (N := n_law_out) (sc := defScope s_law_out) (by decide +kernel)) (fun _ _ _ _ _ Δ _ => (dg_name 4 S.nd)) (fun _ _ _ _ _ Δ e1 => (pts_one (dt_cmpNR 1 (sc_eq hr.units) (de_ix (de_callP c_law_ends (e1.trans hK) (hr.mono (by decide)) (by rfl) (da_cons (de_name 0) (da_cons (de_name 3) (da_cons (de_name 4) da_nil)))) de_int (fun _ _ => rfl)) (nomark _)))) (fun _ _ _ _ _ Δ e2 => (de_tup (da_cons (de_name 3) (da_cons (de_name 4) da_nil)))))))))
  (dss_one (ds_ret (de_name 2)))))
abbrev s_law_right : Stmt := top 31
abbrev n_law_right : List Str := ["m", "web", "pieces", "room", "due", "tie", "side", "piece"]
abbrev p_law_right : List Str := ["m"]
theorem sc_law_right : FnScope n_law_right p_law_right (defScope s_law_right) := ⟨rfl, rfl, rfl, by decide +kernel, rfl, by decide +kernel, by decide +kernel⟩
theorem k_law_right {f : Addr} {fd : FuncData} (F : FunD K "_law_right" "_law_right" (defArgs s_law_right) (defBody s_law_right) (defScope s_law_right) [] [] f fd) (hm : mg "_law_right" = some (.ref f)) (b_len : mg "len" = none) (b_range : mg "range" = none) (b_repr : mg "repr" = none) (b_tuple : mg "tuple" = none) (c_law_drawn : CalD P w K mg base 4 "_law_drawn" C_law_drawn) (c_law_ends : CalD P w K mg base 1 "_law_ends" C_law_ends) (c_law_of : CalD P w K mg base 2 "_law_of" C_law_of) (c_law_out : CalD P w K mg base 2 "_law_out" C_law_out) (c_law_pieces : CalD P w K mg base 1 "_law_pieces" C_law_pieces) (cends_of : CalD P w K mg base 1 "ends_of" Cends_of) (cis_web : CalD P w K mg base 5 "is_web" Cis_web) (cpiece_of : CalD P w K mg base 2 "piece_of" Cpiece_of) (cpieces_of : CalD P w K mg base 3 "pieces_of" Cpieces_of) (cways_out : CalD P w K mg base 1 "ways_out" Cways_out) : CalD P w K mg base 6 "_law_right" C_law_right := by
  have S := sc_law_right
  refine def_ok false F S hm (F.bindsN fun _ _ _ _ _ _ us hl => match us, hl with | [_], _ => rfl) w_law_right len_law_right (fun z => nomatch z) spec_law_right (fun cdv A outer s H E Δ hr hK ha0 => ?_)
  have hu := hu_of hr.toRoom
  exact (dss_cons (ds_set 1 S.nd (de_callG c_law_drawn hK (hr.mono (by decide)) (by rfl) (da_cons (de_name 0) (da_cons (de_callG c_law_of hK (hr.mono (by decide)) (by rfl) (da_cons (de_name 0) (da_cons (de_lst (da_cons de_int (da_cons de_int (da_cons de_int da_nil)))) da_nil))) da_nil))))
  (dss_cons (ds_set 2 S.nd (de_callP c_law_pieces hK (hr.mono (by decide)) (by rfl) (da_cons (de_name 1) da_nil)))
  (dss_cons (ds_if (PW.pt (dw_or (dt_cmp (sc_ne hr.units) (de_cb (cl_reprA hr hK) (by rfl) b_repr (by decide +kernel) (da_cons (de_callP cis_web hK (hr.mono (by decide)) (by rfl) (da_cons (de_name 1) da_nil)) da_nil)) (de_cb (cl_reprA hr hK) (by rfl) b_repr (by decide +kernel) (da_cons de_bl da_nil)) (nomark _)) (dw_or1 (dt_cmp (sc_ne hr.units) (de_cb (cl_reprA hr hK) (by rfl) b_repr (by decide +kernel) (da_cons (de_callP cpieces_of hK (hr.mono (by decide)) (by rfl) (da_cons (de_name 1) da_nil)) da_nil)) (de_cb (cl_reprA hr hK) (by rfl) b_repr (by decide +kernel) (da_cons (de_ct (cl_tup hK) (by rfl) b_tuple (by decide +kernel) (da_cons (de_name 2) da_nil)) da_nil)) (nomark _))))) (dss_one (ds_ret de_bl)) dss_nil)
  (dss_cons (ds_for PassesOwn.never rfl (di_r1 (by rfl) b_range (da_cons (de_ixN 1 de_int (fun _ _ => rfl)) da_nil)) (dg_name 3 S.nd)
  (dss_cons (ds_set 4 S.nd (de_ix (de_lc (own := [("piece", 7)]) rfl S.nd (di_l (de_name 2)) (blkOk_by (own := [("piece", 7)]) (N := n_law_right) (sc := defScope s_law_right) (by decide +kernel)) (fun _ _ _ _ _ Δ _ => (dg_name 7 S.nd)) (fun _ _ _ _ _ Δ e1 => (pts_one (dt_cmpNR 7 sc_in (de_name 3) (by rfl)))) (fun _ _ _ _ _ Δ e2 => (de_name 7))) de_int (fun _ _ => rfl)))
  (dss_one (ds_if (PW.pt (dw_or (dt_cmp (sc_ne hr.units) (de_cb (cl_reprA hr hK) (by rfl) b_repr (by decide +kernel) (da_cons (de_callP cpiece_of hK (hr.mono (by decide)) (by rfl) (da_cons (de_name 1) (da_cons (de_name 3) da_nil))) da_nil)) (de_cb (cl_reprA hr hK) (by rfl) b_repr (by decide +kernel) (da_cons (de_name 4) da_nil)) (nomark _)) (dw_or1 (dt_cmp (sc_ne hr.units) (de_cb (cl_reprA hr hK) (by rfl) b_repr (by decide +kernel) (da_cons (de_callP cways_out hK (hr.mono (by decide)) (by rfl) (da_cons (de_name 1) (da_cons (de_name 3) da_nil))) da_nil)) (de_cb (cl_reprA hr hK) (by rfl) b_repr (by decide +kernel) (da_cons (de_ct (cl_tup hK) (by rfl) b_tuple (by decide +kernel) (da_cons (de_callP c_law_out hK (hr.mono (by decide)) (by rfl) (da_cons (de_name 1) (da_cons (de_name 3) da_nil))) da_nil)) da_nil)) (nomark _))))) (dss_one (ds_ret de_bl)) dss_nil))))
  (dss_cons (ds_for PassesOwn.never rfl (di_r1 (by rfl) b_range (da_cons (de_cb (cl_len hK) (by rfl) b_len (by decide +kernel) (da_cons (de_ixN 1 de_int (fun _ _ => rfl)) da_nil)) da_nil)) (dg_name 5 S.nd)
  (dss_one (ds_for PassesOwn.never rfl (di_t (de_tup (da_cons de_int (da_cons (de_un do_neg de_int) da_nil)))) (dg_name 6 S.nd)
  (dss_one (ds_if (dt_cmp (sc_ne hr.units) (de_cb (cl_reprA hr hK) (by rfl) b_repr (by decide +kernel) (da_cons (de_callP cends_of hK (hr.mono (by decide)) (by rfl) (da_cons (de_name 1) (da_cons (de_name 5) (da_cons (de_name 6) da_nil)))) da_nil)) (de_cb (cl_reprA hr hK) (by rfl) b_repr (by decide +kernel) (da_cons (de_callP c_law_ends hK (hr.mono (by decide)) (by rfl) (da_cons (de_name 1) (da_cons (de_name 5) (da_cons (de_name 6) da_nil)))) da_nil)) (nomark _)) (dss_one (ds_ret de_bl)) dss_nil)))))
  (dss_one (ds_ret de_bl)))))))
abbrev s_law_odd : Stmt := top 24
abbrev n_law_odd : List Str := ["m"]
abbrev p_law_odd : List Str := ["m"]
theorem sc_law_odd : FnScope n_law_odd p_law_odd (defScope s_law_odd) := ⟨rfl, rfl, rfl, by decide +kernel, rfl, by decide +kernel, by decide +kernel⟩
theorem k_law_odd {f : Addr} {fd : FuncData} (F : FunD K "_law_odd" "_law_odd" (defArgs s_law_odd) (defBody s_law_odd) (defScope s_law_odd) [] [] f fd) (hm : mg "_law_odd" = some (.ref f)) (c_law_of : CalD P w K mg base 2 "_law_of" C_law_of) : CalD P w K mg base 3 "_law_odd" C_law_odd := by
  have S := sc_law_odd
  refine def_ok false F S hm (F.bindsN fun _ _ _ _ _ _ us hl => match us, hl with | [_], _ => rfl) w_law_odd len_law_odd (fun z => nomatch z) spec_law_odd (fun cdv A outer s H E Δ hr hK ha0 => ?_)
  have hu := hu_of hr.toRoom
  exact (dss_one (ds_ret (de_callG c_law_of hK (hr.mono (by decide)) (by rfl) (da_cons (de_name 0) (da_cons (de_lst (da_cons de_int (da_cons de_int (da_cons (de_un do_neg de_int) (da_cons de_int (da_cons de_int (da_cons de_int (da_cons de_int (da_cons (de_un do_neg de_int) (da_cons (de_un do_neg de_int) (da_cons de_bl (da_cons de_bl (da_cons de_non (da_cons de_str (da_cons de_str (da_cons (de_tup da_nil) (da_cons (de_tup (da_cons de_int da_nil)) (da_cons (de_tup (da_cons de_int (da_cons de_int (da_cons de_int (da_cons de_int da_nil))))) (da_cons (de_op do_pow de_int de_int) da_nil))))))))))))))))))) da_nil)))))
abbrev s_law_bent : Stmt := top 25
abbrev n_law_bent : List Str := ["m", "thing", "way", "spot"]
abbrev p_law_bent : List Str := ["m", "thing"]
theorem sc_law_bent : FnScope n_law_bent p_law_bent (defScope s_law_bent) := ⟨rfl, rfl, rfl, by decide +kernel, rfl, by decide +kernel, by decide +kernel⟩
theorem k_law_bentF {f : Addr} {fd : FuncData} (F : FunD K "_law_bent" "_law_bent" (defArgs s_law_bent) (defBody s_law_bent) (defScope s_law_bent) [] [] f fd) (hm : mg "_law_bent" = some (.ref f)) : CalD P w K mg base 3 "_law_bent" CF :=
  ⟨f, fd, p_law_bent, fnG_of F sc_law_bent (fun vs H Q E ⟨_, _, _, _, _, _, _, _, h, _⟩ => h.elim) (fun cdv A outer s H vs Q E hr ⟨_, _, _, _, _, _, _, _, h, _⟩ => h.elim), hm, F.kp, F.bindsN fun _ _ _ _ _ _ us hl => match us, hl with | [_, _], _ => rfl⟩
theorem k_law_bent0 {f : Addr} {fd : FuncData} (F : FunD K "_law_bent" "_law_bent" (defArgs s_law_bent) (defBody s_law_bent) (defScope s_law_bent) [] [] f fd) (hm : mg "_law_bent" = some (.ref f)) (b_isinstance : mg "isinstance" = none) (b_len : mg "len" = none) (b_tuple : mg "tuple" = none) (c_law_bent : CalD P w K mg base 3 "_law_bent" (Cin 0)) (c_law_draw : CalD P w K mg base 1 "_law_draw" C_law_draw) (c_law_odd : CalD P w K mg base 3 "_law_odd" C_law_odd) : CalD P w K mg base 4 "_law_bent" (C_bent 0) := by
  have S := sc_law_bent
  refine def_ok false F S hm (F.bindsN fun _ _ _ _ _ _ us hl => match us, hl with | [_, _], _ => rfl) (w_law_bent (Cin 0)) (len_bent 0) (fun z => nomatch z) (spec_bent 0) (fun cdv A outer s H E Δ hr hK ha0 => ?_)
  have hu := hu_of hr.toRoom
  exact (dss_cons (ds_if (PW.pt (dw_or (dt_not (dt_tru (de_isi (T := "tuple") rfl (by rfl) b_isinstance (by decide +kernel) (by rfl) b_tuple (by decide +kernel) (de_name 1)))) (dw_or1 (dt_cmpNL 1 (sc_eq hr.units) (de_tup da_nil) (nomark _))))) (dss_one (ds_ret (de_callG c_law_odd hK (hr.mono (by decide)) (by rfl) (da_cons (de_name 0) da_nil)))) dss_nil)
  (dss_cons (ds_par2 2 3 rfl S.nd (de_callG c_law_draw hK (hr.mono (by decide)) (by rfl) (da_cons (de_name 0) (da_cons de_int da_nil))) (fun Δ e1 => (de_callG c_law_draw (e1.trans hK) (hr.mono (by decide)) (by rfl) (da_cons (de_name 0) (da_cons (de_lenN 1 rfl (by rfl) b_len (by decide +kernel)) da_nil)))) (by rfl))
  (dss_cons (ds_if (dt_cmpNL 2 (sc_eq hr.units) de_int (nomark _)) (dss_one (ds_ret (de_op (do_add hK) (de_slN 1 do_none (do_some (de_name 3))) (de_slN 1 (do_some (de_addN 3 hK de_int)) do_none)))) dss_nil)
  (dss_cons (ds_if (dt_cmpNL 2 (sc_eq hr.units) de_int (nomark _)) (dss_one (ds_ret (de_op (do_add hK) (de_op (do_add hK) (de_slN 1 do_none (do_some (de_name 3))) (de_tup (da_cons (de_callG c_law_odd hK (hr.mono (by decide)) (by rfl) (da_cons (de_name 0) da_nil)) da_nil))) (de_slN 1 (do_some (de_name 3)) do_none)))) dss_nil)
  (dss_cons (ds_if (dt_cmpNL 2 (sc_eq hr.units) de_int (nomark _)) (dss_one (ds_ret (de_op (do_add hK) (de_op (do_add hK) (de_slN 1 do_none (do_some (de_name 3))) (de_tup (da_cons (de_callG c_law_odd hK (hr.mono (by decide)) (by rfl) (da_cons (de_name 0) da_nil)) da_nil))) (de_slN 1 (do_some (de_addN 3 hK de_int)) do_none)))) dss_nil)
  (dss_one (ds_ret (de_op (do_add hK) (de_op (do_add hK) (de_slN 1 do_none (do_some (de_name 3))) (de_tup (da_cons (de_callG c_law_bent hK (hr.mono (by decide)) (by rfl) (da_cons (de_name 0) (da_cons (de_ixN 1 (de_name 3) (fun _ _ => rfl)) da_nil))) da_nil))) (de_slN 1 (do_some (de_addN 3 hK de_int)) do_none)))))))))
theorem k_law_bent1 {f : Addr} {fd : FuncData} (F : FunD K "_law_bent" "_law_bent" (defArgs s_law_bent) (defBody s_law_bent) (defScope s_law_bent) [] [] f fd) (hm : mg "_law_bent" = some (.ref f)) (b_isinstance : mg "isinstance" = none) (b_len : mg "len" = none) (b_tuple : mg "tuple" = none) (c_law_bent : CalD P w K mg base 4 "_law_bent" (Cin 1)) (c_law_draw : CalD P w K mg base 1 "_law_draw" C_law_draw) (c_law_odd : CalD P w K mg base 3 "_law_odd" C_law_odd) : CalD P w K mg base 5 "_law_bent" (C_bent 1) := by
  have S := sc_law_bent
  refine def_ok false F S hm (F.bindsN fun _ _ _ _ _ _ us hl => match us, hl with | [_, _], _ => rfl) (w_law_bent (Cin 1)) (len_bent 1) (fun z => nomatch z) (spec_bent 1) (fun cdv A outer s H E Δ hr hK ha0 => ?_)
  have hu := hu_of hr.toRoom
  exact (dss_cons (ds_if (PW.pt (dw_or (dt_not (dt_tru (de_isi (T := "tuple") rfl (by rfl) b_isinstance (by decide +kernel) (by rfl) b_tuple (by decide +kernel) (de_name 1)))) (dw_or1 (dt_cmpNL 1 (sc_eq hr.units) (de_tup da_nil) (nomark _))))) (dss_one (ds_ret (de_callG c_law_odd hK (hr.mono (by decide)) (by rfl) (da_cons (de_name 0) da_nil)))) dss_nil)
  (dss_cons (ds_par2 2 3 rfl S.nd (de_callG c_law_draw hK (hr.mono (by decide)) (by rfl) (da_cons (de_name 0) (da_cons de_int da_nil))) (fun Δ e1 => (de_callG c_law_draw (e1.trans hK) (hr.mono (by decide)) (by rfl) (da_cons (de_name 0) (da_cons (de_lenN 1 rfl (by rfl) b_len (by decide +kernel)) da_nil)))) (by rfl))
  (dss_cons (ds_if (dt_cmpNL 2 (sc_eq hr.units) de_int (nomark _)) (dss_one (ds_ret (de_op (do_add hK) (de_slN 1 do_none (do_some (de_name 3))) (de_slN 1 (do_some (de_addN 3 hK de_int)) do_none)))) dss_nil)
  (dss_cons (ds_if (dt_cmpNL 2 (sc_eq hr.units) de_int (nomark _)) (dss_one (ds_ret (de_op (do_add hK) (de_op (do_add hK) (de_slN 1 do_none (do_some (de_name 3))) (de_tup (da_cons (de_callG c_law_odd hK (hr.mono (by decide)) (by rfl) (da_cons (de_name 0) da_nil)) da_nil))) (de_slN 1 (do_some (de_name 3)) do_none)))) dss_nil)
  (dss_cons (ds_if (dt_cmpNL 2 (sc_eq hr.units) de_int (nomark _)) (dss_one (ds_ret (de_op (do_add hK) (de_op (do_add hK) (de_slN 1 do_none (do_some (de_name 3))) (de_tup (da_cons (de_callG c_law_odd hK (hr.mono (by decide)) (by rfl) (da_cons (de_name 0) da_nil)) da_nil))) (de_slN 1 (do_some (de_addN 3 hK de_int)) do_none)))) dss_nil)
  (dss_one (ds_ret (de_op (do_add hK) (de_op (do_add hK) (de_slN 1 do_none (do_some (de_name 3))) (de_tup (da_cons (de_callG c_law_bent hK (hr.mono (by decide)) (by rfl) (da_cons (de_name 0) (da_cons (de_ixN 1 (de_name 3) (fun _ _ => rfl)) da_nil))) da_nil))) (de_slN 1 (do_some (de_addN 3 hK de_int)) do_none)))))))))
theorem k_law_bent2 {f : Addr} {fd : FuncData} (F : FunD K "_law_bent" "_law_bent" (defArgs s_law_bent) (defBody s_law_bent) (defScope s_law_bent) [] [] f fd) (hm : mg "_law_bent" = some (.ref f)) (b_isinstance : mg "isinstance" = none) (b_len : mg "len" = none) (b_tuple : mg "tuple" = none) (c_law_bent : CalD P w K mg base 5 "_law_bent" (Cin 2)) (c_law_draw : CalD P w K mg base 1 "_law_draw" C_law_draw) (c_law_odd : CalD P w K mg base 3 "_law_odd" C_law_odd) : CalD P w K mg base 6 "_law_bent" (C_bent 2) := by
  have S := sc_law_bent
  refine def_ok false F S hm (F.bindsN fun _ _ _ _ _ _ us hl => match us, hl with | [_, _], _ => rfl) (w_law_bent (Cin 2)) (len_bent 2) (fun z => nomatch z) (spec_bent 2) (fun cdv A outer s H E Δ hr hK ha0 => ?_)
  have hu := hu_of hr.toRoom
  exact (dss_cons (ds_if (PW.pt (dw_or (dt_not (dt_tru (de_isi (T := "tuple") rfl (by rfl) b_isinstance (by decide +kernel) (by rfl) b_tuple (by decide +kernel) (de_name 1)))) (dw_or1 (dt_cmpNL 1 (sc_eq hr.units) (de_tup da_nil) (nomark _))))) (dss_one (ds_ret (de_callG c_law_odd hK (hr.mono (by decide)) (by rfl) (da_cons (de_name 0) da_nil)))) dss_nil)
  (dss_cons (ds_par2 2 3 rfl S.nd (de_callG c_law_draw hK (hr.mono (by decide)) (by rfl) (da_cons (de_name 0) (da_cons de_int da_nil))) (fun Δ e1 => (de_callG c_law_draw (e1.trans hK) (hr.mono (by decide)) (by rfl) (da_cons (de_name 0) (da_cons (de_lenN 1 rfl (by rfl) b_len (by decide +kernel)) da_nil)))) (by rfl))
  (dss_cons (ds_if (dt_cmpNL 2 (sc_eq hr.units) de_int (nomark _)) (dss_one (ds_ret (de_op (do_add hK) (de_slN 1 do_none (do_some (de_name 3))) (de_slN 1 (do_some (de_addN 3 hK de_int)) do_none)))) dss_nil)
  (dss_cons (ds_if (dt_cmpNL 2 (sc_eq hr.units) de_int (nomark _)) (dss_one (ds_ret (de_op (do_add hK) (de_op (do_add hK) (de_slN 1 do_none (do_some (de_name 3))) (de_tup (da_cons (de_callG c_law_odd hK (hr.mono (by decide)) (by rfl) (da_cons (de_name 0) da_nil)) da_nil))) (de_slN 1 (do_some (de_name 3)) do_none)))) dss_nil)
  (dss_cons (ds_if (dt_cmpNL 2 (sc_eq hr.units) de_int (nomark _)) (dss_one (ds_ret (de_op (do_add hK) (de_op (do_add hK) (de_slN 1 do_none (do_some (de_name 3))) (de_tup (da_cons (de_callG c_law_odd hK (hr.mono (by decide)) (by rfl) (da_cons (de_name 0) da_nil)) da_nil))) (de_slN 1 (do_some (de_addN 3 hK de_int)) do_none)))) dss_nil)
  (dss_one (ds_ret (de_op (do_add hK) (de_op (do_add hK) (de_slN 1 do_none (do_some (de_name 3))) (de_tup (da_cons (de_callG c_law_bent hK (hr.mono (by decide)) (by rfl) (da_cons (de_name 0) (da_cons (de_ixN 1 (de_name 3) (fun _ _ => rfl)) da_nil))) da_nil))) (de_slN 1 (do_some (de_addN 3 hK de_int)) do_none)))))))))
theorem k_law_bent3 {f : Addr} {fd : FuncData} (F : FunD K "_law_bent" "_law_bent" (defArgs s_law_bent) (defBody s_law_bent) (defScope s_law_bent) [] [] f fd) (hm : mg "_law_bent" = some (.ref f)) (b_isinstance : mg "isinstance" = none) (b_len : mg "len" = none) (b_tuple : mg "tuple" = none) (c_law_bent : CalD P w K mg base 6 "_law_bent" (Cin 3)) (c_law_draw : CalD P w K mg base 1 "_law_draw" C_law_draw) (c_law_odd : CalD P w K mg base 3 "_law_odd" C_law_odd) : CalD P w K mg base 7 "_law_bent" (C_bent 3) := by
  have S := sc_law_bent
  refine def_ok false F S hm (F.bindsN fun _ _ _ _ _ _ us hl => match us, hl with | [_, _], _ => rfl) (w_law_bent (Cin 3)) (len_bent 3) (fun z => nomatch z) (spec_bent 3) (fun cdv A outer s H E Δ hr hK ha0 => ?_)
  have hu := hu_of hr.toRoom
  exact (dss_cons (ds_if (PW.pt (dw_or (dt_not (dt_tru (de_isi (T := "tuple") rfl (by rfl) b_isinstance (by decide +kernel) (by rfl) b_tuple (by decide +kernel) (de_name 1)))) (dw_or1 (dt_cmpNL 1 (sc_eq hr.units) (de_tup da_nil) (nomark _))))) (dss_one (ds_ret (de_callG c_law_odd hK (hr.mono (by decide)) (by rfl) (da_cons (de_name 0) da_nil)))) dss_nil)
  (dss_cons (ds_par2 2 3 rfl S.nd (de_callG c_law_draw hK (hr.mono (by decide)) (by rfl) (da_cons (de_name 0) (da_cons de_int da_nil))) (fun Δ e1 => (de_callG c_law_draw (e1.trans hK) (hr.mono (by decide)) (by rfl) (da_cons (de_name 0) (da_cons (de_lenN 1 rfl (by rfl) b_len (by decide +kernel)) da_nil)))) (by rfl))
  (dss_cons (ds_if (dt_cmpNL 2 (sc_eq hr.units) de_int (nomark _)) (dss_one (ds_ret (de_op (do_add hK) (de_slN 1 do_none (do_some (de_name 3))) (de_slN 1 (do_some (de_addN 3 hK de_int)) do_none)))) dss_nil)
  (dss_cons (ds_if (dt_cmpNL 2 (sc_eq hr.units) de_int (nomark _)) (dss_one (ds_ret (de_op (do_add hK) (de_op (do_add hK) (de_slN 1 do_none (do_some (de_name 3))) (de_tup (da_cons (de_callG c_law_odd hK (hr.mono (by decide)) (by rfl) (da_cons (de_name 0) da_nil)) da_nil))) (de_slN 1 (do_some (de_name 3)) do_none)))) dss_nil)
  (dss_cons (ds_if (dt_cmpNL 2 (sc_eq hr.units) de_int (nomark _)) (dss_one (ds_ret (de_op (do_add hK) (de_op (do_add hK) (de_slN 1 do_none (do_some (de_name 3))) (de_tup (da_cons (de_callG c_law_odd hK (hr.mono (by decide)) (by rfl) (da_cons (de_name 0) da_nil)) da_nil))) (de_slN 1 (do_some (de_addN 3 hK de_int)) do_none)))) dss_nil)
  (dss_one (ds_ret (de_op (do_add hK) (de_op (do_add hK) (de_slN 1 do_none (do_some (de_name 3))) (de_tup (da_cons (de_callG c_law_bent hK (hr.mono (by decide)) (by rfl) (da_cons (de_name 0) (da_cons (de_ixN 1 (de_name 3) (fun _ _ => rfl)) da_nil))) da_nil))) (de_slN 1 (do_some (de_addN 3 hK de_int)) do_none)))))))))
abbrev s_law_is_whole : Stmt := top 26
abbrev n_law_is_whole : List Str := ["value"]
abbrev p_law_is_whole : List Str := ["value"]
theorem sc_law_is_whole : FnScope n_law_is_whole p_law_is_whole (defScope s_law_is_whole) := ⟨rfl, rfl, rfl, by decide +kernel, rfl, by decide +kernel, by decide +kernel⟩
theorem k_law_is_whole {f : Addr} {fd : FuncData} (F : FunD K "_law_is_whole" "_law_is_whole" (defArgs s_law_is_whole) (defBody s_law_is_whole) (defScope s_law_is_whole) [] [] f fd) (hm : mg "_law_is_whole" = some (.ref f)) (b_bool : mg "bool" = none) (b_int : mg "int" = none) (b_isinstance : mg "isinstance" = none) : CalD P w K mg base 1 "_law_is_whole" C_law_is_whole := by
  have S := sc_law_is_whole
  refine def_ok false F S hm (F.bindsN fun _ _ _ _ _ _ us hl => match us, hl with | [_], _ => rfl) w_law_is_whole len_law_is_whole (fun z => nomatch z) spec_law_is_whole (fun cdv A outer s H E Δ hr hK ha0 => ?_)
  have hu := hu_of hr.toRoom
  exact (dss_one (ds_ret (de_and (de_isi (T := "int") rfl (by rfl) b_isinstance (by decide +kernel) (by rfl) b_int (by decide +kernel) (de_name 0)) (de_one (de_not (de_isi (T := "bool") rfl (by rfl) b_isinstance (by decide +kernel) (by rfl) b_bool (by decide +kernel) (de_name 0)))))))
abbrev s_law_is_tie : Stmt := top 27
abbrev n_law_is_tie : List Str := ["value", "rooms", "end", "one"]
abbrev p_law_is_tie : List Str := ["value", "rooms"]
theorem sc_law_is_tie : FnScope n_law_is_tie p_law_is_tie (defScope s_law_is_tie) := ⟨rfl, rfl, rfl, by decide +kernel, rfl, by decide +kernel, by decide +kernel⟩
theorem k_law_is_tie {f : Addr} {fd : FuncData} (F : FunD K "_law_is_tie" "_law_is_tie" (defArgs s_law_is_tie) (defBody s_law_is_tie) (defScope s_law_is_tie) [] [] f fd) (hm : mg "_law_is_tie" = some (.ref f)) (b_abs : mg "abs" = none) (b_isinstance : mg "isinstance" = none) (b_len : mg "len" = none) (b_tuple : mg "tuple" = none) (c_law_is_whole : CalD P w K mg base 1 "_law_is_whole" C_law_is_whole) : CalD P w K mg base 2 "_law_is_tie" C_law_is_tie := by
  have S := sc_law_is_tie
  refine def_ok false F S hm (F.bindsN fun _ _ _ _ _ _ us hl => match us, hl with | [_, _], _ => rfl) w_law_is_tie len_law_is_tie (fun z => nomatch z) spec_law_is_tie (fun cdv A outer s H E Δ hr hK ha0 => ?_)
  have hu := hu_of hr.toRoom
  exact (dss_cons (ds_if (PW.pt (dw_or (dt_not (dt_tru (de_isi (T := "tuple") rfl (by rfl) b_isinstance (by decide +kernel) (by rfl) b_tuple (by decide +kernel) (de_name 0)))) (dw_or (dt_cmp (sc_ne hr.units) (de_lenN 0 rfl (by rfl) b_len (by decide +kernel)) de_int (nomark _)) (dw_or1 (dt_cmp (sc_ne hr.units) (de_lc (own := [("one", 3)]) rfl S.nd (di_t (de_name 0)) (blkOk_by (own := [("one", 3)]) (N := n_law_is_tie) (sc := defScope s_law_is_tie) (by decide +kernel)) (fun _ _ _ _ _ Δ _ => (dg_name 3 S.nd)) (fun _ _ _ _ _ Δ e1 => (pts_one (dt_not (dt_tru (de_callP c_law_is_whole (e1.trans hK) (hr.mono (by decide)) (by rfl) (da_cons (de_name 3) da_nil)))))) (fun _ _ _ _ _ Δ e2 => (de_name 3))) (de_lst da_nil) (nomark _)))))) (dss_one (ds_ret de_bl)) dss_nil)
  (dss_cons (ds_if (PW.pt (dw_or (dt_not (dt_chain sc_le sc_lt de_int (de_ixN 0 de_int (fun _ _ => rfl)) (de_name 1))) (dw_or1 (dt_not (dt_chain sc_le sc_lt de_int (de_ixN 0 de_int (fun _ _ => rfl)) (de_name 1)))))) (dss_one (ds_ret de_bl)) dss_nil)
  (dss_one (ds_ret (de_cmp' (sc_eq hr.units) (de_lc (own := [("end", 2)]) rfl S.nd (di_t (de_slN 0 (do_some de_int) do_none)) (blkOk_by (own := [("end", 2)]) (N := n_law_is_tie) (sc := defScope s_law_is_tie) (by decide +kernel)) (fun _ _ _ _ _ Δ _ => (dg_name 2 S.nd)) (fun _ _ _ _ _ Δ e3 => (pts_one (PW.pt (dw_or (dt_cmpNL 2 (sc_eq hr.units) de_int (nomark _)) (dw_or1 (dt_cmp sc_gt (de_cb cl_abs (by rfl) b_abs (by decide +kernel) (da_cons (de_name 2) da_nil)) de_int (nomark _))))))) (fun _ _ _ _ _ Δ e4 => (de_name 2))) (de_lst da_nil) (nomark _))))))
abbrev s_law_is_web : Stmt := top 28
abbrev n_law_is_web : List Str := ["value", "tie"]
abbrev p_law_is_web : List Str := ["value"]
theorem sc_law_is_web : FnScope n_law_is_web p_law_is_web (defScope s_law_is_web) := ⟨rfl, rfl, rfl, by decide +kernel, rfl, by decide +kernel, by decide +kernel⟩
theorem k_law_is_web {f : Addr} {fd : FuncData} (F : FunD K "_law_is_web" "_law_is_web" (defArgs s_law_is_web) (defBody s_law_is_web) (defScope s_law_is_web) [] [] f fd) (hm : mg "_law_is_web" = some (.ref f)) (b_isinstance : mg "isinstance" = none) (b_len : mg "len" = none) (b_tuple : mg "tuple" = none) (c_law_is_tie : CalD P w K mg base 2 "_law_is_tie" C_law_is_tie) (c_law_is_whole : CalD P w K mg base 1 "_law_is_whole" C_law_is_whole) : CalD P w K mg base 3 "_law_is_web" C_law_is_web := by
  have S := sc_law_is_web
  refine def_ok false F S hm (F.bindsN fun _ _ _ _ _ _ us hl => match us, hl with | [_], _ => rfl) w_law_is_web len_law_is_web (fun z => nomatch z) spec_law_is_web (fun cdv A outer s H E Δ hr hK ha0 => ?_)
  have hu := hu_of hr.toRoom
  exact (dss_cons (ds_if (PW.pt (dw_or (dt_not (dt_tru (de_isi (T := "tuple") rfl (by rfl) b_isinstance (by decide +kernel) (by rfl) b_tuple (by decide +kernel) (de_name 0)))) (dw_or (dt_cmp (sc_ne hr.units) (de_lenN 0 rfl (by rfl) b_len (by decide +kernel)) de_int (nomark _)) (dw_or (dt_not (dt_tru (de_callP c_law_is_whole hK (hr.mono (by decide)) (by rfl) (da_cons (de_ixN 0 de_int (fun _ _ => rfl)) da_nil)))) (dw_or1 (dt_not (dt_chain sc_le sc_le de_int (de_ixN 0 de_int (fun _ _ => rfl)) de_int))))))) (dss_one (ds_ret de_bl)) dss_nil)
  (dss_cons (ds_if (PW.pt (dw_or (dt_not (dt_tru (de_isi (T := "tuple") rfl (by rfl) b_isinstance (by decide +kernel) (by rfl) b_tuple (by decide +kernel) (de_ixN 0 de_int (fun _ _ => rfl))))) (dw_or1 (dt_cmp sc_gt (de_cb (cl_len hK) (by rfl) b_len (by decide +kernel) (da_cons (de_ixN 0 de_int (fun _ _ => rfl)) da_nil)) de_int (nomark _))))) (dss_one (ds_ret de_bl)) dss_nil)
  (dss_one (ds_ret (de_cmp' (sc_eq hr.units) (de_lc (own := [("tie", 1)]) rfl S.nd (di_t (de_ixN 0 de_int (fun _ _ => rfl))) (blkOk_by (own := [("tie", 1)]) (N := n_law_is_web) (sc := defScope s_law_is_web) (by decide +kernel)) (fun _ _ _ _ _ Δ _ => (dg_name 1 S.nd)) (fun _ _ _ _ _ Δ e1 => (pts_one (dt_not (dt_tru (de_callP c_law_is_tie (e1.trans hK) (hr.mono (by decide)) (by rfl) (da_cons (de_name 1) (da_cons (de_ixN 0 de_int (fun _ _ => rfl)) da_nil))))))) (fun _ _ _ _ _ Δ e2 => (de_name 1))) (de_lst da_nil) (nomark _))))))
abbrev slaw : Stmt := top 32
abbrev nlaw : List Str := ["script", "k", "m", "turn", "thing"]
abbrev plaw : List Str := ["script"]
theorem sclaw : FnScope nlaw plaw (defScope slaw) := ⟨rfl, rfl, rfl, by decide +kernel, rfl, by decide +kernel, by decide +kernel⟩
theorem klaw {f : Addr} {fd : FuncData} (F : FunD K "law" "law" (defArgs slaw) (defBody slaw) (defScope slaw) [] [] f fd) (hm : mg "law" = some (.ref f)) (b_len : mg "len" = none) (b_min : mg "min" = none) (b_range : mg "range" = none) (b_repr : mg "repr" = none) (c_law_begun : CalD P w K mg base 1 "_law_begun" C_law_begun) (c_law_bent : CalD P w K mg base 7 "_law_bent" C_law_bent) (c_law_drawn : CalD P w K mg base 4 "_law_drawn" C_law_drawn) (c_law_is_web : CalD P w K mg base 3 "_law_is_web" C_law_is_web) (c_law_of : CalD P w K mg base 2 "_law_of" C_law_of) (c_law_right : CalD P w K mg base 6 "_law_right" C_law_right) (cis_web : CalD P w K mg base 5 "is_web" Cis_web) : FnG P w K mg base CX0 8 f fd ["script"] (spD K Claw) := by
  have S := sclaw
  refine def_fn true F S hm (F.bindsN fun _ _ _ _ _ _ us hl => match us, hl with | [_], _ => rfl) wlaw lenlaw (fun _ => noglaw) speclaw (fun cdv A outer s H E Δ hr hK ha0 => ?_)
  have hu := hu_of hr.toRoom
  exact (dss_cons (ds_for PassesOwn.never rfl (di_r1 (by rfl) b_range (da_cons (de_op (do_add hK) de_int (de_cb (cl_min2 rfl) (by rfl) b_min (by decide +kernel) (da_cons (de_cb (cl_len hK) (by rfl) b_len (by decide +kernel) (da_cons (de_name 0) da_nil)) (da_cons de_int da_nil)))) da_nil)) (dg_name 1 S.nd)
  (dss_cons (ds_setG 2 (ha0 rfl) c_law_begun hK (hr.mono (by decide)) (by rfl) S.nd (da_cons (de_name 0) (da_cons (de_name 1) da_nil)))
  (dss_cons (ds_if (dt_not (dt_tru (de_callG c_law_right hK (hr.mono (by decide)) (by rfl) (da_cons (de_name 2) da_nil)))) (dss_one (ds_ret de_bl)) dss_nil)
  (dss_cons (ds_for PassesOwn.never rfl (di_r1 (by rfl) b_range (da_cons de_int da_nil)) (dg_name 3 S.nd)
  (dss_cons (ds_set 4 S.nd (de_callG c_law_bent hK (hr.mono (by decide)) (by rfl) (da_cons (de_name 2) (da_cons (de_callG c_law_drawn hK (hr.mono (by decide)) (by rfl) (da_cons (de_name 2) (da_cons (de_callG c_law_of hK (hr.mono (by decide)) (by rfl) (da_cons (de_name 2) (da_cons (de_lst (da_cons de_int (da_cons de_int (da_cons de_int da_nil)))) da_nil))) da_nil))) da_nil))))
  (dss_one (ds_if (dt_cmp (sc_ne hr.units) (de_cb (cl_reprA hr hK) (by rfl) b_repr (by decide +kernel) (da_cons (de_callP cis_web hK (hr.mono (by decide)) (by rfl) (da_cons (de_name 4) da_nil)) da_nil)) (de_cb (cl_reprA hr hK) (by rfl) b_repr (by decide +kernel) (da_cons (de_callP c_law_is_web hK (hr.mono (by decide)) (by rfl) (da_cons (de_name 4) da_nil)) da_nil)) (nomark _)) (dss_one (ds_ret de_bl)) dss_nil))))
  (dss_cons (ds_set 4 S.nd (de_callG c_law_drawn hK (hr.mono (by decide)) (by rfl) (da_cons (de_name 2) (da_cons de_int da_nil))))
  (dss_one (ds_if (dt_cmp (sc_ne hr.units) (de_cb (cl_reprA hr hK) (by rfl) b_repr (by decide +kernel) (da_cons (de_callP cis_web hK (hr.mono (by decide)) (by rfl) (da_cons (de_name 4) da_nil)) da_nil)) (de_cb (cl_reprA hr hK) (by rfl) b_repr (by decide +kernel) (da_cons (de_callP c_law_is_web hK (hr.mono (by decide)) (by rfl) (da_cons (de_name 4) da_nil)) da_nil)) (nomark _)) (dss_one (ds_ret de_bl)) dss_nil)))))))
  (dss_one (ds_ret de_bl)))

end
end K

set_option Elab.async false
set_option linter.all false
set_option maxRecDepth 100000
set_option maxHeartbeats 0
namespace K
open PySem PySem.Spec PyProof.Rows L2 Dl
/-! ### the head -/
def d_law_begun : He.DefD := ⟨("_law_begun", none), "_law_begun", "_law_begun", defArgs s_law_begun, defBody s_law_begun, defScope s_law_begun, [], []⟩
def d_law_draw : He.DefD := ⟨("_law_draw", none), "_law_draw", "_law_draw", defArgs s_law_draw, defBody s_law_draw, defScope s_law_draw, [], []⟩
def d_law_of : He.DefD := ⟨("_law_of", none), "_law_of", "_law_of", defArgs s_law_of, defBody s_law_of, defScope s_law_of, [], []⟩
def d_law_web : He.DefD := ⟨("_law_web", none), "_law_web", "_law_web", defArgs s_law_web, defBody s_law_web, defScope s_law_web, [], []⟩
def d_law_drawn : He.DefD := ⟨("_law_drawn", none), "_law_drawn", "_law_drawn", defArgs s_law_drawn, defBody s_law_drawn, defScope s_law_drawn, [], []⟩
def d_law_pieces : He.DefD := ⟨("_law_pieces", none), "_law_pieces", "_law_pieces", defArgs s_law_pieces, defBody s_law_pieces, defScope s_law_pieces, [], []⟩
def dis_tuple_of : He.DefD := ⟨("is_tuple_of", none), "is_tuple_of", "is_tuple_of", defArgs sis_tuple_of, defBody sis_tuple_of, defScope sis_tuple_of, [], []⟩
def dis_integer : He.DefD := ⟨("is_integer", none), "is_integer", "is_integer", defArgs sis_integer, defBody sis_integer, defScope sis_integer, [], []⟩
def dis_integer_from : He.DefD := ⟨("is_integer_from", none), "is_integer_from", "is_integer_from", defArgs sis_integer_from, defBody sis_integer_from, defScope sis_integer_from, [], []⟩
def dis_tuple_up_to : He.DefD := ⟨("is_tuple_up_to", none), "is_tuple_up_to", "is_tuple_up_to", defArgs sis_tuple_up_to, defBody sis_tuple_up_to, defScope sis_tuple_up_to, [], []⟩
def dare_rooms : He.DefD := ⟨("are_rooms", none), "are_rooms", "are_rooms", defArgs sare_rooms, defBody sare_rooms, defScope sare_rooms, [], []⟩
def dis_end : He.DefD := ⟨("is_end", none), "is_end", "is_end", defArgs sis_end, defBody sis_end, defScope sis_end, [], []⟩
def dis_tie : He.DefD := ⟨("is_tie", none), "is_tie", "is_tie", defArgs sis_tie, defBody sis_tie, defScope sis_tie, [], []⟩
def dis_web : He.DefD := ⟨("is_web", none), "is_web", "is_web", defArgs sis_web, defBody sis_web, defScope sis_web, [], []⟩
def dways_out : He.DefD := ⟨("ways_out", none), "ways_out", "ways_out", defArgs sways_out, defBody sways_out, defScope sways_out, [], []⟩
def dends_of : He.DefD := ⟨("ends_of", none), "ends_of", "ends_of", defArgs sends_of, defBody sends_of, defScope sends_of, [], []⟩
def dpiece_of : He.DefD := ⟨("piece_of", none), "piece_of", "piece_of", defArgs spiece_of, defBody spiece_of, defScope spiece_of, [], []⟩
def dpieces_of : He.DefD := ⟨("pieces_of", none), "pieces_of", "pieces_of", defArgs spieces_of, defBody spieces_of, defScope spieces_of, [], []⟩
def d_law_ends : He.DefD := ⟨("_law_ends", none), "_law_ends", "_law_ends", defArgs s_law_ends, defBody s_law_ends, defScope s_law_ends, [], []⟩
def d_law_out : He.DefD := ⟨("_law_out", none), "_law_out", "_law_out", defArgs s_law_out, defBody s_law_out, defScope s_law_out, [], []⟩
def d_law_right : He.DefD := ⟨("_law_right", none), "_law_right", "_law_right", defArgs s_law_right, defBody s_law_right, defScope s_law_right, [], []⟩
def d_law_odd : He.DefD := ⟨("_law_odd", none), "_law_odd", "_law_odd", defArgs s_law_odd, defBody s_law_odd, defScope s_law_odd, [], []⟩
def d_law_bent : He.DefD := ⟨("_law_bent", none), "_law_bent", "_law_bent", defArgs s_law_bent, defBody s_law_bent, defScope s_law_bent, [], []⟩
def d_law_is_whole : He.DefD := ⟨("_law_is_whole", none), "_law_is_whole", "_law_is_whole", defArgs s_law_is_whole, defBody s_law_is_whole, defScope s_law_is_whole, [], []⟩
def d_law_is_tie : He.DefD := ⟨("_law_is_tie", none), "_law_is_tie", "_law_is_tie", defArgs s_law_is_tie, defBody s_law_is_tie, defScope s_law_is_tie, [], []⟩
def d_law_is_web : He.DefD := ⟨("_law_is_web", none), "_law_is_web", "_law_is_web", defArgs s_law_is_web, defBody s_law_is_web, defScope s_law_is_web, [], []⟩
def dlaw : He.DefD := ⟨("law", none), "law", "law", defArgs slaw, defBody slaw, defScope slaw, [], []⟩
def fn : List He.DefD := [d_law_begun, d_law_draw, d_law_of, d_law_web, d_law_drawn, d_law_pieces, dis_tuple_of, dis_integer, dis_integer_from, dis_tuple_up_to, dare_rooms, dis_end, dis_tie, dis_web, dways_out, dends_of, dpiece_of, dpieces_of, d_law_ends, d_law_out, d_law_right, d_law_odd, d_law_bent, d_law_is_whole, d_law_is_tie, d_law_is_web, dlaw]
def fa : List He.Fa := [.glo "_law_begun", .glo "_law_draw", .glo "_law_of", .glo "_law_web", .glo "_law_drawn", .glo "_law_pieces", .glo "is_tuple_of", .glo "is_integer", .glo "is_integer_from", .glo "is_tuple_up_to", .glo "are_rooms", .glo "is_end", .glo "is_tie", .glo "is_web", .glo "ways_out", .glo "ends_of", .glo "piece_of", .glo "pieces_of", .glo "_law_ends", .glo "_law_out", .glo "_law_right", .glo "_law_odd", .glo "_law_bent", .glo "_law_is_whole", .glo "_law_is_tie", .glo "_law_is_web", .glo "law", .int "GREATEST_END" 1000, .int "MOST_ROOMS" 5, .int "MOST_TIES" 7, .free "abs", .free "all", .free "bool", .free "enumerate", .free "int", .free "isinstance", .free "len", .free "min", .free "range", .free "repr", .free "sorted", .free "tuple"]
abbrev R : PySem.W.OpenRow := PySem.W.OpenLaw.row PySem.Challenge.rw_tubewords_k01_webs_judged
abbrev hk : PySem.W.Hook := He.hookD 4 fa fn
def ob (s : PySem.W.SharedT) : He.AlD := He.obsDG 4 fa fn (HandSHeadRun.getT s)
theorem ob_eq (s : PySem.W.SharedT) : ob s = hk.obs s.abs := He.obsDG_eq (HandSHeadRun.getT_eq s)
theorem run (w : World) : HandSHeadRun.RunEq R (PySem.W.view R.prog [32]) hk ob 2000 ([("_law_begun" : PySem.Str), ("_law_draw" : PySem.Str), ("_law_of" : PySem.Str), ("_law_web" : PySem.Str), ("_law_drawn" : PySem.Str), ("_law_pieces" : PySem.Str), ("is_tuple_of" : PySem.Str), ("is_integer" : PySem.Str), ("is_integer_from" : PySem.Str), ("is_tuple_up_to" : PySem.Str), ("are_rooms" : PySem.Str), ("is_end" : PySem.Str), ("is_tie" : PySem.Str), ("is_web" : PySem.Str), ("ways_out" : PySem.Str), ("ends_of" : PySem.Str)] ++ [("piece_of" : PySem.Str), ("pieces_of" : PySem.Str), ("_law_ends" : PySem.Str), ("_law_out" : PySem.Str), ("_law_right" : PySem.Str), ("_law_odd" : PySem.Str), ("_law_bent" : PySem.Str), ("_law_is_whole" : PySem.Str), ("_law_is_tie" : PySem.Str), ("_law_is_web" : PySem.Str), ("GREATEST_END" : PySem.Str), ("MOST_ROOMS" : PySem.Str), ("MOST_TIES" : PySem.Str)]) w := by
  intro os
  kernel_rfl
theorem law_sp {K : PySem.W.Frag} {H : Hp} {a : Addr} {ns : List Int} {E : XK} (hl : ns.length ≤ 63) (hS : SqL K H a (ns.map V.int)) : spD K Claw [.ref a] H (fun v _ => v = .bl true) E := by
  let F : Hp := fun b => if b = a then H a else none
  have e : F a = H a := if_pos rfl
  have sq : SqL K F a (ns.map V.int) := by
    unfold SqL Rd at hS ⊢
    rw [e]
    exact hS
  refine ⟨a, F, [.scr ns], none, fun r _ => r = .d (.bool true), fun b o h => ?_, fun n z => (nomatch z), .scr sq .nil, ⟨ns, rfl, rfl, by omega, fun _ => rfl⟩, fun r g' am' F' v H' er l fn s => ?_⟩
  · by_cases hb : b = a
    · subst hb
      rw [← e]
      exact h
    · have : F b = none := if_neg hb
      rw [this] at h
      cases h
  · subst er
    cases s
    rfl
theorem facts {P : Program} {w : World} {K : PySem.W.Frag} {h : Heap} {mg : Str → Option Value} {f : Addr} (X : K.In h) (G : h.Ns mainGlobals mg) (hfa : mg ("law" : Str) = some (.ref f)) (c : He.SaysD fa fn K) :
    ∃ fd : FuncData, (∀ (s : Shared) (v : Value), BindsTo s fd ⟨[v], []⟩ [("script", v)]) ∧ ∀ base : Heap, K.In base → base.Ns mainGlobals mg → FnG P w K mg base CX0 8 f fd ["script"] (spD K Claw) := by
  obtain ⟨e_law_begun, F_law_begun⟩ := c.def_ 0 (d := d_law_begun) rfl
  obtain ⟨e_law_draw, F_law_draw⟩ := c.def_ 1 (d := d_law_draw) rfl
  obtain ⟨e_law_of, F_law_of⟩ := c.def_ 2 (d := d_law_of) rfl
  obtain ⟨e_law_web, F_law_web⟩ := c.def_ 3 (d := d_law_web) rfl
  obtain ⟨e_law_drawn, F_law_drawn⟩ := c.def_ 4 (d := d_law_drawn) rfl
  obtain ⟨e_law_pieces, F_law_pieces⟩ := c.def_ 5 (d := d_law_pieces) rfl
  obtain ⟨eis_tuple_of, Fis_tuple_of⟩ := c.def_ 6 (d := dis_tuple_of) rfl
  obtain ⟨eis_integer, Fis_integer⟩ := c.def_ 7 (d := dis_integer) rfl
  obtain ⟨eis_integer_from, Fis_integer_from⟩ := c.def_ 8 (d := dis_integer_from) rfl
  obtain ⟨eis_tuple_up_to, Fis_tuple_up_to⟩ := c.def_ 9 (d := dis_tuple_up_to) rfl
  obtain ⟨eare_rooms, Fare_rooms⟩ := c.def_ 10 (d := dare_rooms) rfl
  obtain ⟨eis_end, Fis_end⟩ := c.def_ 11 (d := dis_end) rfl
  obtain ⟨eis_tie, Fis_tie⟩ := c.def_ 12 (d := dis_tie) rfl
  obtain ⟨eis_web, Fis_web⟩ := c.def_ 13 (d := dis_web) rfl
  obtain ⟨eways_out, Fways_out⟩ := c.def_ 14 (d := dways_out) rfl
  obtain ⟨eends_of, Fends_of⟩ := c.def_ 15 (d := dends_of) rfl
  obtain ⟨epiece_of, Fpiece_of⟩ := c.def_ 16 (d := dpiece_of) rfl
  obtain ⟨epieces_of, Fpieces_of⟩ := c.def_ 17 (d := dpieces_of) rfl
  obtain ⟨e_law_ends, F_law_ends⟩ := c.def_ 18 (d := d_law_ends) rfl
  obtain ⟨e_law_out, F_law_out⟩ := c.def_ 19 (d := d_law_out) rfl
  obtain ⟨e_law_right, F_law_right⟩ := c.def_ 20 (d := d_law_right) rfl
  obtain ⟨e_law_odd, F_law_odd⟩ := c.def_ 21 (d := d_law_odd) rfl
  obtain ⟨e_law_bent, F_law_bent⟩ := c.def_ 22 (d := d_law_bent) rfl
  obtain ⟨e_law_is_whole, F_law_is_whole⟩ := c.def_ 23 (d := d_law_is_whole) rfl
  obtain ⟨e_law_is_tie, F_law_is_tie⟩ := c.def_ 24 (d := d_law_is_tie) rfl
  obtain ⟨e_law_is_web, F_law_is_web⟩ := c.def_ 25 (d := d_law_is_web) rfl
  obtain ⟨elaw, Flaw⟩ := c.def_ 26 (d := dlaw) rfl
  have g_law_begun := He.glo_ok X G (c.fact 0 (f := .glo "_law_begun") rfl)
  have g_law_draw := He.glo_ok X G (c.fact 1 (f := .glo "_law_draw") rfl)
  have g_law_of := He.glo_ok X G (c.fact 2 (f := .glo "_law_of") rfl)
  have g_law_web := He.glo_ok X G (c.fact 3 (f := .glo "_law_web") rfl)
  have g_law_drawn := He.glo_ok X G (c.fact 4 (f := .glo "_law_drawn") rfl)
  have g_law_pieces := He.glo_ok X G (c.fact 5 (f := .glo "_law_pieces") rfl)
  have gis_tuple_of := He.glo_ok X G (c.fact 6 (f := .glo "is_tuple_of") rfl)
  have gis_integer := He.glo_ok X G (c.fact 7 (f := .glo "is_integer") rfl)
  have gis_integer_from := He.glo_ok X G (c.fact 8 (f := .glo "is_integer_from") rfl)
  have gis_tuple_up_to := He.glo_ok X G (c.fact 9 (f := .glo "is_tuple_up_to") rfl)
  have gare_rooms := He.glo_ok X G (c.fact 10 (f := .glo "are_rooms") rfl)
  have gis_end := He.glo_ok X G (c.fact 11 (f := .glo "is_end") rfl)
  have gis_tie := He.glo_ok X G (c.fact 12 (f := .glo "is_tie") rfl)
  have gis_web := He.glo_ok X G (c.fact 13 (f := .glo "is_web") rfl)
  have gways_out := He.glo_ok X G (c.fact 14 (f := .glo "ways_out") rfl)
  have gends_of := He.glo_ok X G (c.fact 15 (f := .glo "ends_of") rfl)
  have gpiece_of := He.glo_ok X G (c.fact 16 (f := .glo "piece_of") rfl)
  have gpieces_of := He.glo_ok X G (c.fact 17 (f := .glo "pieces_of") rfl)
  have g_law_ends := He.glo_ok X G (c.fact 18 (f := .glo "_law_ends") rfl)
  have g_law_out := He.glo_ok X G (c.fact 19 (f := .glo "_law_out") rfl)
  have g_law_right := He.glo_ok X G (c.fact 20 (f := .glo "_law_right") rfl)
  have g_law_odd := He.glo_ok X G (c.fact 21 (f := .glo "_law_odd") rfl)
  have g_law_bent := He.glo_ok X G (c.fact 22 (f := .glo "_law_bent") rfl)
  have g_law_is_whole := He.glo_ok X G (c.fact 23 (f := .glo "_law_is_whole") rfl)
  have g_law_is_tie := He.glo_ok X G (c.fact 24 (f := .glo "_law_is_tie") rfl)
  have g_law_is_web := He.glo_ok X G (c.fact 25 (f := .glo "_law_is_web") rfl)
  have g_GREATEST_END := He.int_ok X G (c.fact 27 (f := .int "GREATEST_END" 1000) rfl)
  have g_MOST_ROOMS := He.int_ok X G (c.fact 28 (f := .int "MOST_ROOMS" 5) rfl)
  have g_MOST_TIES := He.int_ok X G (c.fact 29 (f := .int "MOST_TIES" 7) rfl)
  have b_abs := He.free_ok X G (c.fact 30 (f := .free "abs") rfl)
  have b_all := He.free_ok X G (c.fact 31 (f := .free "all") rfl)
  have b_bool := He.free_ok X G (c.fact 32 (f := .free "bool") rfl)
  have b_enumerate := He.free_ok X G (c.fact 33 (f := .free "enumerate") rfl)
  have b_int := He.free_ok X G (c.fact 34 (f := .free "int") rfl)
  have b_isinstance := He.free_ok X G (c.fact 35 (f := .free "isinstance") rfl)
  have b_len := He.free_ok X G (c.fact 36 (f := .free "len") rfl)
  have b_min := He.free_ok X G (c.fact 37 (f := .free "min") rfl)
  have b_range := He.free_ok X G (c.fact 38 (f := .free "range") rfl)
  have b_repr := He.free_ok X G (c.fact 39 (f := .free "repr") rfl)
  have b_sorted := He.free_ok X G (c.fact 40 (f := .free "sorted") rfl)
  have b_tuple := He.free_ok X G (c.fact 41 (f := .free "tuple") rfl)
  have e := hfa.symm.trans (He.glo_ok X G (c.fact 26 (f := .glo "law") rfl))
  cases e
  have b := FunD.bindsA (ps := ["script"]) Flaw fun _ _ _ _ _ _ us hl => match us, hl with | [_], _ => rfl
  refine ⟨elaw, fun s v => b s [v] rfl, fun base _ _ => ?_⟩
  have c_law_begun := k_law_begun (P := P) (w := w) (base := base) F_law_begun g_law_begun b_int b_len
  have c_law_draw := k_law_draw (P := P) (w := w) (base := base) F_law_draw g_law_draw b_int b_len
  have c_law_of := k_law_of (P := P) (w := w) (base := base) F_law_of g_law_of b_len c_law_draw
  have c_law_web := k_law_web (P := P) (w := w) (base := base) F_law_web g_law_web b_range b_tuple c_law_draw c_law_of
  have c_law_drawn := k_law_drawn (P := P) (w := w) (base := base) F_law_drawn g_law_drawn b_tuple c_law_draw c_law_web
  have c_law_pieces := k_law_pieces (P := P) (w := w) (base := base) F_law_pieces g_law_pieces b_range b_sorted b_tuple
  have cis_tuple_of := kis_tuple_of (P := P) (w := w) (base := base) Fis_tuple_of gis_tuple_of b_isinstance b_len b_tuple
  have cis_integer := kis_integer (P := P) (w := w) (base := base) Fis_integer gis_integer b_bool b_int b_isinstance
  have cis_integer_from := kis_integer_from (P := P) (w := w) (base := base) Fis_integer_from gis_integer_from cis_integer
  have cis_tuple_up_to := kis_tuple_up_to (P := P) (w := w) (base := base) Fis_tuple_up_to gis_tuple_up_to b_isinstance b_len b_tuple
  have care_rooms := kare_rooms (P := P) (w := w) (base := base) Fare_rooms gare_rooms cis_integer_from
  have cis_end := kis_end (P := P) (w := w) (base := base) Fis_end gis_end g_GREATEST_END cis_integer_from
  have cis_tie := kis_tie (P := P) (w := w) (base := base) Fis_tie gis_tie care_rooms cis_end cis_tuple_of
  have cis_web := kis_web (P := P) (w := w) (base := base) Fis_web gis_web g_MOST_ROOMS g_MOST_TIES b_all cis_integer_from cis_tie cis_tuple_of cis_tuple_up_to
  have cways_out := kways_out (P := P) (w := w) (base := base) Fways_out gways_out b_enumerate b_tuple
  have cends_of := kends_of (P := P) (w := w) (base := base) Fends_of gends_of 
  have cpiece_of := kpiece_of (P := P) (w := w) (base := base) Fpiece_of gpiece_of b_sorted b_tuple cends_of cways_out
  have cpieces_of := kpieces_of (P := P) (w := w) (base := base) Fpieces_of gpieces_of b_range b_tuple cpiece_of
  have c_law_ends := k_law_ends (P := P) (w := w) (base := base) F_law_ends g_law_ends 
  have c_law_out := k_law_out (P := P) (w := w) (base := base) F_law_out g_law_out b_len b_range c_law_ends
  have c_law_right := k_law_right (P := P) (w := w) (base := base) F_law_right g_law_right b_len b_range b_repr b_tuple c_law_drawn c_law_ends c_law_of c_law_out c_law_pieces cends_of cis_web cpiece_of cpieces_of cways_out
  have c_law_odd := k_law_odd (P := P) (w := w) (base := base) F_law_odd g_law_odd c_law_of
  have cbF := k_law_bentF (P := P) (w := w) (base := base) F_law_bent g_law_bent
  have cb0 := k_law_bent0 (P := P) (w := w) (base := base) F_law_bent g_law_bent b_isinstance b_len b_tuple cbF c_law_draw c_law_odd
  have cb1 := k_law_bent1 (P := P) (w := w) (base := base) F_law_bent g_law_bent b_isinstance b_len b_tuple cb0 c_law_draw c_law_odd
  have cb2 := k_law_bent2 (P := P) (w := w) (base := base) F_law_bent g_law_bent b_isinstance b_len b_tuple cb1 c_law_draw c_law_odd
  have cb3 := k_law_bent3 (P := P) (w := w) (base := base) F_law_bent g_law_bent b_isinstance b_len b_tuple cb2 c_law_draw c_law_odd
  have c_law_bent := cb3
  have c_law_is_whole := k_law_is_whole (P := P) (w := w) (base := base) F_law_is_whole g_law_is_whole b_bool b_int b_isinstance
  have c_law_is_tie := k_law_is_tie (P := P) (w := w) (base := base) F_law_is_tie g_law_is_tie b_abs b_isinstance b_len b_tuple c_law_is_whole
  have c_law_is_web := k_law_is_web (P := P) (w := w) (base := base) F_law_is_web g_law_is_web b_isinstance b_len b_tuple c_law_is_tie c_law_is_whole
  exact klaw (P := P) (w := w) (base := base) Flaw hfa b_len b_min b_range b_repr c_law_begun c_law_bent c_law_drawn c_law_is_web c_law_of c_law_right cis_web
end K
open PySem PySem.W PySem.Calls PyProof.Rows
theorem PySem.Challenge.cw_tubewords_k01_webs_judged_holds : PySem.Challenge.rw_tubewords_k01_webs_judged.Holds := by
  w_on; o_law
  refine HandSHeadRun.head_any (r := OpenLaw.row PySem.Challenge.rw_tubewords_k01_webs_judged) (q := view (OpenLaw.row PySem.Challenge.rw_tubewords_k01_webs_judged).prog [32]) (H := K.hk) (ob := K.ob) (M := 2000) (loose := ([("_law_begun" : PySem.Str), ("_law_draw" : PySem.Str), ("_law_of" : PySem.Str), ("_law_web" : PySem.Str), ("_law_drawn" : PySem.Str), ("_law_pieces" : PySem.Str), ("is_tuple_of" : PySem.Str), ("is_integer" : PySem.Str), ("is_integer_from" : PySem.Str), ("is_tuple_up_to" : PySem.Str), ("are_rooms" : PySem.Str), ("is_end" : PySem.Str), ("is_tie" : PySem.Str), ("is_web" : PySem.Str), ("ways_out" : PySem.Str), ("ends_of" : PySem.Str)] ++ [("piece_of" : PySem.Str), ("pieces_of" : PySem.Str), ("_law_ends" : PySem.Str), ("_law_out" : PySem.Str), ("_law_right" : PySem.Str), ("_law_odd" : PySem.Str), ("_law_bent" : PySem.Str), ("_law_is_whole" : PySem.Str), ("_law_is_tie" : PySem.Str), ("_law_is_web" : PySem.Str), ("GREATEST_END" : PySem.Str), ("MOST_ROOMS" : PySem.Str), ("MOST_TIES" : PySem.Str)])) (d := HandSHeadRun.topDef (OpenLaw.row PySem.Challenge.rw_tubewords_k01_webs_judged).prog 32) (kwd := []) K.ob_eq
    (by kernel_rfl) (fun s => by kernel_rfl) K.run (by kernel_rfl) (by kernel_rfl) (by kernel_rfl) (by rfl) (by first | assumption | decide +kernel) (by decide +kernel) ⟨rfl, rfl, rfl, rfl, rfl, by decide +kernel⟩ ?hw ?hc
  case hw => w_witness2
  case hc =>
    refine Dl.walkX (l := PySem.Challenge.rw_tubewords_k01_webs_judged) (n := 63) (k := 8) (x := "script") (CX := L2.CX0) rfl (by decide) (by kernel_rfl) ⟨⟨rfl, by decide, by decide⟩, rfl⟩ ?F (fun _ _ _ _ z => z)
    intro w mg fa h Y G hmg0
    obtain ⟨K, KX, c⟩ := Y
    have hmg : mg ("law" : PySem.Str) = some (.ref fa) := by
      have e : (HandSHeadRun.topDef (OpenLaw.row PySem.Challenge.rw_tubewords_k01_webs_judged).prog 32).name = ("law" : PySem.Str) := by kernel_rfl
      rw [← e]
      exact hmg0
    obtain ⟨fd, hb, hF⟩ := _root_.K.facts (P := (PySem.Challenge.rw_tubewords_k01_webs_judged).prog) (w := w) KX G hmg c
    exact ⟨K, fd, Dl.spD K _root_.K.Claw, KX, hb, fun H a ns hl _ hS => _root_.K.law_sp hl hS, hF⟩

