import PyProof.Rows.All
import KE.KStateDown
import Lean
import HandS.Words
import HandS.WordsExc
import HandS.Head0
import HandS.Head1
import HandS.Head2
import HandS.HeadEnd
import HandS.HeadHook1
import HandS.HeadHook2
import HandS.HeadHook4
import HandS.Head3
import Wide.All
import OpenK.AllK
import Wide.FinOn
import HandS.ForMost
import HandS.Walk
import HandS.Wide
import HandS.IsInst
import HandS.Lambda
import HandS.TupAny
import HandS.Flt
import HandS.Zip
import HandS.Defaults
import HandS.Ends
import HandS.TryOnly
import HandS.RaiseMore
import KE.GoesMore
import PyProof.ReprRoads
import PyProof.ReprLen
import PyProof.Rows.RegStrFacts
import HandS.SortInts
import HandS.Sort
import KE.KSortTupUse
import HandS.Style
import HandS.Gcd
import HandS.TupMul
import HandS.ExcInit
import HandS.ExcField
import HandS.Iter
import HandS.Dict
import PyProof.ZipIter
import HandS.EndTab
import HandS.Conv
import PyProof.TupleOfSeq
import PyProof.Rows.SortWalk
import KE.DataMinKey
import PyProof.WalkInts
import HandS.FltList
import PyProof.P3In
import HandS.SetFor
import HandS.WideMore
import HandS.TupLe
import PyProof.P3Eq
import PySem.Challenge.RW_tubewords_k23_turn_order
set_option Elab.async false
set_option linter.all false
set_option maxRecDepth 100000
set_option maxHeartbeats 0
namespace Dl
open PySem L2
/-- told by a Bool: the class stands over ValueError, is made, is raised, its instances' fields are read -/
def xcA (K : PySem.W.Frag) (C : Addr) : Bool := match K.lookup C with
  | some ⟨.type "type", _, .cls cd, sl⟩ => (match cd.mro, sl.toList with
    | .ref c :: bm, [_, _, _, _, some (.builtin n), _] => decide (c = C) && (decide (n = "ValueError.__new__") && (cd.hasDict && (!cd.hasDel && PySem.HandSPX.refsVE bm)))
    | _, _ => false)
  | _ => false
def xcB (K : PySem.W.Frag) (C : Addr) : Bool := xcA K C && (decide (PySem.W.findIn K (.ref C) "__setattr__" = some (some (.builtin "object.__setattr__"))) &&
  (decide (PySem.W.typeIn K (.ref C) = some (.type "type")) && (PySem.W.keepIn K (.ref C) && xfB K C)))
def clsFn (st : Stmt) (j : Nat) : Stmt := match st with
  | .ClassDef (body := b) .. => b.getD j (.Pass ⟨0, 0, 0, 0⟩)
  | _ => .Pass ⟨0, 0, 0, 0⟩
end Dl
namespace K
open PySem L2 Dl
def top (i : Nat) : Stmt := PySem.Challenge.pw_tubewords_k23_turn_order.main.body.getD i (.Pass ⟨0, 0, 0, 0⟩)
abbrev i_NotInOne : Stmt := clsFn (top 2) 0
abbrev i_OutOfRange : Stmt := clsFn (top 3) 0
abbrev s_law_heard : Stmt := top 28
abbrev s_law_like : Stmt := top 29
abbrev sways_out : Stmt := top 6
abbrev sends_of : Stmt := top 5
abbrev spiece_of : Stmt := top 7
abbrev sprime_divisors : Stmt := top 10
abbrev sprimes_of : Stmt := top 9
abbrev sparts_for : Stmt := top 12
abbrev sorder_for : Stmt := top 14
abbrev scomes_before : Stmt := top 13
abbrev sturn_parts : Stmt := top 11
abbrev s_law_hand_right : Stmt := top 34
abbrev s_law_begun : Stmt := top 16
abbrev s_law_draw : Stmt := top 17
abbrev s_law_of : Stmt := top 18
abbrev s_law_web : Stmt := top 19
abbrev s_law_refused_right : Stmt := top 33
abbrev s_law_ends : Stmt := top 20
abbrev s_law_out : Stmt := top 21
abbrev s_law_home : Stmt := top 22
abbrev s_law_piece : Stmt := top 24
abbrev s_law_primes : Stmt := top 25
abbrev s_law_turn : Stmt := top 30
abbrev s_law_parts : Stmt := top 26
abbrev s_law_key : Stmt := top 27
abbrev s_law_two_right : Stmt := top 31
abbrev s_law_common : Stmt := top 23
abbrev s_law_turn_right : Stmt := top 32
abbrev slaw : Stmt := top 35
end K
namespace K
open PySem PySem.Spec PyProof.Rows L2 Dl
/-! ### the head -/
def d_law_like : He.DefD := ⟨("_law_like", none), "_law_like", "_law_like", defArgs s_law_like, defBody s_law_like, defScope s_law_like, [], []⟩
def dways_out : He.DefD := ⟨("ways_out", none), "ways_out", "ways_out", defArgs sways_out, defBody sways_out, defScope sways_out, [], []⟩
def dends_of : He.DefD := ⟨("ends_of", none), "ends_of", "ends_of", defArgs sends_of, defBody sends_of, defScope sends_of, [], []⟩
def dpiece_of : He.DefD := ⟨("piece_of", none), "piece_of", "piece_of", defArgs spiece_of, defBody spiece_of, defScope spiece_of, [], []⟩
def dprime_divisors : He.DefD := ⟨("prime_divisors", none), "prime_divisors", "prime_divisors", defArgs sprime_divisors, defBody sprime_divisors, defScope sprime_divisors, [], []⟩
def dprimes_of : He.DefD := ⟨("primes_of", none), "primes_of", "primes_of", defArgs sprimes_of, defBody sprimes_of, defScope sprimes_of, [], []⟩
def dparts_for : He.DefD := ⟨("parts_for", none), "parts_for", "parts_for", defArgs sparts_for, defBody sparts_for, defScope sparts_for, [], []⟩
def dorder_for : He.DefD := ⟨("order_for", none), "order_for", "order_for", defArgs sorder_for, defBody sorder_for, defScope sorder_for, [], []⟩
def dcomes_before : He.DefD := ⟨("comes_before", none), "comes_before", "comes_before", defArgs scomes_before, defBody scomes_before, defScope scomes_before, [], []⟩
def dturn_parts : He.DefD := ⟨("turn_parts", none), "turn_parts", "turn_parts", defArgs sturn_parts, defBody sturn_parts, defScope sturn_parts, [], []⟩
def d_law_hand_right : He.DefD := ⟨("_law_hand_right", none), "_law_hand_right", "_law_hand_right", defArgs s_law_hand_right, defBody s_law_hand_right, defScope s_law_hand_right, [], []⟩
def d_law_begun : He.DefD := ⟨("_law_begun", none), "_law_begun", "_law_begun", defArgs s_law_begun, defBody s_law_begun, defScope s_law_begun, [], []⟩
def d_law_draw : He.DefD := ⟨("_law_draw", none), "_law_draw", "_law_draw", defArgs s_law_draw, defBody s_law_draw, defScope s_law_draw, [], []⟩
def d_law_of : He.DefD := ⟨("_law_of", none), "_law_of", "_law_of", defArgs s_law_of, defBody s_law_of, defScope s_law_of, [], []⟩
def d_law_web : He.DefD := ⟨("_law_web", none), "_law_web", "_law_web", defArgs s_law_web, defBody s_law_web, defScope s_law_web, [], []⟩
def d_law_refused_right : He.DefD := ⟨("_law_refused_right", none), "_law_refused_right", "_law_refused_right", defArgs s_law_refused_right, defBody s_law_refused_right, defScope s_law_refused_right, [], []⟩
def d_law_ends : He.DefD := ⟨("_law_ends", none), "_law_ends", "_law_ends", defArgs s_law_ends, defBody s_law_ends, defScope s_law_ends, [], []⟩
def d_law_out : He.DefD := ⟨("_law_out", none), "_law_out", "_law_out", defArgs s_law_out, defBody s_law_out, defScope s_law_out, [], []⟩
def d_law_home : He.DefD := ⟨("_law_home", none), "_law_home", "_law_home", defArgs s_law_home, defBody s_law_home, defScope s_law_home, [], []⟩
def d_law_piece : He.DefD := ⟨("_law_piece", none), "_law_piece", "_law_piece", defArgs s_law_piece, defBody s_law_piece, defScope s_law_piece, [], []⟩
def d_law_primes : He.DefD := ⟨("_law_primes", none), "_law_primes", "_law_primes", defArgs s_law_primes, defBody s_law_primes, defScope s_law_primes, [], []⟩
def d_law_turn : He.DefD := ⟨("_law_turn", none), "_law_turn", "_law_turn", defArgs s_law_turn, defBody s_law_turn, defScope s_law_turn, [], []⟩
def d_law_parts : He.DefD := ⟨("_law_parts", none), "_law_parts", "_law_parts", defArgs s_law_parts, defBody s_law_parts, defScope s_law_parts, [], []⟩
def d_law_key : He.DefD := ⟨("_law_key", none), "_law_key", "_law_key", defArgs s_law_key, defBody s_law_key, defScope s_law_key, [], []⟩
def d_law_two_right : He.DefD := ⟨("_law_two_right", none), "_law_two_right", "_law_two_right", defArgs s_law_two_right, defBody s_law_two_right, defScope s_law_two_right, [], []⟩
def d_law_common : He.DefD := ⟨("_law_common", none), "_law_common", "_law_common", defArgs s_law_common, defBody s_law_common, defScope s_law_common, [], []⟩
def d_law_turn_right : He.DefD := ⟨("_law_turn_right", none), "_law_turn_right", "_law_turn_right", defArgs s_law_turn_right, defBody s_law_turn_right, defScope s_law_turn_right, [], []⟩
def d_law_heard : He.DefD := ⟨("_law_heard", none), "_law_heard", "_law_heard", defArgs s_law_heard, defBody s_law_heard, defScope s_law_heard, [], []⟩
def dlaw : He.DefD := ⟨("law", none), "law", "law", defArgs slaw, defBody slaw, defScope slaw, [], []⟩
def dI_NotInOne : He.DefD := ⟨("NotInOne", some "__init__"), "__init__", "NotInOne.__init__", defArgs i_NotInOne, defBody i_NotInOne, defScope i_NotInOne, [], []⟩
def dI_OutOfRange : He.DefD := ⟨("OutOfRange", some "__init__"), "__init__", "OutOfRange.__init__", defArgs i_OutOfRange, defBody i_OutOfRange, defScope i_OutOfRange, [], []⟩
def fn : List He.DefD := [d_law_like, dways_out, dends_of, dpiece_of, dprime_divisors, dprimes_of, dparts_for, dorder_for, dcomes_before, dturn_parts, d_law_hand_right, d_law_begun, d_law_draw, d_law_of, d_law_web, d_law_refused_right, d_law_ends, d_law_out, d_law_home, d_law_piece, d_law_primes, d_law_turn, d_law_parts, d_law_key, d_law_two_right, d_law_common, d_law_turn_right, d_law_heard, dlaw, dI_NotInOne, dI_OutOfRange]
def fa : List He.Fa := [.glo "_law_like", .glo "ways_out", .glo "ends_of", .glo "piece_of", .glo "prime_divisors", .glo "primes_of", .glo "parts_for", .glo "order_for", .glo "comes_before", .glo "turn_parts", .glo "_law_hand_right", .glo "_law_begun", .glo "_law_draw", .glo "_law_of", .glo "_law_web", .glo "_law_refused_right", .glo "_law_ends", .glo "_law_out", .glo "_law_home", .glo "_law_piece", .glo "_law_primes", .glo "_law_turn", .glo "_law_parts", .glo "_law_key", .glo "_law_two_right", .glo "_law_common", .glo "_law_turn_right", .glo "_law_heard", .glo "law", .free "abs", .free "enumerate", .free "int", .free "len", .free "list", .free "range", .free "repr", .free "sorted", .free "sum", .free "tuple", .glo "NotInOne", .meth "NotInOne" "__init__", .noat "NotInOne" "room", .glo "OutOfRange", .meth "OutOfRange" "__init__", .noat "OutOfRange" "value", .exm "NotInOne" "NotInOne" true, .exm "NotInOne" "OutOfRange" false, .exm "OutOfRange" "NotInOne" false, .exm "OutOfRange" "OutOfRange" true]
abbrev R : PySem.W.OpenRow := PySem.W.OpenLaw.row PySem.Challenge.rw_tubewords_k23_turn_order
def ex (K : PySem.W.Frag) : Bool := (xcB K (He.ga K "NotInOne") && xcB K (He.ga K "OutOfRange"))
def tf : List He.Defn := [("_law_refused_right", none)]
abbrev hk : PySem.W.Hook := He.hookX 4 fa fn [] tf ex
def ob (s : PySem.W.SharedT) : He.AlX := He.obsX 4 fa fn [] tf ex (HandSHeadRun.getT s)
theorem ob_eq (s : PySem.W.SharedT) : ob s = hk.obs s.abs := He.obsX_eq (HandSHeadRun.getT_eq s)
theorem run (w : World) : HandSHeadRun.RunEq R (PySem.W.view R.prog [35]) hk ob 6000 ([("_law_like" : PySem.Str), ("ways_out" : PySem.Str), ("ends_of" : PySem.Str), ("piece_of" : PySem.Str), ("prime_divisors" : PySem.Str), ("primes_of" : PySem.Str), ("parts_for" : PySem.Str), ("order_for" : PySem.Str), ("comes_before" : PySem.Str), ("turn_parts" : PySem.Str), ("_law_hand_right" : PySem.Str), ("_law_begun" : PySem.Str), ("_law_draw" : PySem.Str), ("_law_of" : PySem.Str), ("_law_web" : PySem.Str), ("_law_refused_right" : PySem.Str)] ++ [("_law_ends" : PySem.Str), ("_law_out" : PySem.Str), ("_law_home" : PySem.Str), ("_law_piece" : PySem.Str), ("_law_primes" : PySem.Str), ("_law_turn" : PySem.Str), ("_law_parts" : PySem.Str), ("_law_key" : PySem.Str), ("_law_two_right" : PySem.Str), ("_law_common" : PySem.Str), ("_law_turn_right" : PySem.Str), ("_law_heard" : PySem.Str), ("WebError" : PySem.Str), ("NotInOne" : PySem.Str), ("OutOfRange" : PySem.Str), ("__name__" : PySem.Str)] ++ [("__name__" : PySem.Str), ("__name__" : PySem.Str), ("__name__" : PySem.Str)]) w := by
  intro os
  kernel_rfl
end K
set_option Elab.async false
set_option maxRecDepth 100000
set_option linter.all false
set_option autoImplicit false
/-! A layer over plain data: values are PyData, the heap is split into what stays as it is (F) and the lists that one name alone owns. -/
namespace Dl
open PySem L2
abbrev Px := PyData
def Le (F G : Hp) : Prop := ∀ a o, F a = some o → G a = some o
theorem Le.refl (F : Hp) : Le F F := fun _ _ h => h
theorem Le.trans {F G I : Hp} (h : Le F G) (k : Le G I) : Le F I := fun a o e => k a o (h a o e)
theorem Le.nn {F G : Hp} (h : Le F G) {a : Addr} (e : G a = none) : F a = none := by
  cases q : F a with
  | none => rfl
  | some o => rw [h a o q] at e; cases e
theorem Le.up {F : Hp} {p : Addr} {o : HO} (h : F p = none) : Le F (upd F p o) := fun a u e => by
  rw [upd_ne (ne_of_none e h)]; exact e
theorem Le.up2 {F G : Hp} {p : Addr} {o : HO} (h : Le F G) : Le (upd F p o) (upd G p o) := fun a u e => by
  by_cases q : a = p
  · subst q; rw [upd_same] at e ⊢; exact e
  · rw [upd_ne q] at e ⊢; exact h a u e
/-- the tables of code objects, by the module's facts (a law without a lambda has none), and the module's own tuples -/
class TabF where
  T : PySem.W.Frag → List (Addr × Str)
  K : PySem.W.Frag
  C : Addr → Option (List V)
  ok : ∀ (a : Addr) (vs : List V), C a = some vs → ∀ H : Hp, SqT K H a vs
  N : Str → Option Addr
variable [TabF]
/-- a tuple stands there: of the heap part, or of the module -/
def TupF (F : Hp) (a : Addr) (vs : List V) : Prop := F a = some (.tup vs) ∨ TabF.C a = some vs
theorem TupF.of {F : Hp} {a : Addr} {vs : List V} (h : F a = some (.tup vs)) : TupF F a vs := .inl h
theorem TupF.mono {F G : Hp} {a : Addr} {vs : List V} (h : Le F G) (e : TupF F a vs) : TupF G a vs := e.imp (h a _) id
theorem TupF.sq {K : PySem.W.Frag} {F G : Hp} {a : Addr} {vs : List V} (hk : K = TabF.K) (h : Le F G) (e : TupF F a vs) : SqT K G a vs := by
  rcases e with e | e
  · exact SqT.of (h _ _ e)
  · subst hk
    exact TabF.ok a vs e G
mutual
inductive Rp (F : Hp) : V → Px → Prop
  | non : Rp F .non .none
  | bl (b : Bool) : Rp F (.bl b) (.bool b)
  | int (i : Int) : Rp F (.int i) (.int i)
  | str (x : Str) : Rp F (.str x) (.str x)
  | lst {a : Addr} {vs : List V} {ds : List Px} : F a = some (.lst vs) → RpA F vs ds → Rp F (.ref a) (.list ds)
  | tup {a : Addr} {vs : List V} {ds : List Px} : TupF F a vs → RpA F vs ds → Rp F (.ref a) (.tuple ds)
  | fn {x : Str} {a : Addr} : TabF.N x = some a → Rp F (.ref a) (.dict [(.str x, .none)])
  | dct {a : Addr} {ws : List (Key × V)} {kv1 kv2 : Px × Px} {kvs : List (Px × Px)} : F a = some (.dK ws) → RpW F ws (kv1 :: kv2 :: kvs) → Rp F (.ref a) (.dict (kv1 :: kv2 :: kvs))
inductive RpA (F : Hp) : List V → List Px → Prop
  | nil : RpA F [] []
  | cons {v : V} {vs : List V} {d : Px} {ds : List Px} : Rp F v d → RpA F vs ds → RpA F (v :: vs) (d :: ds)
inductive RpW (F : Hp) : List (Key × V) → List (Px × Px) → Prop
  | nil : RpW F [] []
  | cons {k : Str} {v : V} {d : Px} {ws : List (Key × V)} {kvs : List (Px × Px)} : Rp F v d → RpW F ws kvs → RpW F ((.inr k, v) :: ws) ((.str k, d) :: kvs)
end
mutual
theorem Rp.mono {F G : Hp} (h : Le F G) : ∀ {v : V} {d : Px}, Rp F v d → Rp G v d
  | _, _, .non => .non
  | _, _, .bl b => .bl b
  | _, _, .int i => .int i
  | _, _, .str x => .str x
  | _, _, .lst e r => .lst (h _ _ e) (RpA.mono h r)
  | _, _, .tup e r => .tup (e.mono h) (RpA.mono h r)
  | _, _, .fn e => .fn e
  | _, _, .dct e r => .dct (h _ _ e) (RpW.mono h r)
theorem RpA.mono {F G : Hp} (h : Le F G) : ∀ {vs : List V} {ds : List Px}, RpA F vs ds → RpA G vs ds
  | _, _, .nil => .nil
  | _, _, .cons a b => .cons (Rp.mono h a) (RpA.mono h b)
theorem RpW.mono {F G : Hp} (h : Le F G) : ∀ {ws : List (Key × V)} {ds : List (Px × Px)}, RpW F ws ds → RpW G ws ds
  | _, _, .nil => .nil
  | _, _, .cons a b => .cons (Rp.mono h a) (RpW.mono h b)
end
mutual
theorem Rp.dp {K : PySem.W.Frag} {F G : Hp} (hk : K = TabF.K) (h : Le F G) : ∀ {v : V} {d : Px}, Rp F v d → d.hasDict = false → Dp K G v d
  | _, _, .non, _ => .non
  | _, _, .bl b, _ => .bl b
  | _, _, .int i, _ => .int i
  | _, _, .str x, _ => .str x
  | _, _, .lst e r, n => .lst (SqL.of (h _ _ e)) (RpA.dp hk h r (by simpa [PyData.hasDict] using n))
  | _, _, .tup e r, n => .tup (e.sq hk h) (RpA.dp hk h r (by simpa [PyData.hasDict] using n))
  | _, _, .fn _, n => by simp [PyData.hasDict] at n
  | _, _, .dct _ _, n => by simp [PyData.hasDict] at n
theorem RpA.dp {K : PySem.W.Frag} {F G : Hp} (hk : K = TabF.K) (h : Le F G) : ∀ {vs : List V} {ds : List Px}, RpA F vs ds → PyData.hasDictAll ds = false → DpAll K G vs ds
  | _, _, .nil, _ => .nil
  | _, _, .cons a b, n => by
    simp only [PyData.hasDictAll, Bool.or_eq_false_iff] at n
    exact .cons (Rp.dp hk h a n.1) (RpA.dp hk h b n.2)
end
mutual
theorem lay_nd : ∀ {d : Px}, d.canLay0 = true → d.hasDict = false
  | .none, _ => rfl
  | .bool _, _ => rfl
  | .int _, _ => rfl
  | .str _, _ => rfl
  | .list xs, h => by
    simp only [PyData.canLay0] at h
    simpa [PyData.hasDict] using layAll_nd h
  | .tuple xs, h => by
    simp only [PyData.canLay0] at h
    simpa [PyData.hasDict] using layAll_nd h
  | .dict _, h => by simp [PyData.canLay0] at h
theorem layAll_nd : ∀ {ds : List Px}, PyData.canLayAll0 ds = true → PyData.hasDictAll ds = false
  | [], _ => rfl
  | x :: xs, h => by
    simp only [PyData.canLayAll0, Bool.and_eq_true] at h
    simp only [PyData.hasDictAll, lay_nd h.1, layAll_nd h.2, Bool.or_self]
end
theorem sh_nd {d : Px} (h : SeqAt.shaped d = true) : d.hasDict = false := by
  simp only [SeqAt.shaped, Bool.and_eq_true] at h
  exact lay_nd h.1
theorem RpA.length {F : Hp} : ∀ {vs : List V} {ds : List Px}, RpA F vs ds → vs.length = ds.length
  | _, _, .nil => rfl
  | _, _, .cons _ b => congrArg (· + 1) (RpA.length b)
theorem RpA.append {F : Hp} : ∀ {vs ws : List V} {ds es : List Px}, RpA F vs ds → RpA F ws es → RpA F (vs ++ ws) (ds ++ es)
  | _, _, _, _, .nil, s => s
  | _, _, _, _, .cons a b, s => .cons a (RpA.append b s)
theorem RpA.get {F : Hp} : ∀ {vs : List V} {ds : List Px} {i : Nat} {d : Px}, RpA F vs ds → ds[i]? = some d → ∃ v, vs[i]? = some v ∧ Rp F v d
  | _, _, _, _, .nil, h => by simp at h
  | _, _, 0, _, .cons a _, h => by simp at h; subst h; exact ⟨_, rfl, a⟩
  | _, _, i + 1, _, .cons _ b, h => by
    obtain ⟨v, e, r⟩ := RpA.get (i := i) b (by simpa using h)
    exact ⟨v, by simpa using e, r⟩
theorem RpA.getV {F : Hp} {vs : List V} {ds : List Px} {i : Nat} {v : V} (r : RpA F vs ds) (h : vs[i]? = some v) : ∃ d, ds[i]? = some d ∧ Rp F v d := by
  have hl := r.length
  have hi : i < vs.length := (List.getElem?_eq_some_iff.mp h).1
  obtain ⟨w, e, q⟩ := r.get (i := i) (d := ds[i]'(by omega)) (by simp)
  rw [h] at e; cases e
  exact ⟨_, by simp, q⟩
theorem RpA.take {F : Hp} : ∀ {vs : List V} {ds : List Px} (n : Nat), RpA F vs ds → RpA F (vs.take n) (ds.take n)
  | _, _, 0, _ => by simpa using RpA.nil
  | _, _, _ + 1, .nil => by simpa using RpA.nil
  | _, _, n + 1, .cons a b => .cons a (RpA.take n b)
theorem RpA.drop {F : Hp} : ∀ {vs : List V} {ds : List Px} (n : Nat), RpA F vs ds → RpA F (vs.drop n) (ds.drop n)
  | _, _, 0, r => r
  | _, _, _ + 1, .nil => .nil
  | _, _, n + 1, .cons _ b => RpA.drop n b
theorem RpA.set {F : Hp} {v : V} {d : Px} (r : Rp F v d) : ∀ {vs : List V} {ds : List Px} (i : Nat), RpA F vs ds → RpA F (vs.set i v) (ds.set i d)
  | _, _, _, .nil => .nil
  | _, _, 0, .cons _ t => .cons r t
  | _, _, i + 1, .cons q t => .cons q (RpA.set r i t)
theorem RpA.dropLast {F : Hp} {vs : List V} {ds : List Px} (r : RpA F vs ds) : RpA F vs.dropLast ds.dropLast := by
  rw [List.dropLast_eq_take, List.dropLast_eq_take, r.length]
  exact r.take _
theorem RpA.one {F : Hp} {v : V} {d : Px} (r : Rp F v d) : RpA F [v] [d] := .cons r .nil
theorem RpA.map_int {F : Hp} : ∀ (ns : List Int), RpA F (ns.map V.int) (ns.map .int)
  | [] => .nil
  | n :: ns => .cons (.int n) (RpA.map_int ns)
/-! ### dicts: keys ints, or tuples of ints and texts -/
inductive RpK (F : Hp) : List (Key × V) → List (Int × Px) → Prop
  | nil : RpK F [] []
  | cons {k : Int} {v : V} {d : Px} {ws : List (Key × V)} {kvs : List (Int × Px)} : Rp F v d → RpK F ws kvs → RpK F ((.inl k, v) :: ws) ((k, d) :: kvs)
inductive RpT (F : Hp) : List (List Key × V) → List (List Key × Px) → Prop
  | nil : RpT F [] []
  | cons {k : List Key} {v : V} {d : Px} {ws : List (List Key × V)} {kvs : List (List Key × Px)} : Rp F v d → RpT F ws kvs → RpT F ((k, v) :: ws) ((k, d) :: kvs)
theorem RpK.mono {F G : Hp} (h : Le F G) : ∀ {ws : List (Key × V)} {kvs : List (Int × Px)}, RpK F ws kvs → RpK G ws kvs
  | _, _, .nil => .nil
  | _, _, .cons a b => .cons (Rp.mono h a) (RpK.mono h b)
theorem RpT.mono {F G : Hp} (h : Le F G) : ∀ {ws : List (List Key × V)} {kvs : List (List Key × Px)}, RpT F ws kvs → RpT G ws kvs
  | _, _, .nil => .nil
  | _, _, .cons a b => .cons (Rp.mono h a) (RpT.mono h b)
inductive Dic where
  | k (kvs : List (Int × Px))
  | t (kvs : List (List Key × Px))
def DicR (F : Hp) : Dic → HO → Prop
  | .k kvs, o => ∃ ws, o = .dK ws ∧ RpK F ws kvs
  | .t kvs, o => ∃ ws, o = .dT ws ∧ RpT F ws kvs
theorem DicR.mono {F G : Hp} (h : Le F G) {D : Dic} {o : HO} (r : DicR F D o) : DicR G D o := by
  cases D with
  | k kvs => obtain ⟨ws, e, r⟩ := r; exact ⟨ws, e, r.mono h⟩
  | t kvs => obtain ⟨ws, e, r⟩ := r; exact ⟨ws, e, r.mono h⟩
theorem DicR.ntbl {F : Hp} {D : Dic} {o : HO} (r : DicR F D o) (ps : Array Value) : o ≠ .tbl ps := by
  cases D with
  | k kvs => obtain ⟨ws, e, r⟩ := r; rw [e]; exact fun z => nomatch z
  | t kvs => obtain ⟨ws, e, r⟩ := r; rw [e]; exact fun z => nomatch z
theorem DicR.ngen {F : Hp} {D : Dic} {o : HO} (r : DicR F D o) (v : V) (ws : List (Key × V)) : o ≠ .dK ((.inr "left", v) :: ws) := by
  cases D with
  | k kvs =>
    obtain ⟨us, e, r⟩ := r
    rw [e]
    intro z
    cases z
    cases r
  | t kvs => obtain ⟨us, e, r⟩ := r; rw [e]; exact fun z => nomatch z
/-! ### slots and configurations -/
/-- what a name or an expression holds: data; a list that nothing else holds; the drawing state -/
inductive Rv where
  | d (x : Px)
  | own (xs : List Px)
  | gen
  | scr (ns : List Int)
  | dic (D : Dic)
/-- what no two names hold together -/
def Rv.mu : Rv → Prop
  | .own _ => True
  | .dic _ => True
  | _ => False
@[simp] theorem mu_d {x : Px} : (Rv.d x).mu = False := rfl
@[simp] theorem mu_gen : Rv.gen.mu = False := rfl
@[simp] theorem mu_scr {ns : List Int} : (Rv.scr ns).mu = False := rfl
@[simp] theorem mu_own {xs : List Px} : (Rv.own xs).mu = True := rfl
@[simp] theorem mu_dic {D : Dic} : (Rv.dic D).mu = True := rfl
structure Cf where
  env : List (Option Rv)
  g : Option Nat
/-- an exception, by its class's name and its fields -/
structure Xn where
  cls : Str
  fields : List (Str × Px)
/-- the drawing state at am: so many draws at most -/
def GenAt (F H : Hp) (am : Addr) (n : Nat) : Prop :=
  ∃ (left seed spot : Int) (ac : Addr) (ns : List Int), H am = some (.dK [(.inr "left", .int left), (.inr "seed", .int seed), (.inr "cells", .ref ac), (.inr "spot", .int spot)]) ∧
    F ac = some (.lst (ns.map V.int)) ∧ ns ≠ [] ∧ ns.length ≤ 1000 ∧ 0 ≤ left ∧ 0 ≤ seed ∧ seed < 2147483647 ∧ 0 ≤ spot ∧ spot ≤ n ∧ n ≤ 2 ^ 40
structure Dx where
  K : PySem.W.Frag
  a0 : Option Addr
  F0 : Hp
  H0 : Hp
  XE : Xn → Option Nat → Addr → Hp → Hp → Prop
/-- a slot's content, over F and H -/
def Sl (Δ : Dx) (am : Addr) (F H : Hp) : Rv → V → Prop
  | .d x, v => Rp F v x
  | .own xs, v => ∃ a vs, v = .ref a ∧ H a = some (.lst vs) ∧ F a = none ∧ Δ.H0 a = none ∧ RpA F vs xs
  | .gen, v => v = .ref am
  | .scr ns, v => ∃ a, v = .ref a ∧ SqL Δ.K F a (ns.map V.int)
  | .dic D, v => ∃ a o, v = .ref a ∧ H a = some o ∧ F a = none ∧ Δ.H0 a = none ∧ DicR F D o
theorem sq_le {K : PySem.W.Frag} {F G : Hp} {a : Addr} {xs : List V} (l : Le F G) (h : SqL K F a xs) : SqL K G a xs := Same.seq (fun b o e => l b o e) h
def Dx.T (Δ : Dx) : List (Addr × Str) := TabF.T Δ.K
/-- no table stands there -/
def NoT (F : Hp) : Prop := ∀ a ps, F a ≠ some (.tbl ps)
/-- the same without its tables -/
def unT (H : Hp) : Hp := fun a => match H a with
  | some (.tbl _) => none
  | o => o
theorem unT_not (H : Hp) : NoT (unT H) := fun a ps z => by
  unfold unT at z
  split at z
  · cases z
  · rename_i h
    exact h _ z
theorem unT_of {H : Hp} {a : Addr} {o : HO} (h : unT H a = some o) : H a = some o := by
  unfold unT at h
  split at h
  · cases h
  · exact h
theorem unT_to {H : Hp} {a : Addr} {o : HO} (h : H a = some o) (n : ∀ ps, o ≠ .tbl ps) : unT H a = some o := by
  unfold unT
  split
  · rename_i ps e
    rw [h] at e
    exact absurd (Option.some.inj e) (n ps)
  · exact h
theorem unT_none {H : Hp} {a : Addr} (h : unT H a = none) : H a = none ∨ ∃ ps, H a = some (.tbl ps) := by
  unfold unT at h
  split at h
  · rename_i ps e
    exact .inr ⟨ps, e⟩
  · exact .inl h
theorem NoT.upd {F : Hp} {a : Addr} {o : HO} (t : NoT F) (h : ∀ ps, o ≠ .tbl ps) : NoT (L2.upd F a o) := fun b ps z => by
  by_cases q : b = a
  · rw [q, upd_same] at z
    exact h ps (Option.some.inj z)
  · rw [upd_ne q] at z
    exact t b ps z
/-- at a def's entry -/
def Tb0 (K : PySem.W.Frag) (F H : Hp) : Prop := (∀ p ∈ TabF.T K, LamX.TabS H p.1 p.2) ∧ NoT F
def Tb (Δ : Dx) (F H : Hp) : Prop := (∀ p ∈ Δ.T, LamX.TabS H p.1 p.2) ∧ NoT F ∧ NoT Δ.H0
/-- tables stay where neither a table nor a code object changes -/
theorem tabs_upd {H : Hp} {P a : Addr} {q : Str} {o : HO} (t : LamX.TabS H P q) (h : ∀ u, H a = some u → (∀ ps, u ≠ .tbl ps) ∧ ∀ c q, u ≠ LamX.CodeO c q) : LamX.TabS (upd H a o) P q := by
  obtain ⟨ps, h1, h2, h3⟩ := t
  have n1 : P ≠ a := by
    rintro rfl
    exact (h _ h1).1 ps rfl
  refine ⟨ps, by rw [upd_ne n1]; exact h1, h2, fun pos cv hc => ?_⟩
  obtain ⟨c, e1, e2⟩ := h3 pos cv hc
  have n2 : c ≠ a := by
    rintro rfl
    exact (h _ e2).2 c q rfl
  exact ⟨c, e1, by rw [upd_ne n2]; exact e2⟩
theorem lst_ok {vs : List V} : (∀ ps, (HO.lst vs) ≠ .tbl ps) ∧ ∀ c q, (HO.lst vs) ≠ LamX.CodeO c q := ⟨fun ps z => (nomatch z), fun c q z => by
  unfold LamX.CodeO at z
  cases z⟩
theorem dK_ok {ws : List (Key × V)} : (∀ ps, (HO.dK ws) ≠ .tbl ps) ∧ ∀ c q, (HO.dK ws) ≠ LamX.CodeO c q := ⟨fun ps z => (nomatch z), fun c q z => by
  unfold LamX.CodeO at z
  cases z⟩
theorem Tb.upd {Δ : Dx} {F H : Hp} {a : Addr} {o : HO} (t : Tb Δ F H) (h : ∀ u, H a = some u → (∀ ps, u ≠ .tbl ps) ∧ ∀ c q, u ≠ LamX.CodeO c q) : Tb Δ F (L2.upd H a o) := ⟨fun p hp => tabs_upd (t.1 p hp) h, t.2⟩
theorem Tb.new {Δ : Dx} {F H : Hp} {a : Addr} {o : HO} (t : Tb Δ F H) (h : H a = none) : Tb Δ F (L2.upd H a o) := t.upd fun u e => by rw [h] at e; cases e
theorem Tb.lst {Δ : Dx} {F H : Hp} {a : Addr} {o : HO} {vs : List V} (t : Tb Δ F H) (h : H a = some (.lst vs)) : Tb Δ F (L2.upd H a o) := t.upd fun u e => by rw [h] at e; cases e; exact lst_ok
theorem Tb.dK {Δ : Dx} {F H : Hp} {a : Addr} {o : HO} {ws : List (Key × V)} (t : Tb Δ F H) (h : H a = some (.dK ws)) : Tb Δ F (L2.upd H a o) := t.upd fun u e => by rw [h] at e; cases e; exact dK_ok
/-- something stands there, no table -/
def Lv (H : Hp) (a : Addr) : Prop := ∃ o, H a = some o ∧ ∀ ps, o ≠ .tbl ps
theorem Lv.some {H : Hp} {a : Addr} (l : Lv H a) : H a ≠ none := by
  obtain ⟨o, e, _⟩ := l
  rw [e]
  exact fun z => nomatch z
theorem Lv.un {H : Hp} {a : Addr} (l : Lv H a) : unT H a ≠ none := by
  obtain ⟨o, e, n⟩ := l
  rw [unT_to e n]
  exact fun z => nomatch z
theorem Lv.upd {H : Hp} {a p : Addr} {o : HO} (l : Lv H a) (n : ∀ ps, o ≠ .tbl ps) : Lv (L2.upd H p o) a := by
  by_cases q : a = p
  · rw [q]
    exact ⟨o, upd_same, n⟩
  · obtain ⟨u, e, m⟩ := l
    exact ⟨u, by rw [upd_ne q]; exact e, m⟩
structure Ok (Δ : Dx) (am : Addr) (F : Hp) (σ : St) (H : Hp) (c : Cf) : Prop where
  fh : Le F H
  f0 : Le Δ.F0 F
  fr : ∀ a, F a ≠ none → Δ.F0 a ≠ none ∨ Δ.H0 a = none
  tb : Tb Δ F H
  pr : ∀ a o, Δ.H0 a = some o → Δ.a0 ≠ some a → H a = some o
  al : ∀ a, Δ.a0 = some a → Lv H a ∧ Δ.H0 a ≠ none
  gn : ∀ n, c.g = some n → (Δ.a0 = some am ∨ (Δ.a0 = none ∧ Δ.H0 am = none)) ∧ F am = none ∧ GenAt F H am n
  len : σ.length = c.env.length
  sv : ∀ (i : Nat) (r : Rv), c.env[i]? = some (some r) → ∃ v, σ[i]? = some (some v) ∧ Sl Δ am F H r v
  di : ∀ (i j : Nat) (r r' : Rv), i ≠ j → c.env[i]? = some (some r) → c.env[j]? = some (some r') → r.mu → r'.mu → σ[i]? ≠ σ[j]?
theorem Sl.at {Δ : Dx} {am : Addr} {F H : Hp} {r : Rv} {v : V} (s : Sl Δ am F H r v) (h : r.mu) : ∃ a o, v = .ref a ∧ H a = some o ∧ F a = none ∧ Δ.H0 a = none := by
  cases r with
  | d x => exact h.elim
  | gen => exact h.elim
  | scr ns => exact h.elim
  | own xs =>
    obtain ⟨a, vs, e1, e2, e3, e4, _⟩ := s
    exact ⟨a, _, e1, e2, e3, e4⟩
  | dic D =>
    obtain ⟨a, o, e1, e2, e3, e4, _⟩ := s
    exact ⟨a, _, e1, e2, e3, e4⟩
theorem Sl.atN {Δ : Dx} {am : Addr} {F H : Hp} {r : Rv} {v : V} (s : Sl Δ am F H r v) (h : r.mu) : ∃ a o, v = .ref a ∧ H a = some o ∧ ∀ ps, o ≠ .tbl ps := by
  cases r with
  | d x => exact h.elim
  | gen => exact h.elim
  | scr ns => exact h.elim
  | own xs =>
    obtain ⟨a, vs, e1, e2, _⟩ := s
    exact ⟨a, _, e1, e2, lst_ok.1⟩
  | dic D =>
    obtain ⟨a, o, e1, e2, _, _, e5⟩ := s
    exact ⟨a, _, e1, e2, e5.ntbl⟩
/-- an expression's result -/
def Rs (Δ : Dx) (am : Addr) (F : Hp) (σ : St) (H : Hp) (c : Cf) (r : Rv) (v : V) : Prop :=
  Sl Δ am F H r v ∧ (r.mu → ∀ (i : Nat) (r' : Rv), c.env[i]? = some (some r') → r'.mu → σ[i]? ≠ some (some v))
/-- behind an exception, or at a def's end -/
structure Fin (Δ : Dx) (am : Addr) (F H : Hp) (g : Option Nat) : Prop where
  fh : Le F H
  f0 : Le Δ.F0 F
  fr : ∀ a, F a ≠ none → Δ.F0 a ≠ none ∨ Δ.H0 a = none
  tb : Tb Δ F H
  pr : ∀ a o, Δ.H0 a = some o → Δ.a0 ≠ some a → H a = some o
  al : ∀ a, Δ.a0 = some a → Lv H a ∧ Δ.H0 a ≠ none
  gn : ∀ n, g = some n → (Δ.a0 = some am ∨ (Δ.a0 = none ∧ Δ.H0 am = none)) ∧ F am = none ∧ GenAt F H am n
section
variable {Δ : Dx} {am : Addr} {F F' G : Hp} {σ : St} {H H' : Hp} {c : Cf}
theorem Ok.tbs {K : PySem.W.Frag} (k : Ok Δ am F σ H c) (hK : Δ.K = K) : Tb0 K F H := by
  subst hK
  exact ⟨k.tb.1, k.tb.2.1⟩
theorem Ok.fin (k : Ok Δ am F σ H c) : Fin Δ am F H c.g := ⟨k.fh, k.f0, k.fr, k.tb, k.pr, k.al, k.gn⟩
theorem GenAt.ne {n : Nat} {a : Addr} {vs : List V} (g : GenAt F H am n) (h : H a = some (.lst vs)) : a ≠ am := by
  obtain ⟨_, _, _, _, _, e, _⟩ := g
  rintro rfl
  rw [h] at e; cases e
theorem GenAt.neD {n : Nat} {a : Addr} {D : Dic} {o : HO} (g : GenAt F H am n) (h : H a = some o) (r : DicR F D o) : a ≠ am := by
  obtain ⟨_, _, _, _, _, e, _⟩ := g
  rintro rfl
  rw [h] at e
  exact r.ngen _ _ (Option.some.inj e)
theorem GenAt.sm {n : Nat} (g : GenAt F H am n) : H am ≠ none := by
  obtain ⟨_, _, _, _, _, e, _⟩ := g
  rw [e]; exact fun z => nomatch z
/-- nothing that stood at the entry stands at a free address -/
theorem Ok.new (k : Ok Δ am F σ H c) {p : Addr} (hp : H p = none) : Δ.H0 p = none := by
  cases q : Δ.H0 p with
  | none => rfl
  | some o =>
    by_cases e : Δ.a0 = some p
    · exact absurd hp (k.al p e).1.some
    · rw [k.pr p o q e] at hp; cases hp
theorem Ok.ngen (k : Ok Δ am F σ H c) {n : Nat} (e : c.g = some n) {p : Addr} (hp : H p = none) : p ≠ am := by
  rintro rfl
  exact (k.gn n e).2.2.sm hp
/-- a new object -/
theorem Ok.alloc (k : Ok Δ am F σ H c) {p : Addr} (hp : H p = none) (o : HO) : Ok Δ am F σ (upd H p o) c where
  fh := k.fh.trans (Le.up hp)
  f0 := k.f0
  fr := k.fr
  tb := k.tb.new hp
  pr := fun a u e n => Le.up hp a u (k.pr a u e n)
  al := fun a e => by
    obtain ⟨⟨u, h1, h2⟩, h3⟩ := k.al a e
    exact ⟨⟨u, Le.up hp _ _ h1, h2⟩, h3⟩
  gn := fun n e => by
    obtain ⟨h1, h2, l, s, sp, ac, ns, h3, h4⟩ := k.gn n e
    exact ⟨h1, h2, l, s, sp, ac, ns, Le.up hp _ _ h3, h4⟩
  len := k.len
  sv := fun i r e => by
    obtain ⟨v, h1, h2⟩ := k.sv i r e
    refine ⟨v, h1, ?_⟩
    cases r with
    | d x => exact h2
    | gen => exact h2
    | scr ns => exact h2
    | own xs =>
      obtain ⟨a, vs, e1, e2, e3⟩ := h2
      exact ⟨a, vs, e1, Le.up hp _ _ e2, e3⟩
    | dic D =>
      obtain ⟨a, vs, e1, e2, e3⟩ := h2
      exact ⟨a, vs, e1, Le.up hp _ _ e2, e3⟩
  di := k.di
/-- more that stays as it is: at a free address of F -/
theorem Ok.stay (k : Ok Δ am F σ H c) (nt : NoT G) (l : Le F G) (gh : Le G H) (fr : ∀ a, G a ≠ none → F a ≠ none ∨ Δ.H0 a = none) (ng : ∀ n, c.g = some n → G am = none)
    (no : ∀ (i : Nat) (r : Rv) (a : Addr), c.env[i]? = some (some r) → r.mu → σ[i]? = some (some (.ref a)) → G a = none) : Ok Δ am G σ H c where
  fh := gh
  f0 := k.f0.trans l
  fr := fun a h => (fr a h).elim (fun z => k.fr a z) .inr
  tb := ⟨k.tb.1, nt, k.tb.2.2⟩
  pr := k.pr
  al := k.al
  gn := fun n e => by
    obtain ⟨h1, h2, left, s, sp, ac, ns, h3, h4, h5⟩ := k.gn n e
    exact ⟨h1, ng n e, left, s, sp, ac, ns, h3, l _ _ h4, h5⟩
  len := k.len
  sv := fun i r e => by
    obtain ⟨v, h1, h2⟩ := k.sv i r e
    refine ⟨v, h1, ?_⟩
    cases r with
    | d x => exact Rp.mono l h2
    | gen => exact h2
    | scr ns =>
      obtain ⟨a, e1, e2⟩ := h2
      exact ⟨a, e1, sq_le l e2⟩
    | own xs =>
      obtain ⟨a, vs, e1, e2, e3, e4, e5⟩ := h2
      subst e1
      exact ⟨a, vs, rfl, e2, no i _ a e True.intro h1, e4, e5.mono l⟩
    | dic D =>
      obtain ⟨a, vs, e1, e2, e3, e4, e5⟩ := h2
      subst e1
      exact ⟨a, vs, rfl, e2, no i _ a e True.intro h1, e4, e5.mono l⟩
  di := k.di
/-- an own list, named no more, becomes data -/
theorem Ok.frz (k : Ok Δ am F σ H c) {a : Addr} {vs : List V} (h : H a = some (.lst vs)) (h0 : Δ.H0 a = none) (hf : F a = none) (no : ∀ (i : Nat) (r : Rv), c.env[i]? = some (some r) → r.mu → σ[i]? ≠ some (some (.ref a))) :
    Ok Δ am (upd F a (.lst vs)) σ H c ∧ Le F (upd F a (.lst vs)) := by
  refine ⟨k.stay (k.tb.2.1.upd lst_ok.1) (Le.up hf) ?_ ?_ ?_ ?_, Le.up hf⟩
  · intro b o e
    by_cases q : b = a
    · subst q; rw [upd_same] at e; rw [h]; exact e
    · rw [upd_ne q] at e; exact k.fh b o e
  · intro b e
    by_cases q : b = a
    · subst q; exact .inr h0
    · rw [upd_ne q] at e; exact .inl e
  · intro n e
    have ne : am ≠ a := ((k.gn n e).2.2.ne h).symm
    rw [upd_ne ne]
    exact (k.gn n e).2.1
  · intro i r b e1 mu e2
    have ne : b ≠ a := by
      rintro rfl
      exact no i r e1 mu e2
    rw [upd_ne ne]
    obtain ⟨v, e3, e4⟩ := k.sv i _ e1
    rw [e2] at e3
    cases e3
    cases r with
    | own xs =>
      obtain ⟨a', vs', e5, e6, e7, _⟩ := e4
      cases e5
      exact e7
    | dic D =>
      obtain ⟨a', vs', e5, e6, e7, _⟩ := e4
      cases e5
      exact e7
    | d x => exact mu.elim
    | gen => exact mu.elim
    | scr ns => exact mu.elim
/-- a result as data -/
def asD (r : Rv) (k : Px → Prop) : Prop := match r with
  | .d x => k x
  | .own xs => k (.list xs)
  | .gen => False
  | .scr _ => False
  | .dic _ => False
theorem Rs.data {r : Rv} {v : V} {k : Px → Prop} (o : Ok Δ am F σ H c) (h : Rs Δ am F σ H c r v) (q : asD r k) : ∃ x F', k x ∧ Le F F' ∧ Ok Δ am F' σ H c ∧ Rp F' v x := by
  cases r with
  | d x => exact ⟨x, F, q, Le.refl F, o, h.1⟩
  | gen => exact q.elim
  | scr ns => exact q.elim
  | dic D => exact q.elim
  | own xs =>
    obtain ⟨⟨a, vs, e1, e2, e3, e4, e5⟩, e6⟩ := h
    subst e1
    obtain ⟨o', l⟩ := o.frz e2 e4 e3 fun i r e mu => e6 True.intro i r e mu
    exact ⟨_, _, q, l, o', .lst upd_same (e5.mono l)⟩
end
end Dl
set_option Elab.async false
set_option maxRecDepth 100000
set_option linter.all false
set_option autoImplicit false
namespace Dl
open PySem L2
variable [TabF]
/-! ### what is wanted, over data -/
abbrev XP := Xn → Option Nat → Prop
abbrev WE := Cf → (Rv → Cf → Prop) → XP → Prop
abbrev WT := Cf → (Bool → Cf → Prop) → XP → Prop
abbrev WA := Cf → (List Rv → Cf → Prop) → XP → Prop
abbrev WI := Cf → (List Px → Cf → Prop) → XP → Prop
abbrev WG := Rv → Cf → (Cf → Prop) → Prop
inductive Fl where
  | nx (c : Cf)
  | rt (r : Rv) (g : Option Nat)
  | bk (c : Cf)
  | ct (c : Cf)
abbrev WS := Cf → (Fl → Prop) → XP → Prop
def KX (Δ : Dx) (am : Addr) (F : Hp) (X : XP) : Prop := ∀ x g F' H', X x g → Le F F' → Fin Δ am F' H' g → Δ.XE x g am F' H'
theorem KX.le {Δ : Dx} {am : Addr} {F G : Hp} {X : XP} (k : KX Δ am F X) (l : Le F G) : KX Δ am G X := fun x g F' H' h l' f => k x g F' H' h (l.trans l') f
def KQ (Δ : Dx) (am : Addr) (F : Hp) (σ : St) (P : Rv → Cf → Prop) (Q : VK) : Prop :=
  ∀ r c' F' v H', P r c' → Le F F' → Ok Δ am F' σ H' c' → Rs Δ am F' σ H' c' r v → Q v H'
def tE (Δ : Dx) (f : WE) : TE := fun σ H Q => ∃ am F c P X, Ok Δ am F σ H c ∧ f c P X ∧ KQ Δ am F σ P Q ∧ KX Δ am F X
def tT (Δ : Dx) (f : WT) : TT := fun σ H Q => ∃ am F c P X, Ok Δ am F σ H c ∧ f c P X ∧
  (∀ b c' F' H', P b c' → Le F F' → Ok Δ am F' σ H' c' → Q b H') ∧ KX Δ am F X
/-- the values of arguments (own lists are data here) -/
inductive Rss (Δ : Dx) (am : Addr) (F : Hp) : List Rv → List V → Prop
  | nil : Rss Δ am F [] []
  | d {x : Px} {v : V} {rs : List Rv} {vs : List V} : Rp F v x → Rss Δ am F rs vs → Rss Δ am F (.d x :: rs) (v :: vs)
  | gen {rs : List Rv} {vs : List V} : Rss Δ am F rs vs → Rss Δ am F (.gen :: rs) (.ref am :: vs)
  | scr {a : Addr} {ns : List Int} {rs : List Rv} {vs : List V} : SqL Δ.K F a (ns.map V.int) → Rss Δ am F rs vs → Rss Δ am F (.scr ns :: rs) (.ref a :: vs)
theorem Rss.mono {Δ : Dx} {am : Addr} {F G : Hp} (l : Le F G) : ∀ {rs : List Rv} {vs : List V}, Rss Δ am F rs vs → Rss Δ am G rs vs
  | _, _, .nil => .nil
  | _, _, .d h r => .d (h.mono l) (r.mono l)
  | _, _, .gen r => .gen (r.mono l)
  | _, _, .scr h r => .scr (sq_le l h) (r.mono l)
def tA (Δ : Dx) (f : WA) : TA := fun σ H Q => ∃ am F c P X, Ok Δ am F σ H c ∧ f c P X ∧
  (∀ rs c' F' vs H', P rs c' → Le F F' → Ok Δ am F' σ H' c' → Rss Δ am F' rs vs → Q vs H') ∧ KX Δ am F X
/-- the slots but those in ws are as they were -/
def Tch (ws : List Nat) (σ σ' : St) : Prop := σ'.length = σ.length ∧ ∀ i : Nat, i ∉ ws → σ'[i]? = σ[i]?
def tG (Δ : Dx) (ws : List Nat) (f : WG) : TG := fun v σ H Q => ∃ am F c r P, Ok Δ am F σ H c ∧ Rs Δ am F σ H c r v ∧ f r c P ∧
  (∀ c' F' σ' H', P c' → Le F F' → Ok Δ am F' σ' H' c' → Tch ws σ σ' → Q σ' H')
def KF (Δ : Dx) (am : Addr) (F : Hp) (P : Fl → Prop) (D : Ends) : Prop :=
  (∀ c am' F' σ' H', P (.nx c) → Le F F' → Ok Δ am' F' σ' H' c → D.nx σ' H') ∧
  (∀ c am' F' σ' H', P (.bk c) → Le F F' → Ok Δ am' F' σ' H' c → D.bk σ' H') ∧
  (∀ c am' F' σ' H', P (.ct c) → Le F F' → Ok Δ am' F' σ' H' c → D.ct σ' H') ∧
  (∀ r g am' F' H' v, P (.rt r g) → Le F F' → Fin Δ am' F' H' g → Sl Δ am' F' H' r v → D.rt v H')
def KXs (Δ : Dx) (F : Hp) (X : XP) : Prop := ∀ am, KX Δ am F X
theorem KXs.le {Δ : Dx} {F G : Hp} {X : XP} (k : KXs Δ F X) (l : Le F G) : KXs Δ G X := fun am => (k am).le l
def tS (Δ : Dx) (f : WS) : TS := fun D σ H => ∃ am F c P X, Ok Δ am F σ H c ∧ f c P X ∧ KF Δ am F P D ∧ KXs Δ F X
theorem _root_.L2.PE.imp {X : Cx} {e : Expr} {t t' : TE} (h : PE X e t) (w : ∀ σ H Q, t' σ H Q → t σ H Q) : PE X e t' :=
  ⟨fun pins s σ H Q I q => h.run pins s σ H Q I (w σ H Q q)⟩
theorem _root_.L2.PT.imp {X : Cx} {e : Expr} {t t' : TT} (h : PT X e t) (w : ∀ σ H Q, t' σ H Q → t σ H Q) : PT X e t' :=
  ⟨fun pins s σ H Q I q => h.run pins s σ H Q I (w σ H Q q)⟩
theorem _root_.L2.PA.imp {X : Cx} {e : List Expr} {t t' : TA} (h : PA X e t) (w : ∀ σ H Q, t' σ H Q → t σ H Q) : PA X e t' :=
  ⟨fun pos pins s σ H Q I q => h.run pos pins s σ H Q I (w σ H Q q)⟩
theorem _root_.L2.PS.imp {X : Cx} {e : Stmt} {t t' : TS} (h : PS X e t) (w : ∀ D σ H, t' D σ H → t D σ H) : PS X e t' :=
  ⟨fun pins s σ H D I q => h.run pins s σ H D I (w D σ H q)⟩
theorem _root_.L2.PSs.imp {X : Cx} {e : List Stmt} {t t' : TS} (h : PSs X e t) (w : ∀ D σ H, t' D σ H → t D σ H) : PSs X e t' :=
  ⟨fun pins s σ H D I q => h.run pins s σ H D I (w D σ H q)⟩
theorem _root_.L2.PG.imp {X : Cx} {e : Expr} {t t' : TG} (h : PG X e t) (w : ∀ v σ H Q, t' v σ H Q → t v σ H Q) : PG X e t' :=
  ⟨fun pins s σ H v u Q I r q => h.run pins s σ H v u Q I r (w v σ H Q q)⟩
theorem _root_.L2.PI.imp {X : Cx} {tg e : Expr} {t t' : TI} (h : PI X tg e t) (w : ∀ σ H Q, t' σ H Q → t σ H Q) : PI X tg e t' :=
  ⟨fun pins s σ H Q I q => h.run pins s σ H Q I (w σ H Q q)⟩
section
variable {X : Cx} {Δ : Dx} {a b e : Expr} {fa fb fc : WE} {pos : Pos}
/-! ### names and constants -/
def eName (i : Nat) : WE := fun c P _ => match c.env[i]? with
  | some (some (.d x)) => P (.d x) c
  | some (some .gen) => P .gen c
  | some (some (.scr ns)) => P (.scr ns) c
  | some (some (.own xs)) => P (.d (.list xs)) { c with env := c.env.set i (some (.d (.list xs))) }
  | _ => False
theorem St.set_get {σ : St} {i j : Nat} (o : Option V) : (σ.set i o)[j]? = if j = i ∧ i < σ.length then some o else σ[j]? := by
  by_cases e : j = i
  · subst e
    by_cases h : j < σ.length
    · rw [List.getElem?_set_self h, if_pos ⟨rfl, h⟩]
    · rw [if_neg (fun z => h z.2), List.getElem?_eq_none (by simpa using h), List.getElem?_eq_none (by simpa using h)]
  · rw [List.getElem?_set_ne (Ne.symm e), if_neg (fun z => e z.1)]
theorem env_get {l : List (Option Rv)} {i j : Nat} (o : Option Rv) : (l.set i o)[j]? = if j = i ∧ i < l.length then some o else l[j]? := by
  by_cases e : j = i
  · subst e
    by_cases h : j < l.length
    · rw [List.getElem?_set_self h, if_pos ⟨rfl, h⟩]
    · rw [if_neg (fun z => h z.2), List.getElem?_eq_none (by simpa using h), List.getElem?_eq_none (by simpa using h)]
  · rw [List.getElem?_set_ne (Ne.symm e), if_neg (fun z => e z.1)]
/-- the slot's list is given away: it stays as it is from now on -/
theorem Ok.give {am : Addr} {F : Hp} {σ : St} {H : Hp} {c : Cf} (k : Ok Δ am F σ H c) {i : Nat} {xs : List Px} (h : c.env[i]? = some (some (.own xs))) :
    ∃ v F', σ[i]? = some (some v) ∧ Le F F' ∧ Ok Δ am F' σ H { c with env := c.env.set i (some (.d (.list xs))) } ∧ Rp F' v (.list xs) := by
  obtain ⟨v, h1, a, vs, e1, e2, e3, e4, e5⟩ := k.sv i _ h
  subst e1
  have hi : i < c.env.length := (List.getElem?_eq_some_iff.mp h).1
  -- the configuration with the slot forgotten
  have k1 : Ok Δ am F σ H { c with env := c.env.set i none } := ⟨k.fh, k.f0, k.fr, k.tb, k.pr, k.al, k.gn, by simpa using k.len, fun j r e => by
      rw [env_get] at e
      split at e
      · cases e
      · exact k.sv j r e, fun j l ys zs n p q => by
      rw [env_get] at p q
      split at p
      · cases p
      · split at q
        · cases q
        · exact k.di j l ys zs n p q⟩
  obtain ⟨k2, l⟩ := k1.frz e2 e4 e3 fun j ys e mu => by
    rw [env_get] at e
    split at e
    · cases e
    · rename_i n
      intro z
      exact k.di j i ys _ (fun q => n ⟨q, hi⟩) e h mu True.intro (z.trans h1.symm)
  have rp : Rp (upd F a (.lst vs)) (.ref a) (.list xs) := .lst upd_same (e5.mono l)
  refine ⟨_, _, h1, l, ?_, rp⟩
  refine ⟨k2.fh, k2.f0, k2.fr, k2.tb, k2.pr, k2.al, k2.gn, by simpa using k.len, fun j r e => ?_, fun j l ys zs n p q => ?_⟩
  · rw [env_get] at e
    split at e
    · rename_i z
      cases e
      rw [z.1]
      exact ⟨_, h1, rp⟩
    · exact k2.sv j r (by rw [env_get, if_neg (by assumption)]; exact e)
  · rw [env_get] at p q
    split at p
    · cases p
      exact fun z => z.elim
    · split at q
      · cases q
        exact fun _ z => z.elim
      · exact k.di j l ys zs n p q
theorem de_name (i : Nat) {x : Str} (hN : X.N[i]? = some x := by rfl) (hv : Vis X.env.scope x := by first | exact Or.inl rfl | exact Or.inr (Or.inl rfl) | exact Or.inr (Or.inr rfl)) (hd : (x == ("__debug__" : Str)) = false := by decide)
    (hcd : (x == ("__classdict__" : Str)) = false := by decide) : PE X (.Name x pos) (tE Δ (eName i)) := by
  refine (pv i hN hv hd hcd).imp fun σ H Q ⟨am, F, c, P, XX, ok, hf, kq, kx⟩ => ?_
  unfold eName at hf
  split at hf
  · rename_i x e
    obtain ⟨v, h1, h2⟩ := ok.sv i _ e
    exact ⟨v, h1, kq _ c F v H hf (Le.refl F) ok ⟨h2, fun z => z.elim⟩⟩
  · rename_i e
    obtain ⟨v, h1, h2⟩ := ok.sv i _ e
    exact ⟨v, h1, kq _ c F v H hf (Le.refl F) ok ⟨h2, fun z => z.elim⟩⟩
  · rename_i ns e
    obtain ⟨v, h1, h2⟩ := ok.sv i _ e
    exact ⟨v, h1, kq _ c F v H hf (Le.refl F) ok ⟨h2, fun z => z.elim⟩⟩
  · rename_i xs e
    obtain ⟨v, F', h1, l, k, r⟩ := ok.give e
    exact ⟨v, h1, kq _ _ F' v H hf l k ⟨r, fun z => z.elim⟩⟩
  · exact hf.elim
def eC (x : Px) : WE := fun c P _ => P (.d x) c
theorem de_int {i : Int} {k : Nat} : PE X (.Constant (.int i) k pos) (tE Δ (eC (.int i))) :=
  L2.PE.imp pe_int fun σ H Q ⟨am, F, c, P, XX, ok, hf, kq, kx⟩ => kq _ c F _ H hf (Le.refl F) ok ⟨.int i, fun z => z.elim⟩
theorem de_str {s : Str} {k : Nat} : PE X (.Constant (.str s) k pos) (tE Δ (eC (.str s))) :=
  L2.PE.imp pe_str fun σ H Q ⟨am, F, c, P, XX, ok, hf, kq, kx⟩ => kq _ c F _ H hf (Le.refl F) ok ⟨.str s, fun z => z.elim⟩
theorem de_bl {b : Bool} {k : Nat} : PE X (.Constant (.bool b) k pos) (tE Δ (eC (.bool b))) :=
  L2.PE.imp pe_bl fun σ H Q ⟨am, F, c, P, XX, ok, hf, kq, kx⟩ => kq _ c F _ H hf (Le.refl F) ok ⟨.bl b, fun z => z.elim⟩
/-! ### operators -/
abbrev OD := Px → Px → (Rv → Prop) → Prop
abbrev UD := Px → (Rv → Prop) → Prop
structure OpD (X : Cx) (Δ : Dx) (f : Value → Value → Sem Value) (o : OD) : Prop where
  ex : ∃ r : R2, OpR X f r ∧ ∀ (am : Addr) (F : Hp) (σ : St) (H : Hp) (c : Cf) (vx vy : V) (x y : Px) (P : Rv → Prop) (Q : VK), Ok Δ am F σ H c → Rp F vx x → Rp F vy y → o x y P →
    (∀ rr F' v H', P rr → Le F F' → Ok Δ am F' σ H' c → Rs Δ am F' σ H' c rr v → Q v H') → r vx vy H Q
def eOp (o : OD) (fa fb : WE) : WE := fun c P X => fa c (fun r1 c1 => asD r1 fun x => fb c1 (fun r2 c2 => asD r2 fun y => o x y fun r => P r c2) X) X
theorem two_of {r : R2} {o : OD} (ho : ∀ (am : Addr) (F : Hp) (σ : St) (H : Hp) (c : Cf) (vx vy : V) (x y : Px) (P : Rv → Prop) (Q : VK), Ok Δ am F σ H c → Rp F vx x → Rp F vy y → o x y P →
    (∀ rr F' v H', P rr → Le F F' → Ok Δ am F' σ H' c → Rs Δ am F' σ H' c rr v → Q v H') → r vx vy H Q) (σ : St) (H : Hp) (Q : VK) (h : tE Δ (eOp o fa fb) σ H Q) : tOp r (tE Δ fa) (tE Δ fb) σ H Q := by
  obtain ⟨am, F, c, P, XX, ok, hf, kq, kx⟩ := h
  refine ⟨am, F, c, _, XX, ok, hf, fun r1 c1 F1 v1 H1 p1 l1 o1 s1 => ?_, kx⟩
  obtain ⟨x, F1', hx, l1', o1', rp1⟩ := s1.data o1 p1
  refine ⟨am, F1', c1, _, XX, o1', hx, fun r2 c2 F2 v2 H2 p2 l2 o2 s2 => ?_, kx.le (l1.trans l1')⟩
  obtain ⟨y, F2', hy, l2', o2', rp2⟩ := s2.data o2 p2
  have l3 : Le F1' F2' := l2.trans l2'
  exact ho am F2' σ H2 c2 v1 v2 x y _ Q o2' (rp1.mono l3) rp2 hy fun rr F' v H' prr l o s => kq rr c2 F' v H' prr (((l1.trans l1').trans l3).trans l) o s
theorem de_op {op : Operator} {o : OD} (ho : OpD X Δ (binaryOp op) o) (ha : PE X a (tE Δ fa)) (hb : PE X b (tE Δ fb)) : PE X (.BinOp a op b pos) (tE Δ (eOp o fa fb)) := by
  obtain ⟨r, h1, h2⟩ := ho.ex
  exact (pe_op h1 ha hb).imp fun σ H Q h => two_of h2 σ H Q h
structure UnD (X : Cx) (Δ : Dx) (f : Value → Sem Value) (o : UD) : Prop where
  ex : ∃ r : V → Hp → VK → Prop, UnR X f r ∧ ∀ (am : Addr) (F : Hp) (σ : St) (H : Hp) (c : Cf) (vx : V) (x : Px) (P : Rv → Prop) (Q : VK), Ok Δ am F σ H c → Rp F vx x → o x P →
    (∀ rr F' v H', P rr → Le F F' → Ok Δ am F' σ H' c → Rs Δ am F' σ H' c rr v → Q v H') → r vx H Q
def eUn (o : UD) (fa : WE) : WE := fun c P X => fa c (fun r1 c1 => asD r1 fun x => o x fun r => P r c1) X
theorem de_un {op : UnaryOp} {o : UD} (ho : UnD X Δ (unaryOp op) o) (ha : PE X a (tE Δ fa)) : PE X (.UnaryOp op a pos) (tE Δ (eUn o fa)) := by
  obtain ⟨r, h1, h2⟩ := ho.ex
  refine (pe_un h1 ha).imp fun σ H Q ⟨am, F, c, P, XX, ok, hf, kq, kx⟩ => ?_
  refine ⟨am, F, c, _, XX, ok, hf, fun r1 c1 F1 v1 H1 p1 l1 o1 s1 => ?_, kx⟩
  obtain ⟨x, F1', hx, l1', o1', rp1⟩ := s1.data o1 p1
  exact h2 am F1' σ H1 c1 v1 x _ Q o1' rp1 hx fun rr F' v H' prr l o s => kq rr c1 F' v H' prr ((l1.trans l1').trans l) o s
/-! the results that are plain -/
theorem Rs.of {am : Addr} {F : Hp} {σ : St} {H : Hp} {c : Cf} {v : V} {x : Px} (r : Rp F v x) : Rs Δ am F σ H c (.d x) v := ⟨r, fun z => z.elim⟩
/-- a new own list -/
theorem Rs.fresh {am : Addr} {F : Hp} {σ : St} {H : Hp} {c : Cf} (k : Ok Δ am F σ H c) {p : Addr} (hp : H p = none) {vs : List V} {xs : List Px} (r : RpA F vs xs) :
    Ok Δ am F σ (upd H p (.lst vs)) c ∧ Rs Δ am F σ (upd H p (.lst vs)) c (.own xs) (.ref p) := by
  refine ⟨k.alloc hp _, ⟨p, vs, rfl, upd_same, k.fh.nn hp, k.new hp, r⟩, fun _ i r' e mu z => ?_⟩
  obtain ⟨v, h1, s⟩ := k.sv i _ e
  obtain ⟨a, o, e1, e2, _⟩ := s.at mu
  subst e1
  rw [z] at h1
  cases h1
  rw [hp] at e2; cases e2
/-- a new tuple -/
theorem Ok.tupN {am : Addr} {F : Hp} {σ : St} {H : Hp} {c : Cf} (k : Ok Δ am F σ H c) {p : Addr} (hp : H p = none) {vs : List V} {xs : List Px} (r : RpA F vs xs) :
    Ok Δ am (upd F p (.tup vs)) σ (upd H p (.tup vs)) c ∧ Le F (upd F p (.tup vs)) ∧ Rp (upd F p (.tup vs)) (.ref p) (.tuple xs) := by
  have hf := k.fh.nn hp
  refine ⟨(k.alloc hp (.tup vs)).stay (k.tb.2.1.upd fun ps z => nomatch z) (Le.up hf) k.fh.up2 (fun b e => ?_) (fun n e => ?_) (fun i ys b e1 mu e2 => ?_), Le.up hf, .tup (.inl upd_same) (r.mono (Le.up hf))⟩
  · by_cases q : b = p
    · subst q; exact .inr (k.new hp)
    · rw [upd_ne q] at e; exact .inl e
  · rw [upd_ne (k.ngen e hp).symm]
    exact (k.gn n e).2.1
  · obtain ⟨v, h1, s⟩ := k.sv i _ e1
    obtain ⟨a, ws, e3, e4, e5, _⟩ := s.at mu
    subst e3
    rw [e2] at h1
    cases h1
    rw [upd_ne (ne_of_none e4 hp)]
    exact e5
/-! ints -/
def iD (f : Int → Int → Px) (C : Int → Int → Prop) : OD := fun x y P => match x, y with
  | .int i, .int j => C i j ∧ P (.d (f i j))
  | _, _ => False
theorem op_iD {f : Value → Value → Sem Value} {C C' : Int → Int → Prop} {g : Int → Int → V} {g' : Int → Int → Px} (h : OpR X f (rI C' g)) (hC : ∀ i j, C i j → C' i j) (hg : ∀ F i j, C i j → Rp F (g i j) (g' i j)) : OpD X Δ f (iD g' C) :=
  ⟨_, h, fun am F σ H c vx vy x y P Q ok rx ry ho k => by
    unfold iD at ho
    split at ho
    · cases rx; cases ry
      exact ⟨_, _, rfl, rfl, hC _ _ ho.1, k _ F _ H ho.2 (Le.refl F) ok (.of (hg F _ _ ho.1))⟩
    · exact ho.elim⟩
theorem op_iD0 {f : Value → Value → Sem Value} {g : Int → Int → V} {g' : Int → Int → Px} (h : OpR X f (rI0 g)) (hg : ∀ F i j, Rp F (g i j) (g' i j)) : OpD X Δ f (iD g' fun _ _ => True) :=
  ⟨_, h, fun am F σ H c vx vy x y P Q ok rx ry ho k => by
    unfold iD at ho
    split at ho
    · cases rx; cases ry
      exact ⟨_, _, rfl, rfl, k _ F _ H ho.2 (Le.refl F) ok (.of (hg F _ _))⟩
    · exact ho.elim⟩
def CMul2 (i j : Int) : Prop := (-(2 ^ 64) < i ∧ i < 2 ^ 64) ∨ (-(2 ^ 64) < j ∧ j < 2 ^ 64) ∨ ∃ a b : Nat, i.natAbs < 2 ^ a ∧ j.natAbs < 2 ^ b ∧ 0 < a ∧ 0 < b ∧ a + b ≤ 1000000
theorem do_sub : OpD X Δ (binaryOp .Sub) (iD (fun i j => .int (i - j)) fun _ _ => True) := op_iD0 op_sub fun _ _ _ => .int _
theorem opr_mono {f : Value → Value → Sem Value} {r r' : R2} (h : OpR X f r) (w : ∀ x y H Q, r' x y H Q → r x y H Q) : OpR X f r' := fun pins s σ H x y v u Q I rx ry q => h pins s σ H x y v u Q I rx ry (w _ _ _ _ q)
theorem do_mul : OpD X Δ (binaryOp .Mult) (iD (fun i j => .int (i * j)) CMul2) :=
  op_iD (C' := fun i j => CMul i j ∨ CMulW i j) (opr_mono (OpR.or op_mul op_mulW) fun x y H Q ⟨i, j, h1, h2, h3, h4⟩ => h3.elim (fun z => .inl ⟨i, j, h1, h2, z, h4⟩) fun z => .inr ⟨i, j, h1, h2, z, h4⟩)
    (fun i j h => by
      rcases h with h | h | ⟨a, b, h1, h2, h3, h4, h5⟩
      · exact .inl (.inl h)
      · exact .inl (.inr h)
      · exact .inr (wide_mul h1 h2 h3 h4 h5)) fun _ _ _ _ => .int _
def CDiv2 (i j : Int) : Prop := (j ≠ 0 ∧ j.natAbs < 1073741824) ∨ (0 < j ∧ ∃ b : Nat, j.natAbs < 2 ^ b ∧ 0 < b ∧ b ≤ 9000)
theorem do_fdiv : OpD X Δ (binaryOp .FloorDiv) (iD (fun i j => .int (i.fdiv j)) CDiv2) :=
  op_iD (C' := fun i j => CDivN i j ∨ CDivW i j) (opr_mono (OpR.or op_fdivN op_fdivW) fun x y H Q ⟨i, j, h1, h2, h3, h4⟩ => h3.elim (fun z => .inl ⟨i, j, h1, h2, z, h4⟩)
      fun z => .inr ⟨i, j, h1, h2, z, by have hp : (0 : Int) < j := z.1; show Q (V.int (i / j)) H; rw [← Int.fdiv_eq_ediv_of_nonneg i (by omega)]; exact h4⟩)
    (fun i j h => by
      rcases h with h | ⟨h, b, h1, h2, h3⟩
      · exact .inl h
      · exact .inr (wide_div h h1 h2 h3)) fun _ _ _ _ => .int _
theorem do_mod : OpD X Δ (binaryOp .Mod) (iD (fun i j => .int (i.fmod j)) fun _ j => j ≠ 0) := op_iD op_modN (fun _ _ h => h) fun _ _ _ _ => .int _
def eqD (neg : Bool) : OD := fun x y P => SeqAt.shaped x = true ∧ SeqAt.shaped y = true ∧ P (.d (.bool (if neg then !PyData.eqv x y else PyData.eqv x y)))
def negD : UD := fun x P => match x with
  | .int i => P (.d (.int (-i)))
  | _ => False
theorem do_neg : UnD X Δ (unaryOp .USub) negD :=
  ⟨_, un_neg, fun am F σ H c vx x P Q ok rx ho k => by
    unfold negD at ho
    split at ho
    · cases rx
      exact ⟨_, rfl, k _ F _ H ho (Le.refl F) ok (.of (.int _))⟩
    · exact ho.elim⟩
/-- +: of ints, lists, tuples -/
def addD : OD := fun x y P => match x, y with
  | .int i, .int j => P (.d (.int (i + j)))
  | .list xs, .list ys => xs.length + ys.length ≤ 1000000 ∧ P (.own (xs ++ ys))
  | .tuple xs, .tuple ys => xs.length + ys.length ≤ 1000000 ∧ P (.d (.tuple (xs ++ ys)))
  | _, _ => False
theorem line_of {n : Nat} (h : n ≤ 1000000) : n ≤ sizeLine := by rw [sizeLine_eq]; omega
theorem do_add (hK : Δ.K = X.K) (hk : X.K = TabF.K := by first | rfl | assumption) : OpD X Δ (binaryOp .Add) addD :=
  ⟨_, OpR.or (OpR.or op_add op_cat) op_catA, fun am F σ H c vx vy x y P Q ok rx ry ho k => by
    unfold addD at ho
    split at ho
    · cases rx; cases ry
      exact .inl (.inl ⟨_, _, rfl, rfl, k _ F _ H ho (Le.refl F) ok (.of (.int _))⟩)
    · cases rx with
      | lst e1 r1 =>
        cases ry with
        | lst e2 r2 =>
          refine .inl (.inr ⟨_, _, _, _, rfl, rfl, ok.fh _ _ e1, ok.fh _ _ e2, line_of (by rw [r1.length, r2.length]; exact ho.1), fun p hp => ?_⟩)
          obtain ⟨o', rs⟩ := Rs.fresh ok hp (r1.append r2)
          exact k _ F _ _ ho.2 (Le.refl F) o' rs
    · rename_i xs ys
      cases rx with
      | tup e1 r1 =>
        cases ry with
        | tup e2 r2 =>
          refine .inr ⟨_, _, _, _, rfl, rfl, e1.sq hk ok.fh, e2.sq hk ok.fh, line_of (by rw [r1.length, r2.length]; exact ho.1), fun z => ?_, fun _ z => ?_, fun _ _ p hp => ?_⟩
          · have := r1.length
            rw [z] at this
            have e0 : xs = [] := List.length_eq_zero_iff.mp this.symm
            subst e0
            exact k _ F _ H ho.2 (Le.refl F) ok (.of (.tup e2 r2))
          · have := r2.length
            rw [z] at this
            have e0 : ys = [] := List.length_eq_zero_iff.mp this.symm
            subst e0
            have h3 := ho.2
            rw [List.append_nil] at h3
            exact k _ F _ H h3 (Le.refl F) ok (.of (.tup e1 r1))
          · obtain ⟨o', l, rp⟩ := ok.tupN hp (r1.append r2)
            exact k _ _ _ _ ho.2 l o' (.of rp)
    · exact ho.elim⟩
end
end Dl
set_option Elab.async false
set_option maxRecDepth 100000
set_option linter.all false
set_option autoImplicit false
namespace Dl
open PySem L2
variable [TabF]
section
variable {X : Cx} {Δ : Dx} {a b e : Expr} {fa fb fc : WE} {pos : Pos}
/-! ### a name's slot, looked at and not given away -/
def slotD (c : Cf) (i : Nat) (k : Px → Prop) : Prop := match c.env[i]? with
  | some (some (.d x)) => k x
  | some (some (.own xs)) => k (.list xs)
  | _ => False
/-- what a slot shows: data over a heap part below H, whose items are data over F -/
theorem Ok.look {am : Addr} {F : Hp} {σ : St} {H : Hp} {c : Cf} (k : Ok Δ am F σ H c) {i : Nat} {q : Px → Prop} (h : slotD c i q) :
    ∃ x v G, σ[i]? = some (some v) ∧ q x ∧ Le F G ∧ Le G H ∧ Rp G v x ∧
      (∀ xs, x = .list xs → ∃ a vs, v = .ref a ∧ H a = some (.lst vs) ∧ RpA F vs xs) ∧ (∀ xs, x = .tuple xs → ∃ a vs, v = .ref a ∧ TupF F a vs ∧ RpA F vs xs) := by
  unfold slotD at h
  split at h
  · rename_i x e
    obtain ⟨v, h1, h2⟩ := k.sv i _ e
    refine ⟨x, v, F, h1, h, Le.refl F, k.fh, h2, ?_, ?_⟩
    · rintro xs rfl
      cases h2 with
      | lst e1 r1 => exact ⟨_, _, rfl, k.fh _ _ e1, r1⟩
    · rintro xs rfl
      cases h2 with
      | tup e1 r1 => exact ⟨_, _, rfl, e1, r1⟩
  · rename_i xs e
    obtain ⟨v, h1, a, vs, e1, e2, e3, e4, e5⟩ := k.sv i _ e
    subst e1
    refine ⟨_, _, upd F a (.lst vs), h1, h, Le.up e3, ?_, .lst upd_same (e5.mono (Le.up e3)), ?_, fun ys z => nomatch z⟩
    · intro b o q
      by_cases z : b = a
      · subst z; rw [upd_same] at q; rw [e2]; exact q
      · rw [upd_ne z] at q; exact k.fh b o q
    · intro ys z
      cases z
      exact ⟨_, _, rfl, e2, e5⟩
  · exact h.elim
/-- an operation that gives a scalar and looks only at what stands -/
structure ScD (X : Cx) (f : Value → Value → Sem Value) (o : OD) : Prop where
  ex : ∃ r : R2, OpR X f r ∧ ∀ (G H : Hp) (vx vy : V) (x y : Px) (P : Rv → Prop) (Q : VK), Le G H → Rp G vx x → Rp G vy y → o x y P →
    (∀ z v, P (.d z) → (∀ F, Rp F v z) → Q v H) → r vx vy H Q
def hasD (c : Cf) (i : Nat) : Prop := slotD c i fun _ => True
def eScL (i : Nat) (o : OD) (fb : WE) : WE := fun c P X => hasD c i ∧ fb c (fun r2 c2 => asD r2 fun y => slotD c2 i fun x => o x y fun r => P r c2) X
def eScR (i : Nat) (o : OD) (fa : WE) : WE := fun c P X => fa c (fun r1 c1 => asD r1 fun x => slotD c1 i fun y => o x y fun r => P r c1) X
def eSc (o : OD) (fa fb : WE) : WE := fun c P X => fa c (fun r1 c1 => asD r1 fun x => fb c1 (fun r2 c2 => asD r2 fun y => o x y fun r => P r c2) X) X
theorem scL_of {r : R2} {o : OD} {i : Nat} (h2 : ∀ (G H : Hp) (vx vy : V) (x y : Px) (P : Rv → Prop) (Q : VK), Le G H → Rp G vx x → Rp G vy y → o x y P →
    (∀ z v, P (.d z) → (∀ F, Rp F v z) → Q v H) → r vx vy H Q) (σ : St) (H : Hp) (Q : VK) (h : tE Δ (eScL i o fb) σ H Q) : tOp r (tVar i) (tE Δ fb) σ H Q := by
  obtain ⟨am, F, c, P, XX, ok, ⟨hd, hf⟩, kq, kx⟩ := h
  obtain ⟨_, v, _, hv, _⟩ := ok.look hd
  refine ⟨v, hv, am, F, c, _, XX, ok, hf, fun r2 c2 F2 v2 H2 p2 l2 o2 s2 => ?_, kx⟩
  obtain ⟨y, F2', hy, l2', o2', rp2⟩ := s2.data o2 p2
  obtain ⟨x, w, G, e1, hx, l3, l4, rpx, _⟩ := o2'.look hy
  rw [hv] at e1
  cases e1
  exact h2 G H2 v v2 x y _ Q l4 rpx (rp2.mono l3) hx fun z u pz rz => kq _ c2 F2' u H2 pz (l2.trans l2') o2' (.of (rz _))
theorem scR_of {r : R2} {o : OD} {i : Nat} (h2 : ∀ (G H : Hp) (vx vy : V) (x y : Px) (P : Rv → Prop) (Q : VK), Le G H → Rp G vx x → Rp G vy y → o x y P →
    (∀ z v, P (.d z) → (∀ F, Rp F v z) → Q v H) → r vx vy H Q) (σ : St) (H : Hp) (Q : VK) (h : tE Δ (eScR i o fa) σ H Q) : tOp r (tE Δ fa) (tVar i) σ H Q := by
  obtain ⟨am, F, c, P, XX, ok, hf, kq, kx⟩ := h
  refine ⟨am, F, c, _, XX, ok, hf, fun r1 c1 F1 v1 H1 p1 l1 o1 s1 => ?_, kx⟩
  obtain ⟨x, F1', hx, l1', o1', rp1⟩ := s1.data o1 p1
  obtain ⟨y, w, G, e1, hy, l3, l4, rpy, _⟩ := o1'.look hx
  exact ⟨w, e1, h2 G H1 v1 w x y _ Q l4 (rp1.mono l3) rpy hy fun z u pz rz => kq _ c1 F1' u H1 pz (l1.trans l1') o1' (.of (rz _))⟩
theorem sc_of {r : R2} {o : OD} (h2 : ∀ (G H : Hp) (vx vy : V) (x y : Px) (P : Rv → Prop) (Q : VK), Le G H → Rp G vx x → Rp G vy y → o x y P →
    (∀ z v, P (.d z) → (∀ F, Rp F v z) → Q v H) → r vx vy H Q) (σ : St) (H : Hp) (Q : VK) (h : tE Δ (eSc o fa fb) σ H Q) : tOp r (tE Δ fa) (tE Δ fb) σ H Q :=
  two_of (o := o) (fun am F σ H c vx vy x y P Q ok rx ry ho k => h2 F H vx vy x y P Q ok.fh rx ry ho fun z v pz rz => k _ F v H pz (Le.refl F) ok (.of (rz F))) σ H Q h
section
variable {op : CmpOp} {o : OD}
theorem de_cmpNL (i : Nat) {x : Str} {p : Pos} (ho : ScD X (compareOp op) o) (hb : PE X b (tE Δ fb)) (hm : behindInMarks op b = false) (hN : X.N[i]? = some x := by rfl)
    (hv : Vis X.env.scope x := by first | exact Or.inl rfl | exact Or.inr (Or.inl rfl) | exact Or.inr (Or.inr rfl)) (hd : (x == ("__debug__" : Str)) = false := by decide)
    (hcd : (x == ("__classdict__" : Str)) = false := by decide) : PE X (.Compare (.Name x p) [op] [b] pos) (tE Δ (eScL i o fb)) := by
  obtain ⟨r, h1, h2⟩ := ho.ex
  exact (pe_cmpR h1 (pv i hN hv hd hcd) hb hm).imp fun σ H Q h => scL_of h2 σ H Q h
theorem de_cmp' (ho : ScD X (compareOp op) o) (ha : PE X a (tE Δ fa)) (hb : PE X b (tE Δ fb)) (hm : behindInMarks op b = false) : PE X (.Compare a [op] [b] pos) (tE Δ (eSc o fa fb)) := by
  obtain ⟨r, h1, h2⟩ := ho.ex
  exact (pe_cmpR h1 ha hb hm).imp fun σ H Q h => sc_of h2 σ H Q h
/-- the same as tests -/
def wB (f : WE) : WT := fun c P X => f c (fun r c1 => match r with
  | .d (.bool b) => P b c1
  | _ => False) X
theorem tB_of (t : TE) (f : WE) (w : ∀ σ H Q, tE Δ f σ H Q → t σ H Q) (σ : St) (H : Hp) (Q : Bool → Hp → Prop) (h : tT Δ (wB f) σ H Q) : tTest t σ H Q := by
  obtain ⟨am, F, c, P, XX, ok, hf, kq, kx⟩ := h
  refine w σ H _ ⟨am, F, c, _, XX, ok, hf, fun r c' F' v H' p l o s => ?_, kx⟩
  dsimp only at p
  split at p
  · rename_i b
    have h1 := s.1
    cases h1
    exact ⟨b, rfl, kq b c' F' H' p l o⟩
  · exact p.elim
theorem dt_cmpNL (i : Nat) {x : Str} {p : Pos} (ho : ScD X (compareOp op) o) (hb : PE X b (tE Δ fb)) (hm : behindInMarks op b = false) (hN : X.N[i]? = some x := by rfl)
    (hv : Vis X.env.scope x := by first | exact Or.inl rfl | exact Or.inr (Or.inl rfl) | exact Or.inr (Or.inr rfl)) (hd : (x == ("__debug__" : Str)) = false := by decide)
    (hcd : (x == ("__classdict__" : Str)) = false := by decide) : PT X (.Compare (.Name x p) [op] [b] pos) (tT Δ (wB (eScL i o fb))) := by
  obtain ⟨r, h1, h2⟩ := ho.ex
  exact (pt_cmpR h1 (pv i hN hv hd hcd) hb hm).imp fun σ H Q h => tB_of _ _ (fun σ H Q h => scL_of h2 σ H Q h) σ H Q h
theorem dt_cmpNR (i : Nat) {x : Str} {p : Pos} (ho : ScD X (compareOp op) o) (ha : PE X a (tE Δ fa)) (hm : behindInMarks op (.Name x p) = false) (hN : X.N[i]? = some x := by rfl)
    (hv : Vis X.env.scope x := by first | exact Or.inl rfl | exact Or.inr (Or.inl rfl) | exact Or.inr (Or.inr rfl)) (hd : (x == ("__debug__" : Str)) = false := by decide)
    (hcd : (x == ("__classdict__" : Str)) = false := by decide) : PT X (.Compare a [op] [.Name x p] pos) (tT Δ (wB (eScR i o fa))) := by
  obtain ⟨r, h1, h2⟩ := ho.ex
  exact (pt_cmpR h1 ha (pv i hN hv hd hcd) hm).imp fun σ H Q h => tB_of _ _ (fun σ H Q h => scR_of h2 σ H Q h) σ H Q h
theorem dt_cmp (ho : ScD X (compareOp op) o) (ha : PE X a (tE Δ fa)) (hb : PE X b (tE Δ fb)) (hm : behindInMarks op b = false) : PT X (.Compare a [op] [b] pos) (tT Δ (wB (eSc o fa fb))) := by
  obtain ⟨r, h1, h2⟩ := ho.ex
  exact (pt_cmpR h1 ha hb hm).imp fun σ H Q h => tB_of _ _ (fun σ H Q h => sc_of h2 σ H Q h) σ H Q h
variable {op' : CmpOp} {o' : OD}
def eCh (o o' : OD) (fa fb fc : WE) : WE := fun c P X => fa c (fun r1 c1 => asD r1 fun x => fb c1 (fun r2 c2 => asD r2 fun y => o x y fun r => match r with
  | .d (.bool true) => fc c2 (fun r3 c3 => asD r3 fun z => o' y z fun r => P r c3) X
  | .d (.bool false) => P (.d (.bool false)) c2
  | _ => False) X) X
end
/-! the comparisons -/
theorem sc_int {f : Value → Value → Sem Value} {g : Int → Int → Bool} (h : OpR X f (rI0 fun i j => .bl (g i j))) : ScD X f (iD (fun i j => .bool (g i j)) fun _ _ => True) :=
  ⟨_, h, fun G H vx vy x y P Q l rx ry ho k => by
    unfold iD at ho
    split at ho
    · cases rx; cases ry
      exact ⟨_, _, rfl, rfl, k _ _ ho.2 fun F => .bl _⟩
    · exact ho.elim⟩
def ltD : OD := iD (fun i j => .bool (decide (i < j))) fun _ _ => True
def leD : OD := iD (fun i j => .bool (decide (i ≤ j))) fun _ _ => True
def gtD : OD := iD (fun i j => .bool (decide (j < i))) fun _ _ => True
def geD : OD := iD (fun i j => .bool (decide (j ≤ i))) fun _ _ => True
theorem sc_lt : ScD X (compareOp .Lt) ltD := sc_int op_lt
theorem sc_le : ScD X (compareOp .LtE) leD := sc_int op_le
theorem sc_gt : ScD X (compareOp .Gt) gtD := sc_int op_gt
theorem sc_ge : ScD X (compareOp .GtE) geD := sc_int op_ge
theorem sc_eq (hu : X.A.units + 64 < cLine) (hk : X.K = TabF.K := by first | rfl | assumption) : ScD X (compareOp .Eq) (eqD false) :=
  ⟨_, op_eqD hu, fun G H vx vy x y P Q l rx ry ho k => ⟨x, y, rx.dp hk l (sh_nd ho.1), ry.dp hk l (sh_nd ho.2.1), ho.1, ho.2.1, k _ _ ho.2.2 fun F => .bl _⟩⟩
theorem sc_ne (hu : X.A.units + 64 < cLine) (hk : X.K = TabF.K := by first | rfl | assumption) : ScD X (compareOp .NotEq) (eqD true) :=
  ⟨_, op_neD hu, fun G H vx vy x y P Q l rx ry ho k => ⟨x, y, rx.dp hk l (sh_nd ho.1), ry.dp hk l (sh_nd ho.2.1), ho.1, ho.2.1, k _ _ ho.2.2 fun F => .bl _⟩⟩
/-- in, over flat things: ints, texts, None, bools -/
def flatD : Px → Bool
  | .none | .bool _ | .int _ | .str _ => true
  | _ => false
def inD (neg : Bool) : OD := fun x y P => match y with
  | .list ys => flatD x = true ∧ ys.all flatD = true ∧ P (.d (.bool (if neg then !ys.any fun z => PyData.eqv z x else ys.any fun z => PyData.eqv z x)))
  | .tuple ys => flatD x = true ∧ ys.all flatD = true ∧ P (.d (.bool (if neg then !ys.any fun z => PyData.eqv z x else ys.any fun z => PyData.eqv z x)))
  | _ => False
theorem flat_rp {F : Hp} {v : V} {x : Px} (r : Rp F v x) (h : flatD x = true) : flatV v = true := by
  cases r <;> first | rfl | exact absurd h (by simp [flatD])
theorem flat_rpa {F : Hp} : ∀ {vs : List V} {xs : List Px}, RpA F vs xs → xs.all flatD = true → vs.all flatV = true
  | _, _, .nil, _ => rfl
  | _, _, .cons a b, h => by
    simp only [List.all_cons, Bool.and_eq_true] at h ⊢
    exact ⟨flat_rp a h.1, flat_rpa b h.2⟩
theorem eqv_rp {F G : Hp} {v w : V} {x y : Px} (r : Rp F v x) (q : Rp G w y) (hx : flatD x = true) (hy : flatD y = true) : eqV v w = PyData.eqv x y := by
  cases r <;> cases q <;> first | rfl | (exact absurd hx (by simp [flatD])) | (exact absurd hy (by simp [flatD])) | (simp [eqV, PyData.eqv]; done) | (simp [eqV, PyData.eqv, b2i]; done) | skip
theorem any_rp {F G : Hp} {v : V} {x : Px} (r : Rp G v x) (hx : flatD x = true) : ∀ {vs : List V} {xs : List Px}, RpA F vs xs → xs.all flatD = true → (vs.any fun w => eqV w v) = xs.any fun z => PyData.eqv z x
  | _, _, .nil, _ => rfl
  | _, _, .cons a b, h => by
    simp only [List.all_cons, Bool.and_eq_true] at h
    simp only [List.any_cons, eqv_rp a r h.1 hx, any_rp r hx b h.2]
theorem sc_inG {f : Value → Value → Sem Value} {neg : Bool} (h : OpR X f (rIn X.K neg)) (hk : X.K = TabF.K := by first | rfl | assumption) : ScD X f (inD neg) :=
  ⟨_, h, fun G H vx vy x y P Q l rx ry ho k => by
    unfold inD at ho
    split at ho
    · cases ry with
      | lst e r1 =>
        refine ⟨_, _, rfl, .inl (SqL.of (l _ _ e)), flat_rp rx ho.1, flat_rpa r1 ho.2.1, ?_⟩
        unfold inV
        rw [any_rp rx ho.1 r1 ho.2.1]
        exact k _ _ ho.2.2 fun F => .bl _
    · cases ry with
      | tup e r1 =>
        refine ⟨_, _, rfl, .inr (e.sq hk l), flat_rp rx ho.1, flat_rpa r1 ho.2.1, ?_⟩
        unfold inV
        rw [any_rp rx ho.1 r1 ho.2.1]
        exact k _ _ ho.2.2 fun F => .bl _
    · exact ho.elim⟩
theorem sc_in (hk : X.K = TabF.K := by first | rfl | assumption) : ScD X (compareOp .In) (inD false) := sc_inG op_in_seq
theorem sc_notin (hk : X.K = TabF.K := by first | rfl | assumption) : ScD X (compareOp .NotIn) (inD true) := sc_inG op_notIn_seq
/-! ### truth -/
def truD (x : Px) (k : Bool → Prop) : Prop := match x with
  | .none => k false
  | .bool b => k b
  | .int i => k (i != 0)
  | .list xs => k (!xs.isEmpty)
  | .tuple xs => k (!xs.isEmpty)
  | _ => False
theorem RpA.emp {F : Hp} {vs : List V} {xs : List Px} (r : RpA F vs xs) : vs.isEmpty = xs.isEmpty := by cases r <;> rfl
theorem tru_of {K : PySem.W.Frag} {G H : Hp} {v : V} {x : Px} {q : Bool → Prop} (l : Le G H) (r : Rp G v x) (h : truD x q) (hk : K = TabF.K := by first | rfl | assumption) : ∃ k, TruV K v H k ∧ q k := by
  cases r with
  | non => exact ⟨false, rfl, h⟩
  | bl b => exact ⟨b, rfl, h⟩
  | int i => exact ⟨_, rfl, h⟩
  | str x => exact (show False from h).elim
  | lst e r1 => exact ⟨_, .inl ⟨_, SqL.of (l _ _ e), rfl⟩, by rw [r1.emp]; exact h⟩
  | tup e r1 => exact ⟨_, .inr (.inl ⟨_, e.sq hk l, rfl⟩), by rw [r1.emp]; exact h⟩
  | fn e => exact (show False from h).elim
  | dct _ _ => exact (show False from h).elim
def wTru (fa : WE) : WT := fun c P X => fa c (fun r c1 => asD r fun x => truD x fun b => P b c1) X
def wTruN (i : Nat) : WT := fun c P _ => slotD c i fun x => truD x fun b => P b c
theorem dt_tru (ha : PE X a (tE Δ fa)) (he : ∀ whole, isTrue a X.env whole = (do let v ← whole; standAt a.pos; holding [v] (truthy v)) := by intro _; rfl) (hk : X.K = TabF.K := by first | rfl | assumption) : PT X a (tT Δ (wTru fa)) := by
  refine (pt_truth ha he).imp fun σ H Q ⟨am, F, c, P, XX, ok, hf, kq, kx⟩ => ?_
  refine ⟨am, F, c, _, XX, ok, hf, fun r1 c1 F1 v1 H1 p1 l1 o1 s1 => ?_, kx⟩
  obtain ⟨x, F1', hx, l1', o1', rp1⟩ := s1.data o1 p1
  obtain ⟨k, h1, h2⟩ := tru_of (K := X.K) o1'.fh rp1 hx
  exact ⟨k, h1, kq k c1 F1' H1 h2 (l1.trans l1') o1'⟩
theorem dt_truN (i : Nat) {x : Str} {p : Pos} (hN : X.N[i]? = some x := by rfl)
    (hv : Vis X.env.scope x := by first | exact Or.inl rfl | exact Or.inr (Or.inl rfl) | exact Or.inr (Or.inr rfl)) (hd : (x == ("__debug__" : Str)) = false := by decide)
    (hcd : (x == ("__classdict__" : Str)) = false := by decide) (hk : X.K = TabF.K := by first | rfl | assumption) : PT X (.Name x p) (tT Δ (wTruN i)) := by
  refine (pt_truth (pv i hN hv hd hcd) (by intro _; rfl)).imp fun σ H Q ⟨am, F, c, P, XX, ok, hf, kq, kx⟩ => ?_
  obtain ⟨x, v, G, e1, hx, l3, l4, rpx, _⟩ := ok.look hf
  obtain ⟨k, h1, h2⟩ := tru_of (K := X.K) l4 rpx hx
  exact ⟨v, e1, k, h1, kq k c F H h2 (Le.refl F) ok⟩
section
variable {fA fB : WT} {rest : List Expr}
def wAnd (t u : WT) : WT := fun c P X => t c (fun b c1 => if b = true then u c1 P X else P false c1) X
def wOr (t u : WT) : WT := fun c P X => t c (fun b c1 => if b = true then P true c1 else u c1 P X) X
def wNot (t : WT) : WT := fun c P X => t c (fun b c1 => P (!b) c1) X
theorem _root_.L2.PW.imp {t t' : TT} (h : PW X a t) (w : ∀ σ H Q, t' σ H Q → t σ H Q) : PW X a t' :=
  ⟨fun wh pins s σ H Q I q => h.run wh pins s σ H Q I (w σ H Q q)⟩
theorem dw_or1 (ha : PT X a (tT Δ fA)) : PW X (.BoolOp .Or [a] pos) (tT Δ fA) := pw_or1 ha
theorem dw_or (ha : PT X a (tT Δ fA)) (hb : PW X (.BoolOp .Or (b :: rest) pos) (tT Δ fB)) : PW X (.BoolOp .Or (a :: b :: rest) pos) (tT Δ (wOr fA fB)) := by
  refine (pw_or ha hb).imp fun σ H Q ⟨am, F, c, P, XX, ok, hf, kq, kx⟩ => ?_
  refine ⟨am, F, c, _, XX, ok, hf, fun k c1 F1 H1 p1 l1 o1 => ?_, kx⟩
  cases k with
  | false =>
    rw [if_neg Bool.false_ne_true]
    rw [if_neg Bool.false_ne_true] at p1
    exact ⟨am, F1, c1, _, XX, o1, p1, fun k' c2 F2 H2 p2 l2 o2 => kq k' c2 F2 H2 p2 (l1.trans l2) o2, kx.le l1⟩
  | true =>
    rw [if_pos rfl]
    rw [if_pos rfl] at p1
    exact kq true c1 F1 H1 p1 l1 o1
theorem dt_not (ha : PT X a (tT Δ fA)) : PT X (.UnaryOp .Not a pos) (tT Δ (wNot fA)) := by
  refine (pt_not ha).imp fun σ H Q ⟨am, F, c, P, XX, ok, hf, kq, kx⟩ => ?_
  exact ⟨am, F, c, _, XX, ok, hf, fun k c1 F1 H1 p1 l1 o1 => kq _ c1 F1 H1 p1 l1 o1, kx⟩
end
/-! and, or, not as values: all but the last are bools -/
section
variable {rest : List Expr}
def asB (r : Rv) (k : Bool → Prop) : Prop := match r with
  | .d (.bool b) => k b
  | _ => False
def eAnd (t u : WE) : WE := fun c P X => t c (fun r c1 => asB r fun b => if b = true then u c1 P X else P (.d (.bool false)) c1) X
def eOr (t u : WE) : WE := fun c P X => t c (fun r c1 => asB r fun b => if b = true then P (.d (.bool true)) c1 else u c1 P X) X
def eNot (t : WE) : WE := fun c P X => t c (fun r c1 => asB r fun b => P (.d (.bool (!b))) c1) X
def eIf (t : WT) (fa fb : WE) : WE := fun c P X => t c (fun b c1 => if b = true then fa c1 P X else fb c1 P X) X
theorem de_if {cnd : Expr} {fA : WT} (hc : PT X cnd (tT Δ fA)) (ha : PE X a (tE Δ fa)) (hb : PE X b (tE Δ fb)) : PE X (.IfExp cnd a b pos) (tE Δ (eIf fA fa fb)) := by
  refine (pe_ifExp hc ha hb).imp fun σ H Q ⟨am, F, c, P, XX, ok, hf, kq, kx⟩ => ?_
  refine ⟨am, F, c, _, XX, ok, hf, fun k c1 F1 H1 p1 l1 o1 => ?_, kx⟩
  cases k with
  | true =>
    rw [if_pos rfl]
    rw [if_pos rfl] at p1
    exact ⟨am, F1, c1, _, XX, o1, p1, fun r2 c2 F2 v2 H2 p2 l2 o2 s2 => kq r2 c2 F2 v2 H2 p2 (l1.trans l2) o2 s2, kx.le l1⟩
  | false =>
    rw [if_neg Bool.false_ne_true]
    rw [if_neg Bool.false_ne_true] at p1
    exact ⟨am, F1, c1, _, XX, o1, p1, fun r2 c2 F2 v2 H2 p2 l2 o2 s2 => kq r2 c2 F2 v2 H2 p2 (l1.trans l2) o2 s2, kx.le l1⟩
end
end
end Dl
set_option Elab.async false
set_option maxRecDepth 100000
set_option linter.all false
set_option autoImplicit false
namespace Dl
open PySem L2
variable [TabF]
section
variable {X : Cx} {Δ : Dx} {a b e : Expr} {fa fb fc : WE} {pos : Pos} {es : List Expr} {fr : WA}
/-! ### arguments -/
def argR (r : Rv) (k : Rv → Prop) : Prop := match r with
  | .d x => k (.d x)
  | .own xs => k (.d (.list xs))
  | .gen => k .gen
  | .scr ns => k (.scr ns)
  | .dic _ => False
def aNil : WA := fun c P _ => P [] c
def aCons (f : WE) (g : WA) : WA := fun c P X => f c (fun r c1 => argR r fun x => g c1 (fun rs c2 => P (x :: rs) c2) X) X
theorem da_nil : PA X [] (tA Δ aNil) := pa_nil.imp fun σ H Q ⟨am, F, c, P, XX, ok, hf, kq, kx⟩ => kq _ c F _ H hf (Le.refl F) ok .nil
theorem Rs.arg {am : Addr} {F : Hp} {σ : St} {H : Hp} {c : Cf} {r : Rv} {v : V} {k : Rv → Prop} (o : Ok Δ am F σ H c) (h : Rs Δ am F σ H c r v) (q : argR r k) :
    ∃ x F', k x ∧ Le F F' ∧ Ok Δ am F' σ H c ∧ ∀ G rs vs, Le F' G → Rss Δ am G rs vs → Rss Δ am G (x :: rs) (v :: vs) := by
  cases r with
  | d x => exact ⟨_, F, q, Le.refl F, o, fun G rs vs l s => .d (Rp.mono l h.1) s⟩
  | own xs =>
    obtain ⟨x, F', h1, l, o', rp⟩ := h.data (k := fun x => k (.d x)) o q
    exact ⟨_, F', h1, l, o', fun G rs vs l s => .d (Rp.mono l rp) s⟩
  | gen =>
    have e : v = .ref am := h.1
    subst e
    exact ⟨_, F, q, Le.refl F, o, fun G rs vs l s => .gen s⟩
  | scr ns =>
    obtain ⟨a, e, hq⟩ := h.1
    subst e
    exact ⟨_, F, q, Le.refl F, o, fun G rs vs l s => .scr (sq_le l hq) s⟩
  | dic D => exact q.elim
theorem da_cons (ha : PE X e (tE Δ fa)) (hr : PA X es (tA Δ fr)) (hs : starEach (e :: es) X.env = (false, eval e X.env) :: starEach es X.env := by rfl) : PA X (e :: es) (tA Δ (aCons fa fr)) := by
  refine (pa_cons ha hr hs).imp fun σ H Q ⟨am, F, c, P, XX, ok, hf, kq, kx⟩ => ?_
  refine ⟨am, F, c, _, XX, ok, hf, fun r1 c1 F1 v1 H1 p1 l1 o1 s1 => ?_, kx⟩
  obtain ⟨x, F1', hx, l1', o1', g⟩ := s1.arg o1 p1
  exact ⟨am, F1', c1, _, XX, o1', hx, fun rs c2 F2 vs H2 p2 l2 o2 s2 => kq _ c2 F2 _ H2 p2 ((l1.trans l1').trans l2) o2 (g F2 rs vs l2 s2), kx.le (l1.trans l1')⟩
/-- the arguments are data -/
def asDs : List Rv → (List Px → Prop) → Prop
  | [], k => k []
  | .d x :: rs, k => asDs rs fun xs => k (x :: xs)
  | _, _ => False
theorem asDs_of {am : Addr} {F : Hp} : ∀ {rs : List Rv} {vs : List V} {k : List Px → Prop}, Rss Δ am F rs vs → asDs rs k → ∃ xs, k xs ∧ RpA F vs xs
  | _, _, _, .nil, h => ⟨[], h, .nil⟩
  | _, _, _, .d r s, h => by
    obtain ⟨xs, h1, h2⟩ := asDs_of s h
    exact ⟨_, h1, .cons r h2⟩
  | _, _, _, .gen _, h => h.elim
  | _, _, _, .scr _ _, h => h.elim
def eTup (f : WA) : WE := fun c P X => f c (fun rs c1 => asDs rs fun xs => xs.length ≤ 1000000 ∧ P (.d (.tuple xs)) c1) X
def eLst (f : WA) : WE := fun c P X => f c (fun rs c1 => asDs rs fun xs => xs.length ≤ 1000000 ∧ P (.own xs) c1) X
theorem de_tup {k : Nat} (h : PA X es (tA Δ fr)) : PE X (.Tuple es k pos) (tE Δ (eTup fr)) := by
  refine (pe_tup h).imp fun σ H Q ⟨am, F, c, P, XX, ok, hf, kq, kx⟩ => ?_
  refine ⟨am, F, c, _, XX, ok, hf, fun rs c1 F1 vs H1 p1 l1 o1 s1 => ?_, kx⟩
  obtain ⟨xs, h1, r⟩ := asDs_of s1 p1
  refine ⟨line_of (by rw [r.length]; exact h1.1), fun p hp => ?_⟩
  obtain ⟨o', l, rp⟩ := o1.tupN hp r
  exact kq _ c1 _ _ _ h1.2 (l1.trans l) o' (.of rp)
theorem de_lst (h : PA X es (tA Δ fr)) : PE X (.List es pos) (tE Δ (eLst fr)) := by
  refine (pe_lst h).imp fun σ H Q ⟨am, F, c, P, XX, ok, hf, kq, kx⟩ => ?_
  refine ⟨am, F, c, _, XX, ok, hf, fun rs c1 F1 vs H1 p1 l1 o1 s1 => ?_, kx⟩
  obtain ⟨xs, h1, r⟩ := asDs_of s1 p1
  refine ⟨line_of (by rw [r.length]; exact h1.1), fun p hp => ?_⟩
  obtain ⟨o', rs'⟩ := Rs.fresh o1 hp r
  exact kq _ c1 F1 _ _ h1.2 l1 o' rs'
/-! ### built-ins by their values -/
abbrev CD := List Rv → (Rv → Prop) → Prop
structure ClD (X : Cx) (Δ : Dx) (f : Value) (o : CD) : Prop where
  ex : ∃ r : List V → Hp → VK → Prop, CallR X f r ∧ ∀ (am : Addr) (F : Hp) (σ : St) (H : Hp) (c : Cf) (vs : List V) (rs : List Rv) (P : Rv → Prop) (Q : VK), Ok Δ am F σ H c → Rss Δ am F rs vs → o rs P →
    (∀ rr F' v H', P rr → Le F F' → Ok Δ am F' σ H' c → Rs Δ am F' σ H' c rr v → Q v H') → r vs H Q
def eCB (o : CD) (f : WA) : WE := fun c P X => f c (fun rs c1 => o rs fun r => P r c1) X
theorem cb_of {r : List V → Hp → VK → Prop} {o : CD} (ho : ∀ (am : Addr) (F : Hp) (σ : St) (H : Hp) (c : Cf) (vs : List V) (rs : List Rv) (P : Rv → Prop) (Q : VK), Ok Δ am F σ H c → Rss Δ am F rs vs → o rs P →
    (∀ rr F' v H', P rr → Le F F' → Ok Δ am F' σ H' c → Rs Δ am F' σ H' c rr v → Q v H') → r vs H Q) (σ : St) (H : Hp) (Q : VK) (h : tE Δ (eCB o fr) σ H Q) : tCB r (tA Δ fr) σ H Q := by
  obtain ⟨am, F, c, P, XX, ok, hf, kq, kx⟩ := h
  exact ⟨am, F, c, _, XX, ok, hf, fun rs c1 F1 vs H1 p1 l1 o1 s1 => ho am F1 σ H1 c1 vs rs _ Q o1 s1 p1 fun rr F' v H' prr l o s => kq rr c1 F' v H' prr (l1.trans l) o s, kx⟩
section
variable {x : Str} {p : Pos} {id T : String} {o : CD}
theorem de_cb (hc : ClD X Δ (.builtin id) o) (hg : Gl X x) (hm : X.mg x = none) (hv : bootBuiltins x = some (.builtin id)) (ha : PA X (e :: es) (tA Δ fr)) (hn : x ≠ "__name__" := by decide) (hdb : (x == ("__debug__" : Str)) = false := by decide)
    (he : starEach (e :: es) X.env = (false, eval e X.env) :: starEach es X.env := by rfl) (hpl : (backTo pos (starEach es X.env)).any (·.1) = false := by rfl) : PE X (.Call (.Name x p) (e :: es) [] pos) (tE Δ (eCB o fr)) := by
  obtain ⟨r, h1, h2⟩ := hc.ex
  exact (pe_callB h1 hg hm hv ha hn hdb he hpl).imp fun σ H Q h => cb_of h2 σ H Q h
theorem de_ct (hc : ClD X Δ (.type T) o) (hg : Gl X x) (hm : X.mg x = none) (hv : bootBuiltins x = some (.type T)) (ha : PA X (e :: es) (tA Δ fr)) (hn : x ≠ "__name__" := by decide) (hdb : (x == ("__debug__" : Str)) = false := by decide)
    (he : starEach (e :: es) X.env = (false, eval e X.env) :: starEach es X.env := by rfl) (hpl : (backTo pos (starEach es X.env)).any (·.1) = false := by rfl) : PE X (.Call (.Name x p) (e :: es) [] pos) (tE Δ (eCB o fr)) := by
  obtain ⟨r, h1, h2⟩ := hc.ex
  exact (pe_callTy h1 hg hm hv ha hn hdb he hpl).imp fun σ H Q h => cb_of h2 σ H Q h
end
def lenC : CD := fun rs P => match rs with
  | [.d (.list xs)] => P (.d (.int xs.length))
  | [.d (.tuple xs)] => P (.d (.int xs.length))
  | [.scr ns] => P (.d (.int ns.length))
  | _ => False
theorem cl_len (hK : Δ.K = X.K) (hk : X.K = TabF.K := by first | rfl | assumption) : ClD X Δ (.builtin "len") lenC :=
  ⟨_, call_len_seq, fun am F σ H c vs rs P Q ok rx ho k => by
    unfold lenC at ho
    split at ho
    · cases rx with
      | d r s =>
        cases s
        cases r with
        | lst e r1 => exact ⟨_, _, rfl, .inl (SqL.of (ok.fh _ _ e)), k _ F _ H (by rw [r1.length]; exact ho) (Le.refl F) ok (.of (.int _))⟩
    · cases rx with
      | d r s =>
        cases s
        cases r with
        | tup e r1 => exact ⟨_, _, rfl, .inr (e.sq hk ok.fh), k _ F _ H (by rw [r1.length]; exact ho) (Le.refl F) ok (.of (.int _))⟩
    · cases rx with
      | scr e s =>
        cases s
        exact ⟨_, _, rfl, .inl (sq_le ok.fh (hK ▸ e)), k _ F _ H (by rw [List.length_map]; exact ho) (Le.refl F) ok (.of (.int _))⟩
    · exact ho.elim⟩
/-- len of a name's list -/
def lenD (x : Px) (k : Nat → Prop) : Prop := match x with
  | .list xs => k xs.length
  | .tuple xs => k xs.length
  | _ => False
def eLenN (i : Nat) : WE := fun c P _ => slotD c i fun x => lenD x fun n => P (.d (.int n)) c
theorem de_lenN (i : Nat) {x f : Str} {p p' : Pos} (hf : f = "len") (hg : Gl X f) (hm : X.mg f = none) (hv : bootBuiltins f = some (.builtin "len")) (hN : X.N[i]? = some x := by rfl)
    (hvi : Vis X.env.scope x := by first | exact Or.inl rfl | exact Or.inr (Or.inl rfl) | exact Or.inr (Or.inr rfl)) (hd : (x == ("__debug__" : Str)) = false := by decide)
    (hcd : (x == ("__classdict__" : Str)) = false := by decide) (hk : X.K = TabF.K := by first | rfl | assumption) : PE X (.Call (.Name f p) [.Name x p'] [] pos) (tE Δ (eLenN i)) := by
  subst hf
  refine (pe_callB call_len_seq hg hm hv (pa_cons (pv i hN hvi hd hcd) pa_nil)).imp fun σ H Q ⟨am, F, c, P, XX, ok, hf, kq, kx⟩ => ?_
  obtain ⟨x, v, G, e1, hx, l3, l4, rpx, _⟩ := ok.look hf
  refine ⟨v, e1, ?_⟩
  unfold lenD at hx
  split at hx
  · cases rpx with
    | lst e r1 => exact ⟨_, _, rfl, .inl (SqL.of (l4 _ _ e)), kq _ c F _ H (by rw [r1.length]; exact hx) (Le.refl F) ok (.of (.int _))⟩
  · cases rpx with
    | tup e r1 => exact ⟨_, _, rfl, .inr (e.sq hk l4), kq _ c F _ H (by rw [r1.length]; exact hx) (Le.refl F) ok (.of (.int _))⟩
  · exact hx.elim
def absC : CD := fun rs P => match rs with
  | [.d (.int i)] => P (.d (.int i.natAbs))
  | _ => False
theorem cl_abs : ClD X Δ (.builtin "abs") absC :=
  ⟨_, call_abs, fun am F σ H c vs rs P Q ok rx ho k => by
    unfold absC at ho
    split at ho
    · rename_i i
      cases rx with
      | d r s =>
        cases s
        cases r
        refine ⟨_, rfl, k _ F _ H ho (Le.refl F) ok (.of ?_)⟩
        rw [show (if i < 0 then -i else i) = (i.natAbs : Int) by split <;> omega]
        exact .int _
    · exact ho.elim⟩
def intC : CD := fun rs P => match rs with
  | [.d (.int i)] => P (.d (.int i))
  | [.d (.bool b)] => P (.d (.int (if b then 1 else 0)))
  | _ => False
theorem cl_int : ClD X Δ (.type "int") intC :=
  ⟨_, call_int1, fun am F σ H c vs rs P Q ok rx ho k => by
    unfold intC at ho
    split at ho
    · cases rx with
      | d r s =>
        cases s
        cases r
        exact .inl ⟨_, rfl, k _ F _ H ho (Le.refl F) ok (.of (.int _))⟩
    · cases rx with
      | d r s =>
        cases s
        cases r
        exact .inr ⟨_, rfl, k _ F _ H ho (Le.refl F) ok (.of (.int _))⟩
    · exact ho.elim⟩
def tupC : CD := fun rs P => match rs with
  | [.d (.list xs)] => P (.d (.tuple xs))
  | [.d (.tuple xs)] => P (.d (.tuple xs))
  | _ => False
theorem cl_tup (hK : Δ.K = X.K) (hk : X.K = TabF.K := by first | rfl | assumption) : ClD X Δ (.type "tuple") tupC :=
  ⟨_, call_tuple_of, fun am F σ H c vs rs P Q ok rx ho k => by
    unfold tupC at ho
    split at ho
    · cases rx with
      | d r s =>
        cases s
        cases r with
        | lst e r1 =>
          refine ⟨_, _, rfl, .inl ⟨SqL.of (ok.fh _ _ e), fun p hp => ?_⟩⟩
          obtain ⟨o', l, rp⟩ := ok.tupN hp r1
          exact k _ _ _ _ ho l o' (.of rp)
    · cases rx with
      | d r s =>
        cases s
        cases r with
        | tup e r1 => exact ⟨_, _, rfl, .inr ⟨e.sq hk ok.fh, k _ F _ H ho (Le.refl F) ok (.of (.tup e r1))⟩⟩
    · exact ho.elim⟩
theorem RpA.ints {F : Hp} : ∀ {vs : List V} {ns : List Int}, RpA F vs (ns.map .int) → vs = ns.map V.int
  | _, [], .nil => rfl
  | _, n :: ns, .cons a b => by
    cases a
    rw [List.map_cons, RpA.ints b]
def max2 (i j : Int) : Int := if i < j then j else i
def max2C : CD := fun rs P => match rs with
  | [.d (.int i), .d (.int j)] => P (.d (.int (if i < j then j else i)))
  | _ => False
def min2C : CD := fun rs P => match rs with
  | [.d (.int i), .d (.int j)] => P (.d (.int (if j < i then j else i)))
  | _ => False
def max3C : CD := fun rs P => match rs with
  | [.d (.int i), .d (.int j), .d (.int l)] => P (.d (.int (max2 (max2 i j) l)))
  | _ => False
/-! isinstance(x, T) of a built-in class -/
def kindD : Px → String
  | .none => "NoneType"
  | .bool _ => "bool"
  | .int _ => "int"
  | .str _ => "str"
  | .list _ => "list"
  | .tuple _ => "tuple"
  | .dict _ => "?"
def isiD (T : String) (x : Px) : Bool := (kitB (kindD x) T).getD false
def eIsi (T : String) (f : WE) : WE := fun c P X => f c (fun r c1 => asD r fun x => kitB (kindD x) T = some (isiD T x) ∧ P (.d (.bool (isiD T x))) c1) X
end
end Dl
set_option Elab.async false
set_option maxRecDepth 100000
set_option linter.all false
set_option autoImplicit false
namespace Dl
open PySem L2
variable [TabF]
section
variable {X : Cx} {Δ : Dx} {a b e : Expr} {fa fb fc : WE} {pos : Pos} {es : List Expr} {fr : WA}
/-! ### an item -/
def ixD (x y : Px) (k : Px → Prop) : Prop := match x, y with
  | .list xs, .int i => (match atI xs i with | some z => k z | none => False)
  | .tuple xs, .int i => (match atI xs i with | some z => k z | none => False)
  | _, _ => False
theorem RpA.at {F : Hp} {vs : List V} {xs : List Px} {i : Int} {z : Px} (r : RpA F vs xs) (h : atI xs i = some z) : ∃ v, atI vs i = some v ∧ Rp F v z := by
  unfold atI at h ⊢
  rw [r.length]
  cases e : ixN xs.length i with
  | none => rw [e] at h; cases h
  | some j =>
    rw [e] at h
    exact r.get h
def eIx (fa fb : WE) : WE := fun c P X => fa c (fun r1 c1 => asD r1 fun x => fb c1 (fun r2 c2 => asD r2 fun y => ixD x y fun z => P (.d z) c2) X) X
def eIxN (i : Nat) (fb : WE) : WE := fun c P X => hasD c i ∧ fb c (fun r2 c2 => asD r2 fun y => slotD c2 i fun x => ixD x y fun z => P (.d z) c2) X
theorem de_ix (ha : PE X a (tE Δ fa)) (hb : PE X b (tE Δ fb)) (hs : PlainIx b) (hk : X.K = TabF.K := by first | rfl | assumption) : PE X (.Subscript a b pos) (tE Δ (eIx fa fb)) := by
  refine (pe_ix ix_seq ha hb hs).imp fun σ H Q ⟨am, F, c, P, XX, ok, hf, kq, kx⟩ => ?_
  refine ⟨am, F, c, _, XX, ok, hf, fun r1 c1 F1 v1 H1 p1 l1 o1 s1 => ?_, kx⟩
  obtain ⟨x, F1', hx, l1', o1', rp1⟩ := s1.data o1 p1
  refine ⟨am, F1', c1, _, XX, o1', hx, fun r2 c2 F2 v2 H2 p2 l2 o2 s2 => ?_, kx.le (l1.trans l1')⟩
  obtain ⟨y, F2', hy, l2', o2', rp2⟩ := s2.data o2 p2
  have rp1 := rp1.mono (l2.trans l2')
  unfold ixD at hy
  split at hy
  · split at hy
    · rename_i z ez
      cases rp1 with
      | lst e1 r1 =>
        cases rp2
        obtain ⟨v, ev, rv⟩ := r1.at ez
        exact .inl ⟨_, _, _, v, rfl, rfl, SqL.of (o2'.fh _ _ e1), ev, kq _ c2 F2' v H2 hy (((l1.trans l1').trans l2).trans l2') o2' (.of rv)⟩
    · exact hy.elim
  · split at hy
    · rename_i z ez
      cases rp1 with
      | tup e1 r1 =>
        cases rp2
        obtain ⟨v, ev, rv⟩ := r1.at ez
        exact .inr (.inl ⟨_, _, _, v, rfl, rfl, e1.sq hk o2'.fh, ev, kq _ c2 F2' v H2 hy (((l1.trans l1').trans l2).trans l2') o2' (.of rv)⟩)
    · exact hy.elim
  · exact hy.elim
theorem de_ixN (i : Nat) {x : Str} {p : Pos} (hb : PE X b (tE Δ fb)) (hs : PlainIx b) (hN : X.N[i]? = some x := by rfl)
    (hv : Vis X.env.scope x := by first | exact Or.inl rfl | exact Or.inr (Or.inl rfl) | exact Or.inr (Or.inr rfl)) (hd : (x == ("__debug__" : Str)) = false := by decide)
    (hcd : (x == ("__classdict__" : Str)) = false := by decide) (hk : X.K = TabF.K := by first | rfl | assumption) : PE X (.Subscript (.Name x p) b pos) (tE Δ (eIxN i fb)) := by
  refine (pe_ix ix_seq (pv i hN hv hd hcd) hb hs).imp fun σ H Q ⟨am, F, c, P, XX, ok, ⟨hd, hf⟩, kq, kx⟩ => ?_
  obtain ⟨_, v, _, hv, _⟩ := ok.look hd
  refine ⟨v, hv, am, F, c, _, XX, ok, hf, fun r2 c2 F2 v2 H2 p2 l2 o2 s2 => ?_, kx⟩
  obtain ⟨y, F2', hy, l2', o2', rp2⟩ := s2.data o2 p2
  obtain ⟨x, w, G, e1, hx, l3, l4, rpx, kl, kt⟩ := o2'.look hy
  rw [hv] at e1
  cases e1
  unfold ixD at hx
  split at hx
  · split at hx
    · rename_i z ez
      obtain ⟨a, vs, rfl, ea, r1⟩ := kl _ rfl
      cases rp2
      obtain ⟨u, ev, rv⟩ := r1.at ez
      exact .inl ⟨_, _, _, u, rfl, rfl, SqL.of ea, ev, kq _ c2 F2' u H2 hx (l2.trans l2') o2' (.of rv)⟩
    · exact hx.elim
  · split at hx
    · rename_i z ez
      obtain ⟨a, vs, rfl, ea, r1⟩ := kt _ rfl
      cases rp2
      obtain ⟨u, ev, rv⟩ := r1.at ez
      exact .inr (.inl ⟨_, _, _, u, rfl, rfl, ea.sq hk (by first | exact o2'.fh | exact o3.fh | exact ok.fh), ev, kq _ c2 F2' u H2 hx (l2.trans l2') o2' (.of rv)⟩)
    · exact hx.elim
  · exact hx.elim
/-! ### slices -/
abbrev WO := Cf → (Option Int → Cf → Prop) → XP → Prop
def oNone : WO := fun c P _ => P none c
def oSome (f : WE) : WO := fun c P X => f c (fun r c1 => match r with
  | .d (.int i) => P (some i) c1
  | _ => False) X
def tO (Δ : Dx) (f : WO) : TO := fun σ H Q => ∃ am F c P X, Ok Δ am F σ H c ∧ f c P X ∧ (∀ o c' F' H', P o c' → Le F F' → Ok Δ am F' σ H' c' → Q o H') ∧ KX Δ am F X
theorem _root_.L2.PO.imp {e : Option Expr} {t t' : TO} (h : PO X e t) (w : ∀ σ H Q, t' σ H Q → t σ H Q) : PO X e t' :=
  ⟨fun pins s σ H Q I q => h.run pins s σ H Q I (w σ H Q q)⟩
theorem do_none : PO X none (tO Δ oNone) := po_none.imp fun σ H Q ⟨am, F, c, P, XX, ok, hf, kq, kx⟩ => kq _ c F H hf (Le.refl F) ok
theorem do_some (h : PE X e (tE Δ fa)) : PO X (some e) (tO Δ (oSome fa)) := by
  refine (po_some h).imp fun σ H Q ⟨am, F, c, P, XX, ok, hf, kq, kx⟩ => ?_
  refine ⟨am, F, c, _, XX, ok, hf, fun r1 c1 F1 v1 H1 p1 l1 o1 s1 => ?_, kx⟩
  dsimp only at p1
  split at p1
  · have h1 := s1.1
    cases h1
    exact ⟨_, rfl, kq _ c1 F1 H1 p1 l1 o1⟩
  · exact p1.elim
def cutX {α : Type} (xs : List α) (lo hi : Option Int) : List α := (xs.drop (HT.sIx xs.length 0 lo)).take (HT.sIx xs.length xs.length hi - HT.sIx xs.length 0 lo)
theorem RpA.cut {F : Hp} {vs : List V} {xs : List Px} (r : RpA F vs xs) (lo hi : Option Int) : RpA F (cutV vs lo hi) (cutX xs lo hi) := by
  unfold cutV cutX
  rw [r.length]
  exact (r.drop _).take _
/-- a list's slice is a new list; a tuple's, where it isn't the whole, a new tuple -/
def slD (x : Px) (lo hi : Option Int) (k : Rv → Prop) : Prop := match x with
  | .list xs => k (.own (cutX xs lo hi))
  | .tuple xs => k (.d (.tuple (cutX xs lo hi)))
  | _ => False
def eSl (fa : WE) (fl fh : WO) : WE := fun c P X => fa c (fun r1 c1 => asD r1 fun x => fl c1 (fun lo c2 => fh c2 (fun hi c3 => slD x lo hi fun r => P r c3) X) X) X
def eSlN (i : Nat) (fl fh : WO) : WE := fun c P X => hasD c i ∧ fl c (fun lo c2 => fh c2 (fun hi c3 => slotD c3 i fun x => slD x lo hi fun r => P r c3) X) X
theorem _root_.Dl.Ok.tupF {am : Addr} {F : Hp} {σ : St} {H : Hp} {c : Cf} (k : Ok Δ am F σ H c) {i : Nat} {q : Px → Prop} (h : slotD c i q) {a : Addr} {vs : List V} {xs : List Px} (hv : σ[i]? = some (some (.ref a))) (ea : TupF F a vs) (r1 : RpA F vs xs) : Rp F (.ref a) (.tuple xs) := .tup ea r1
/-! ### a name's own list + .. -/
def catD : OD := fun x y P => match x, y with
  | .list xs, .list ys => xs.length + ys.length ≤ 1000000 ∧ P (.own (xs ++ ys))
  | .int i, .int j => P (.d (.int (i + j)))
  | .tuple xs, .tuple ys => xs.length + ys.length ≤ 1000000 ∧ P (.d (.tuple (xs ++ ys)))
  | _, _ => False
def eAddN (i : Nat) (fb : WE) : WE := fun c P X => hasD c i ∧ fb c (fun r2 c2 => asD r2 fun y => slotD c2 i fun x => catD x y fun r => P r c2) X
theorem de_addN (i : Nat) {x : Str} {p : Pos} (hK : Δ.K = X.K) (hb : PE X b (tE Δ fb)) (hN : X.N[i]? = some x := by rfl)
    (hv : Vis X.env.scope x := by first | exact Or.inl rfl | exact Or.inr (Or.inl rfl) | exact Or.inr (Or.inr rfl)) (hd : (x == ("__debug__" : Str)) = false := by decide)
    (hcd : (x == ("__classdict__" : Str)) = false := by decide) (hk : X.K = TabF.K := by first | rfl | assumption) : PE X (.BinOp (.Name x p) .Add b pos) (tE Δ (eAddN i fb)) := by
  refine (pe_op (OpR.or (OpR.or op_add op_cat) op_catA) (pv i hN hv hd hcd) hb).imp fun σ H Q ⟨am, F, c, P, XX, ok, ⟨hd, hf⟩, kq, kx⟩ => ?_
  obtain ⟨_, v, _, hv, _⟩ := ok.look hd
  refine ⟨v, hv, am, F, c, _, XX, ok, hf, fun r2 c2 F2 v2 H2 p2 l2 o2 s2 => ?_, kx⟩
  obtain ⟨y, F2', hy, l2', o2', rp2⟩ := s2.data o2 p2
  obtain ⟨x, w, G, e1, hx, l3, l4, rpx, kl, kt⟩ := o2'.look hy
  rw [hv] at e1
  cases e1
  have ll := l2.trans l2'
  unfold catD at hx
  split at hx
  · obtain ⟨a, vs, rfl, ea, r1⟩ := kl _ rfl
    cases rp2 with
    | lst e2 r2 =>
      refine .inl (.inr ⟨_, _, _, _, rfl, rfl, ea, o2'.fh _ _ e2, line_of (by rw [r1.length, r2.length]; exact hx.1), fun p hp => ?_⟩)
      obtain ⟨o', rs⟩ := Rs.fresh o2' hp (r1.append r2)
      exact kq _ c2 F2' _ _ hx.2 ll o' rs
  · cases rpx
    cases rp2
    exact .inl (.inl ⟨_, _, rfl, rfl, kq _ c2 F2' _ H2 hx ll o2' (.of (.int _))⟩)
  · rename_i xs ys
    obtain ⟨a, vs, rfl, ea, r1⟩ := kt _ rfl
    cases rp2 with
    | tup e2 r2 =>
      refine .inr ⟨_, _, _, _, rfl, rfl, ea.sq hk (by first | exact o2'.fh | exact o3.fh | exact ok.fh), e2.sq hk o2'.fh, line_of (by rw [r1.length, r2.length]; exact hx.1), fun z => ?_, fun _ z => ?_, fun _ _ p hp => ?_⟩
      · have := r1.length
        rw [z] at this
        have e0 : xs = [] := List.length_eq_zero_iff.mp this.symm
        subst e0
        exact kq _ c2 F2' _ H2 hx.2 ll o2' (.of (.tup e2 r2))
      · have := r2.length
        rw [z] at this
        have e0 : ys = [] := List.length_eq_zero_iff.mp this.symm
        subst e0
        have h3 := hx.2
        rw [List.append_nil] at h3
        exact kq _ c2 F2' _ H2 h3 ll o2' (.of (o2'.tupF hy hv ea r1))
      · obtain ⟨o', l, rp⟩ := o2'.tupN hp (r1.append r2)
        exact kq _ c2 _ _ _ hx.2 (ll.trans l) o' (.of rp)
  · exact hx.elim
end
end Dl
set_option Elab.async false
set_option maxRecDepth 100000
set_option linter.all false
set_option autoImplicit false
/-! Promises of defs that are called where no repr is under way. -/
namespace Dl
open PySem L2 PySem.Spec PyProof.Rows
variable [TabF]
structure RoomG (k : Nat) (A : Around) : Prop extends Room k A where
  gd : A.guards = some []
theorem RoomG.mono {j k : Nat} {A : Around} (r : RoomG k A) (h : j ≤ k) : RoomG j A := ⟨r.toRoom.mono h, r.gd⟩
theorem RoomG.deeper {k : Nat} {A : Around} (r : RoomG (k + 1) A) (env : Env) : RoomG k (A.deeper env) := ⟨r.toRoom.deeper env, r.gd⟩
structure FnG (P : Program) (w : World) (K : PySem.W.Frag) (mg : Str → Option Value) (base : Heap) (CX : CXT) (k : Nat) (f : Addr) (fd : FuncData) (ps : List Str) (sp : Sp) : Prop where
  len : ∀ vs H Q E, sp vs H Q E → vs.length = ps.length
  run : ∀ {A : Around} {outer : List Env} {s : Shared} {H : Hp} {args : Args} {us : List Value} {vs : List V} {Q : VK} {E : XK}, RoomG k A → Env0 P w K mg base A outer s H → BindsTo s fd args (ps.zip us) → Vals vs us → sp vs H Q E →
    codeAny (model P w) A (.call (.ref f) args) (CR CX outer P w H s Q E) s
section
variable {P : Program} {w : World} {K : PySem.W.Frag} {mg : Str → Option Value} {base : Heap} {CX : CXT} {k : Nat} {f : Addr} {fd : FuncData} {ps : List Str} {sp : Sp}
theorem fnG_of {x qual : Str} {params : Arguments} {body : List Stmt} {scope : Scope} {dvs : List V} {kws : List (Str × V)} {N : List Str} (F : FunD K x qual params body scope dvs kws f fd) (S : FnScope N ps scope) (len : ∀ vs H Q E, sp vs H Q E → vs.length = ps.length)
    (hb : ∀ (cdv : Value) (A : Around) (outer : List Env) (s : Shared) (H : Hp) (vs : List V) (Q : VK) (E : XK), RoomG k (A.deeper (envOfC qual scope s.heap.objs.size f cdv)) → sp vs H Q E →
      ∃ t, PSs (cxOf CX P w K mg base N qual scope f cdv A outer s H E) body t ∧ t { nx := fun _ H' => Q .non H', rt := Q } (start N vs) H) : FnG P w K mg base CX (k + 1) f fd ps sp := by
  obtain ⟨_, _, _, _, _, _, _, cdv, _, _, rfl, look, code, _, _⟩ := F.ex
  refine ⟨len, fun {A outer s H args us vs Q E} room e0 bind rel want => ?_⟩
  have stay : ∀ b o, base.get? b = some o → s.heap.get? b = some o := fun b o e => (e0.bs b o e).1
  have kin : K.In s.heap := e0.mod.kin.keeps stay
  refine codeAny_call_function room.depth (kin _ _ look) rfl S.co S.gen rfl (PySem.W.codeRec_of kin code) (bind _ _ _ _ ?_)
  refine wpAny_newFunctionEnv_cells S.kind (fun y hy => ?_) fun env he s1 x => ?_
  · rcases S.par y.1 (List.of_mem_zip hy).1 with q | q
    · exact .inl q
    · exact .inr ⟨q, PySem.W.cellsFrom_some _ _ _ (.inl q)⟩
  · subst he
    obtain ⟨t, run, ok⟩ := hb cdv A outer s H vs Q E (room.deeper _) want
    have I : Inv (cxOf CX P w K mg base N qual scope f cdv A outer s H E) [] (L2.start N vs) H s1 := inv_start S room.hd e0 (len _ _ _ _ want) rel x
    refine ⟨(e0.mod.nolimit.keeps stay).keeps x.toInCall.keep, codeAny_func (wpAny_mono (run.run [] s1 (start N vs) H _ I ok) (fun fl s' got => ?_) fun _ _ got => got)⟩
    have fin : ∀ {σ' : L2.St} {H' : Hp} {v : V} {u : Value}, Inv (cxOf CX P w K mg base N qual scope f cdv A outer s H E) [] σ' H' s' → RelV v u → Q v H' → CE outer P w H s Q u s' := fun J r q => ⟨_, _, J.os, J.bare, J.base, J.hok, r, q⟩
    cases fl with
    | ret u =>
      obtain ⟨_, _, _, J, r, q⟩ := got
      exact fin J r q
    | next =>
      obtain ⟨_, _, J, q⟩ := got
      exact fin (v := .non) (u := .none) J rfl q
    | brk => obtain ⟨_, _, _, q⟩ := got; exact q.elim
    | cont => obtain ⟨_, _, _, q⟩ := got; exact q.elim
end
section
variable {X : Cx} {CX : CXT} {k : Nat} {f : Addr} {fd : FuncData} {ps : List Str} {sp : Sp} {E : XK} {x : Str} {p pos : Pos} {e : Expr} {es : List Expr} {t : TA}
theorem run_fnG {pins : List (Addr × Obj)} {σ : L2.St} {H : Hp} {s : Shared} {Q : VK} {us : List Value} {vs : List V} (F : FnG X.prog X.w X.K X.mg X.base CX k f fd ps sp) (hr : RoomG k X.A) (hb : Binds X.K fd ps []) (hx : Passes CX X E)
    (I : Inv X pins σ H s) (r : Vals vs us) (h : sp vs H Q E) : wpAny (model X.prog X.w) X.A (call (.ref f) us) (EP X pins σ Q) X.xe s := by
  have hl : us.length = ps.length := r.length.symm.trans (F.len _ _ _ _ h)
  have bind := hb s us I.kIn (by rw [List.append_nil]; exact hl)
  rw [List.append_nil] at bind
  refine wpAny_call (codeAny_mono (F.run hr I.env0 bind r h) fun end_ s' got => ?_)
  match end_, got with
  | .error e, got => exact hx pins σ H s e s' I got
  | .ok (.ret u), got => exact I.after got
theorem pe_callX (F : FnG X.prog X.w X.K X.mg X.base CX k f fd ps sp) (hr : RoomG k X.A) (hg : Gl X x) (hm : X.mg x = some (.ref f)) (hk : PySem.W.keepIn X.K (.ref f) = true) (hb : Binds X.K fd ps []) (hx : Passes CX X E)
    (ha : PA X (e :: es) t) (hdb : (x == ("__debug__" : Str)) = false := by decide) (he : starEach (e :: es) X.env = (false, eval e X.env) :: starEach es X.env := by rfl) (hpl : (backTo pos (starEach es X.env)).any (·.1) = false := by rfl) :
    PE X (.Call (.Name x p) (e :: es) [] pos) (tCall sp [] E t) :=
  ⟨fun pins s σ H Q I h => wpAny_Call_Name_kw (ld_glob I hg hm (PySem.W.callWith_K (h₀ := X.base) I.ok.mod.kin hk (thn (ha.run pos pins s σ H _ I h) fun us s1 ⟨vs, H1, I1, r, q⟩ => ⟨I1.kIn, run_fnG F hr hb hx I1 r (by rw [← List.append_nil vs]; exact q)⟩) he hpl) hdb)⟩
theorem pe_callX0 (F : FnG X.prog X.w X.K X.mg X.base CX k f fd ps sp) (hr : RoomG k X.A) (hg : Gl X x) (hm : X.mg x = some (.ref f)) (hk : PySem.W.keepIn X.K (.ref f) = true) (hb : Binds X.K fd ps []) (hx : Passes CX X E)
    (hdb : (x == ("__debug__" : Str)) = false := by decide) : PE X (.Call (.Name x p) [] [] pos) (tCall sp [] E tNil) :=
  ⟨fun pins s σ H Q I h => wpAny_Call_Name_kw (ld_glob I hg hm (PySem.W.callWith_K0 I.kIn hk (run_fnG (us := []) F hr hb hx I .nil h)) hdb)⟩
end
/-! ### the law itself -/
end Dl
set_option Elab.async false
set_option maxRecDepth 100000
set_option linter.all false
set_option autoImplicit false
namespace Dl
open PySem L2
variable [TabF]
/-! ### contracts -/
abbrev Cn := List Rv → Option Nat → (Rv → Option Nat → Prop) → Prop
def dx0 (K : PySem.W.Frag) (am : Addr) (g : Option Nat) (F H : Hp) : Dx := ⟨K, g.map fun _ => am, F, unT H, fun _ _ _ _ _ => False⟩
def spD (K : PySem.W.Frag) (Pr : Cn) : Sp := fun vs H Q _ => ∃ am F rs g P, Le F H ∧ Tb0 K F H ∧ (∀ n, g = some n → F am = none ∧ GenAt F H am n) ∧ Rss (dx0 K am g F H) am F rs vs ∧ Pr rs g P ∧
  ∀ r g' am' F' v H', P r g' → Le F F' → Fin (dx0 K am g F H) am' F' H' g' → Sl (dx0 K am g F H) am' F' H' r v → Q v H'
structure CalD (P : Program) (w : World) (K : PySem.W.Frag) (mg : Str → Option Value) (base : Heap) (k : Nat) (x : Str) (Pr : Cn) : Prop where
  ex : ∃ (f : Addr) (fd : FuncData) (ps : List Str), FnG P w K mg base CX0 k f fd ps (spD K Pr) ∧ mg x = some (.ref f) ∧ PySem.W.keepIn K (.ref f) = true ∧ Binds K fd ps []
theorem Rss.to {Δ Δ' : Dx} {am am' : Addr} {F : Hp} (hk : Δ.K = Δ'.K) : ∀ {rs : List Rv} {vs : List V}, (Rv.gen ∈ rs → am = am') → Rss Δ am F rs vs → Rss Δ' am' F rs vs
  | _, _, _, .nil => .nil
  | _, _, h, .d a b => .d a (Rss.to hk (fun z => h (List.mem_cons_of_mem _ z)) b)
  | _, _, h, .gen b => by
    have e := h List.mem_cons_self
    subst e
    exact .gen (Rss.to hk (fun _ => rfl) b)
  | _, _, h, .scr a b => .scr (hk ▸ a) (Rss.to hk (fun z => h (List.mem_cons_of_mem _ z)) b)
section
variable {X : Cx} {Δ : Dx} {a b e : Expr} {fa fb fc : WE} {pos : Pos} {es : List Expr} {fr : WA}
/-- behind a call: g the state that was handed over (none: it was not) -/
theorem Ok.back {am : Addr} {F : Hp} {σ : St} {H : Hp} {c : Cf} (k : Ok Δ am F σ H c) {g g' : Option Nat} {am' : Addr} {F' H' : Hp} {r : Rv} {v : V} (hg : g = none ∨ g = c.g) (l : Le F F')
    (fn : Fin (dx0 Δ.K am g F H) am' F' H' g') (s : Sl (dx0 Δ.K am g F H) am' F' H' r v) (ng : r ≠ .gen) :
    Ok Δ am F' σ H' { c with g := if g.isSome then g' else c.g } ∧ Rs Δ am F' σ H' { c with g := if g.isSome then g' else c.g } r v := by
  have pr : ∀ b o, H b = some o → b ≠ am ∨ g = none → (∀ ps, o ≠ .tbl ps) → H' b = some o := fun b o e h nt => fn.pr b o (unT_to e nt) (by
    cases g with
    | none => exact fun z => nomatch z
    | some n =>
      rcases h with h | h
      · intro z
        have z' : some am = some b := z
        cases z'
        exact h rfl
      · cases h)
  have own : ∀ a vs, H a = some (.lst vs) → H' a = some (.lst vs) := fun a vs e => by
    cases g with
    | none => exact pr a _ e (.inr rfl) lst_ok.1
    | some n =>
      rcases hg with h | h
      · cases h
      · exact pr a _ e (.inl ((k.gn n h.symm).2.2.ne e)) lst_ok.1
  have fr : ∀ b, F' b ≠ none → F b ≠ none ∨ unT H b = none := fn.fr
  have nf : ∀ b o, H b = some o → F b = none → (∀ ps, o ≠ .tbl ps) → F' b = none := fun b o e n nt => by
    cases q : F' b with
    | none => rfl
    | some u =>
      rcases fr b (by rw [q]; exact fun z => nomatch z) with z | z
      · exact absurd n z
      · rw [unT_to e nt] at z; cases z
  have new : ∀ b, unT H b = none → Δ.H0 b = none := fun b e => by
    rcases unT_none e with e | ⟨ps, e⟩
    · exact k.new e
    · cases q : Δ.H0 b with
      | none => rfl
      | some o =>
        by_cases na : Δ.a0 = some b
        · obtain ⟨⟨u, h1, h2⟩, _⟩ := k.al b na
          rw [e] at h1
          exact absurd (Option.some.inj h1).symm (h2 ps)
        · have h1 := k.pr b o q na
          rw [e] at h1
          rw [← Option.some.inj h1] at q
          exact absurd q (k.tb.2.2 b ps)
  have gnew : ∀ n, (if g.isSome then g' else c.g) = some n → (Δ.a0 = some am ∨ (Δ.a0 = none ∧ Δ.H0 am = none)) ∧ F' am = none ∧ GenAt F' H' am n := fun n e => by
    cases g with
    | none =>
      have e : c.g = some n := e
      obtain ⟨h1, h2, h3⟩ := k.gn n e
      obtain ⟨left, sd, sp, ac, ns, h4, h5, h6⟩ := id h3
      exact ⟨h1, nf _ _ h4 h2 dK_ok.1, left, sd, sp, ac, ns, pr _ _ h4 (.inr rfl) dK_ok.1, l _ _ h5, h6⟩
    | some m =>
      have e : g' = some n := e
      have hc : c.g = some m := by
        rcases hg with h | h
        · cases h
        · exact h.symm
      obtain ⟨h1, h2, h3⟩ := k.gn m hc
      obtain ⟨h4, h5, h6⟩ := fn.gn n e
      have ea : am = am' := by
        rcases h4 with z | z
        · have z' : some am = some am' := z
          cases z'; rfl
        · have z' : (some am : Option Addr) = none := z.1
          cases z'
      subst ea
      exact ⟨h1, h5, h6⟩
  have hpr : ∀ b o, Δ.H0 b = some o → Δ.a0 ≠ some b → H' b = some o := by
    intro b o e n
    refine fn.pr b o (unT_to (k.pr b o e n) fun ps z => k.tb.2.2 b ps (z ▸ e)) ?_
    cases g with
    | none => exact fun z => nomatch z
    | some m =>
      intro z
      have z' : some am = some b := z
      cases z'
      have hc : c.g = some m := by
        rcases hg with h | h
        · cases h
        · exact h.symm
      rcases (k.gn m hc).1 with q | q
      · exact n q
      · rw [q.2] at e
        cases e
  have hal : ∀ b, Δ.a0 = some b → Lv H' b ∧ Δ.H0 b ≠ none := by
    intro b e
    refine ⟨?_, (k.al b e).2⟩
    obtain ⟨⟨o, q, nt⟩, _⟩ := k.al b e
    cases g with
    | none => exact ⟨o, pr b o q (.inr rfl) nt, nt⟩
    | some m =>
      by_cases z : b = am
      · subst z
        exact (fn.al b rfl).1
      · exact ⟨o, pr b o q (.inl z) nt, nt⟩
  have hsv : ∀ (i : Nat) (r' : Rv), c.env[i]? = some (some r') → ∃ v, σ[i]? = some (some v) ∧ Sl Δ am F' H' r' v := by
    intro i r' e
    obtain ⟨w, h1, h2⟩ := k.sv i r' e
    refine ⟨w, h1, ?_⟩
    cases r' with
    | d x => exact Rp.mono l h2
    | gen => exact h2
    | scr ns =>
      obtain ⟨a, e1, e2⟩ := h2
      exact ⟨a, e1, sq_le l e2⟩
    | own xs =>
      obtain ⟨a, vs, e1, e2, e3, e4, e5⟩ := h2
      exact ⟨a, vs, e1, own a vs e2, nf a _ e2 e3 lst_ok.1, e4, e5.mono l⟩
    | dic D =>
      obtain ⟨a, o, e1, e2, e3, e4, e5⟩ := h2
      refine ⟨a, o, e1, ?_, nf a _ e2 e3 e5.ntbl, e4, e5.mono l⟩
      cases g with
      | none => exact pr a _ e2 (.inr rfl) e5.ntbl
      | some n =>
        rcases hg with h | h
        · cases h
        · exact pr a _ e2 (.inl ((k.gn n h.symm).2.2.neD e2 e5)) e5.ntbl
  have o' : Ok Δ am F' σ H' { c with g := if g.isSome then g' else c.g } :=
    ⟨fn.fh, k.f0.trans l, fun b e => (fr b e).elim (fun z => k.fr b z) fun z => .inr (new b z), ⟨fn.tb.1, fn.tb.2.1, k.tb.2.2⟩, hpr, hal, gnew, k.len, hsv, k.di⟩
  refine ⟨o', ?_⟩
  cases r with
  | d x => exact .of s
  | gen => exact absurd rfl ng
  | scr ns => exact ⟨s, fun z => z.elim⟩
  | dic D =>
    obtain ⟨p, vs, e1, e2, e3, e4, e5⟩ := s
    have e4 : unT H p = none := e4
    refine ⟨⟨p, vs, e1, e2, e3, new p e4, e5⟩, fun _ i zs e mu z => ?_⟩
    subst e1
    obtain ⟨w, h1, s1⟩ := k.sv i _ e
    obtain ⟨a, ws, q1, q2, q3⟩ := s1.atN mu
    subst q1
    rw [z] at h1
    cases h1
    rw [unT_to q2 q3] at e4; cases e4
  | own xs =>
    obtain ⟨p, vs, e1, e2, e3, e4, e5⟩ := s
    have e4 : unT H p = none := e4
    refine ⟨⟨p, vs, e1, e2, e3, new p e4, e5⟩, fun _ i zs e mu z => ?_⟩
    subst e1
    obtain ⟨w, h1, s1⟩ := k.sv i _ e
    obtain ⟨a, ws, q1, q2, q3⟩ := s1.atN mu
    subst q1
    rw [z] at h1
    cases h1
    rw [unT_to q2 q3] at e4; cases e4
/-- f(..), a def by its contract; the drawing state is handed over, or not -/
def eCallP (Pr : Cn) (f : WA) : WE := fun c P X => f c (fun rs c1 => Rv.gen ∉ rs ∧ Pr rs none fun r _ => r ≠ .gen ∧ P r c1) X
def eCallG (Pr : Cn) (f : WA) : WE := fun c P X => f c (fun rs c1 => c1.g.isSome = true ∧ Pr rs c1.g fun r g' => r ≠ .gen ∧ P r { c1 with g := g' }) X
section
variable {k : Nat} {x : Str} {p : Pos} {Pr : Cn}
theorem de_callP (C : CalD X.prog X.w X.K X.mg X.base k x Pr) (hK : Δ.K = X.K) (hr : RoomG k X.A) (hg : Gl X x) (ha : PA X (e :: es) (tA Δ fr)) (hdb : (x == ("__debug__" : Str)) = false := by decide)
    (he : starEach (e :: es) X.env = (false, eval e X.env) :: starEach es X.env := by rfl) (hpl : (backTo pos (starEach es X.env)).any (·.1) = false := by rfl) :
    PE X (.Call (.Name x p) (e :: es) [] pos) (tE Δ (eCallP Pr fr)) := by
  obtain ⟨f, fd, ps, h1, h2, h3, h4⟩ := C.ex
  refine (pe_callX h1 hr hg h2 h3 h4 pass0 ha hdb he hpl).imp fun σ H Q ⟨am, F, c, P, XX, ok, hf, kq, kx⟩ => ?_
  refine ⟨am, F, c, _, XX, ok, hf, fun rs c1 F1 vs H1 p1 l1 o1 s1 => ?_, kx⟩
  show spD X.K Pr (vs ++ []) H1 Q E0
  rw [List.append_nil]
  refine ⟨am, F1, rs, none, _, o1.fh, o1.tbs hK, fun n z => (nomatch z), s1.to hK (fun _ => rfl), p1.2, fun r g' am' F' v H' pr l fn s => ?_⟩
  obtain ⟨o', s'⟩ := o1.back (g := none) (.inl rfl) l (hK ▸ fn) (hK ▸ s) pr.1
  exact kq r c1 F' v H' pr.2 (l1.trans l) o' s'
theorem de_callG (C : CalD X.prog X.w X.K X.mg X.base k x Pr) (hK : Δ.K = X.K) (hr : RoomG k X.A) (hg : Gl X x) (ha : PA X (e :: es) (tA Δ fr)) (hdb : (x == ("__debug__" : Str)) = false := by decide)
    (he : starEach (e :: es) X.env = (false, eval e X.env) :: starEach es X.env := by rfl) (hpl : (backTo pos (starEach es X.env)).any (·.1) = false := by rfl) :
    PE X (.Call (.Name x p) (e :: es) [] pos) (tE Δ (eCallG Pr fr)) := by
  obtain ⟨f, fd, ps, h1, h2, h3, h4⟩ := C.ex
  refine (pe_callX h1 hr hg h2 h3 h4 pass0 ha hdb he hpl).imp fun σ H Q ⟨am, F, c, P, XX, ok, hf, kq, kx⟩ => ?_
  refine ⟨am, F, c, _, XX, ok, hf, fun rs c1 F1 vs H1 p1 l1 o1 s1 => ?_, kx⟩
  show spD X.K Pr (vs ++ []) H1 Q E0
  rw [List.append_nil]
  refine ⟨am, F1, rs, c1.g, _, o1.fh, o1.tbs hK, fun n z => (o1.gn n z).2, s1.to hK (fun _ => rfl), p1.2, fun r g' am' F' v H' pr l fn s => ?_⟩
  obtain ⟨o', s'⟩ := o1.back (g := c1.g) (.inr rfl) l (hK ▸ fn) (hK ▸ s) pr.1
  rw [if_pos p1.1] at o' s'
  exact kq r _ F' v H' pr.2 (l1.trans l) o' s'
end
end
/-! ### a def's body -/
def startC (n : Nat) (rs : List Rv) (g : Option Nat) : Cf := ⟨rs.map some ++ List.replicate (n - rs.length) none, g⟩
theorem Rss.length {Δ : Dx} {am : Addr} {F : Hp} : ∀ {rs : List Rv} {vs : List V}, Rss Δ am F rs vs → rs.length = vs.length
  | _, _, .nil => rfl
  | _, _, .d _ r => congrArg (· + 1) r.length
  | _, _, .gen r => congrArg (· + 1) r.length
  | _, _, .scr _ r => congrArg (· + 1) r.length
theorem Rss.get {Δ : Dx} {am : Addr} {F H : Hp} : ∀ {rs : List Rv} {vs : List V} {i : Nat} {r : Rv}, Rss Δ am F rs vs → rs[i]? = some r → ∃ v, vs[i]? = some v ∧ Sl Δ am F H r v ∧ ¬ r.mu
  | _, _, _, _, .nil, h => by simp at h
  | _, _, 0, _, .d a _, h => by simp at h; subst h; exact ⟨_, rfl, a, fun z => z.elim⟩
  | _, _, 0, _, .gen _, h => by simp at h; subst h; exact ⟨_, rfl, rfl, fun z => z.elim⟩
  | _, _, 0, _, .scr a _, h => by simp at h; subst h; exact ⟨_, rfl, ⟨_, rfl, a⟩, fun z => z.elim⟩
  | _, _, i + 1, _, .d _ b, h => by
    obtain ⟨v, e, q⟩ := Rss.get (i := i) (H := H) b (by simpa using h)
    exact ⟨v, by simpa using e, q⟩
  | _, _, i + 1, _, .gen b, h => by
    obtain ⟨v, e, q⟩ := Rss.get (i := i) (H := H) b (by simpa using h)
    exact ⟨v, by simpa using e, q⟩
  | _, _, i + 1, _, .scr _ b, h => by
    obtain ⟨v, e, q⟩ := Rss.get (i := i) (H := H) b (by simpa using h)
    exact ⟨v, by simpa using e, q⟩
theorem start_get {n : Nat} {rs : List Rv} {g : Option Nat} {i : Nat} {r : Rv} (h : (startC n rs g).env[i]? = some (some r)) : rs[i]? = some r := by
  unfold startC at h
  by_cases hi : i < rs.length
  · rw [List.getElem?_append_left (by simpa using hi), List.getElem?_map] at h
    cases e : rs[i]? with
    | none => rw [e] at h; cases h
    | some x => rw [e] at h; cases h; rfl
  · rw [List.getElem?_append_right (by simpa using hi), List.getElem?_replicate] at h
    split at h <;> cases h
theorem start_ok {K : PySem.W.Frag} {am : Addr} {F H : Hp} {g : Option Nat} {rs : List Rv} {vs : List V} {N : List Str} (fh : Le F H) (tb : Tb0 K F H) (gn : ∀ n, g = some n → F am = none ∧ GenAt F H am n) (s : Rss (dx0 K am g F H) am F rs vs) :
    Ok (dx0 K am g F H) am F (L2.start N vs) H (startC N.length rs g) where
  fh := fh
  f0 := Le.refl F
  fr := fun a h => .inl h
  tb := ⟨tb.1, tb.2, unT_not H⟩
  pr := fun a o e _ => unT_of e
  al := fun a e => by
    cases g with
    | none => cases e
    | some n =>
      have e' : some am = some a := e
      cases e'
      obtain ⟨_, _, _, _, _, e1, _⟩ := (gn n rfl).2
      have lv : Lv H am := ⟨_, e1, dK_ok.1⟩
      exact ⟨lv, lv.un⟩
  gn := fun n e => by
    have e' : g = some n := e
    subst e'
    exact ⟨.inl rfl, gn n rfl⟩
  len := by
    unfold L2.start startC
    simp only [List.length_append, List.length_map, List.length_replicate, s.length]
  sv := fun i r e => by
    obtain ⟨v, h1, h2, _⟩ := s.get (H := H) (start_get e)
    refine ⟨v, ?_, h2⟩
    unfold L2.start
    have hi : i < vs.length := (List.getElem?_eq_some_iff.mp h1).1
    rw [List.getElem?_append_left (by simpa using hi), List.getElem?_map, h1]
    rfl
  di := fun i j r r' _ e _ mu _ => by
    obtain ⟨v, _, _, h⟩ := s.get (H := H) (start_get e)
    exact absurd mu h
def endP (P : Rv → Option Nat → Prop) : Fl → Prop := fun fl => match fl with
  | .nx c => P (.d .none) c.g
  | .rt r g => P r g
  | .bk _ => False
  | .ct _ => False
section
variable {P : Program} {w : World} {K : PySem.W.Frag} {mg : Str → Option Value} {base : Heap}
/-- THE RULE for a def -/
theorem def_ok {x qual : Str} {st : Stmt} {f : Addr} {fd : FuncData} {N ps : List Str} {k : Nat} {Pr : Cn} (nog : Bool) (F : FunD K x qual (defArgs st) (defBody st) (defScope st) [] [] f fd) (S : FnScope N ps (defScope st)) (hmg : mg x = some (.ref f)) (bi : Binds K fd ps [])
    (fw : WS) (len : ∀ rs g Q, Pr rs g Q → rs.length = ps.length) (hn : nog = true → ∀ rs g Q, Pr rs g Q → g = none) (spec : ∀ rs g Q, Pr rs g Q → fw (startC N.length rs g) (endP Q) fun _ _ => False)
    (hbody : ∀ (cdv : Value) (A : Around) (outer : List Env) (s : Shared) (H : Hp) (E : XK) (Δ : Dx), RoomG k (A.deeper (PyProof.Rows.envOfC qual (defScope st) s.heap.objs.size f cdv)) → Δ.K = K → (nog = true → Δ.a0 = none) →
      PSs (cxOf CX0 P w K mg base N qual (defScope st) f cdv A outer s H E).nox (defBody st) (tS Δ fw)) : CalD P w K mg base (k + 1) x Pr := by
  refine ⟨f, fd, ps, fnG_of F S (fun vs H Q E h => ?_) (fun cdv A outer s H vs Q E hr h => ?_), hmg, F.kp, bi⟩
  · obtain ⟨am, G, rs, g, q, _, _, _, h3, h4, _⟩ := h
    rw [← h3.length]
    exact len rs g q h4
  · obtain ⟨am, G, rs, g, q, h1, ht, h2, h3, h4, h5⟩ := h
    refine ⟨_, PSs.nox (hbody cdv A outer s H E (dx0 K am g G H) hr rfl (fun z => by rw [hn z rs g q h4]; rfl)), am, G, _, _, _, start_ok h1 ht h2 h3, spec rs g q h4, ⟨fun c am' F' σ' H' p l o => ?_, fun _ _ _ _ _ z => z.elim, fun _ _ _ _ _ z => z.elim, fun r g' am' F' H' v p l fn s => ?_⟩, fun _ _ _ _ _ z => z.elim⟩
    · exact h5 _ _ am' F' _ H' p l o.fin .non
    · exact h5 r g' am' F' v H' p l fn s
end
end Dl
set_option Elab.async false
set_option maxRecDepth 100000
set_option linter.all false
set_option autoImplicit false
namespace Dl
open PySem L2
variable [TabF]
section
variable {X : Cx} {Δ : Dx} {a b e : Expr} {fa fb fc : WE} {pos : Pos} {es : List Expr} {fr : WA}
/-! ### what is gone through -/
/-- turn i over xs: its value stands over F, or is a new tuple -/
def YD (F : Hp) (xs : List Px) : Nat → Hp → V → Hp → Prop := fun i H v H' => ∃ x, xs[i]? = some x ∧
  ((H' = H ∧ Rp F v x) ∨ ∃ T vs ds, v = .ref T ∧ H T = none ∧ H' = upd H T (.tup vs) ∧ x = .tuple ds ∧ RpA F vs ds)
abbrev WalkX (J : It) (xs : List Px) (F : Hp) : Prop := L2.Walk J xs.length (fun H => Le F H) (YD F xs)
def tI (Δ : Dx) (f : WI) : TI := fun σ H R => ∃ am F c P X, Ok Δ am F σ H c ∧ f c P X ∧
  (∀ xs c' F' H' J, P xs c' → Le F F' → Ok Δ am F' σ H' c' → WalkX J xs F' → R J H') ∧ KX Δ am F X
def asL (r : Rv) (k : List Px → Prop) : Prop := asD r fun x => match x with
  | .list xs => k xs
  | _ => False
def asT (r : Rv) (k : List Px → Prop) : Prop := asD r fun x => match x with
  | .tuple xs => k xs
  | _ => False
def iLst (f : WE) : WI := fun c P X => f c (fun r c1 => asL r fun xs => P xs c1) X
def iTpl (f : WE) : WI := fun c P X => f c (fun r c1 => asT r fun xs => P xs c1) X
theorem asL_of {am : Addr} {F : Hp} {σ : St} {H : Hp} {c : Cf} {r : Rv} {v : V} {q : List Px → Prop} (o : Ok Δ am F σ H c) (s : Rs Δ am F σ H c r v) (h : asL r q) :
    ∃ a vs xs F', v = .ref a ∧ q xs ∧ Le F F' ∧ Ok Δ am F' σ H c ∧ F' a = some (.lst vs) ∧ RpA F' vs xs := by
  obtain ⟨x, F', hx, l, o', rp⟩ := s.data o h
  split at hx
  · cases rp with
    | lst e r1 => exact ⟨_, _, _, F', rfl, hx, l, o', e, r1⟩
  · exact hx.elim
theorem asT_of {am : Addr} {F : Hp} {σ : St} {H : Hp} {c : Cf} {r : Rv} {v : V} {q : List Px → Prop} (o : Ok Δ am F σ H c) (s : Rs Δ am F σ H c r v) (h : asT r q) :
    ∃ a vs xs F', v = .ref a ∧ q xs ∧ Le F F' ∧ Ok Δ am F' σ H c ∧ TupF F' a vs ∧ RpA F' vs xs := by
  obtain ⟨x, F', hx, l, o', rp⟩ := s.data o h
  split at hx
  · cases rp with
    | tup e r1 => exact ⟨_, _, _, F', rfl, hx, l, o', e, r1⟩
  · exact hx.elim
theorem y_at {F : Hp} {vs : List V} {xs : List Px} (r : RpA F vs xs) : ∀ (i : Nat) (H : Hp) (v : V) (H' : Hp), YAt vs i H v H' → YD F xs i H v H' := fun i H v H' ⟨e1, e2⟩ => by
  obtain ⟨x, h1, h2⟩ := r.getV e2
  exact ⟨x, h1, .inl ⟨e1, h2⟩⟩
theorem walk_l {K : PySem.W.Frag} {F : Hp} {a : Addr} {vs : List V} {xs : List Px} (e : F a = some (.lst vs)) (r : RpA F vs xs) : WalkX (Itl K a) xs F := by
  have w : L2.Walk (Itl K a) vs.length (fun H => SqL K H a vs) (YAt vs) := walk_list
  rw [r.length] at w
  exact w.mono (fun H h => SqL.of (h _ _ e)) fun i H v H' _ _ y => y_at r i H v H' y
theorem walk_t {K : PySem.W.Frag} {F : Hp} {a : Addr} {vs : List V} {xs : List Px} (e : TupF F a vs) (r : RpA F vs xs) (hk : K = TabF.K := by first | rfl | assumption) : WalkX (Itt K a) xs F := by
  have w : L2.Walk (Itt K a) vs.length (fun H => SqT K H a vs) (YAt vs) := walk_tup
  rw [r.length] at w
  exact w.mono (fun H h => e.sq hk h) fun i H v H' _ _ y => y_at r i H v H' y
section
variable {tg : Expr}
theorem di_l (ha : PE X a (tE Δ fa)) : PI X tg a (tI Δ (iLst fa)) := by
  refine (pi_list ha).imp fun σ H R ⟨am, F, c, P, XX, ok, hf, kq, kx⟩ => ?_
  refine ⟨am, F, c, _, XX, ok, hf, fun r1 c1 F1 v1 H1 p1 l1 o1 s1 => ?_, kx⟩
  obtain ⟨b, vs, xs, F', e1, hx, l, o', e2, r⟩ := asL_of o1 s1 p1
  exact ⟨b, e1, ⟨vs, SqL.of (o'.fh _ _ e2)⟩, kq xs c1 F' H1 _ hx (l1.trans l) o' (walk_l e2 r)⟩
theorem di_t (ha : PE X a (tE Δ fa)) (hk : X.K = TabF.K := by first | rfl | assumption) : PI X tg a (tI Δ (iTpl fa)) := by
  refine (pi_tup ha).imp fun σ H R ⟨am, F, c, P, XX, ok, hf, kq, kx⟩ => ?_
  refine ⟨am, F, c, _, XX, ok, hf, fun r1 c1 F1 v1 H1 p1 l1 o1 s1 => ?_, kx⟩
  obtain ⟨b, vs, xs, F', e1, hx, l, o', e2, r⟩ := asT_of o1 s1 p1
  exact ⟨b, e1, ⟨vs, e2.sq hk o'.fh⟩, kq xs c1 F' H1 _ hx (l1.trans l) o' (walk_t e2 r)⟩
/-- lo, lo + 1, .. -/
def rngX (lo : Int) : Nat → List Px
  | 0 => []
  | n + 1 => .int lo :: rngX (lo + 1) n
theorem rngX_length : ∀ (lo : Int) (n : Nat), (rngX lo n).length = n
  | _, 0 => rfl
  | lo, n + 1 => congrArg (· + 1) (rngX_length (lo + 1) n)
theorem rngX_get : ∀ (n : Nat) (lo : Int) (i : Nat), i < n → (rngX lo n)[i]? = some (.int (lo + i))
  | n + 1, lo, 0, _ => by simp [rngX]
  | n + 1, lo, i + 1, h => by
    show (rngX (lo + 1) n)[i]? = _
    rw [rngX_get n (lo + 1) i (by omega)]
    rw [show lo + 1 + (i : Int) = lo + ((i + 1 : Nat) : Int) by omega]
theorem walk_r {F : Hp} (lo : Int) (n : Nat) : WalkX (Itr lo n) (rngX lo n) F := by
  have w : L2.Walk (Itr lo n) n (fun _ => True) (YFn fun i => .int (lo + i)) := walk_range
  have w' := w.mono (G' := fun H => Le F H) (Y' := YD F (rngX lo n)) (fun _ _ => True.intro) fun i H v H' hi _ ⟨y1, y2⟩ => ⟨.int (lo + i), rngX_get n lo i hi, .inl ⟨y1, by rw [y2]; exact .int _⟩⟩
  have e := rngX_length lo n
  unfold WalkX
  rw [e]
  exact w'
def smI (i : Int) : Prop := -(2 ^ 62) ≤ i ∧ i < 2 ^ 62
def iRg1 (f : WA) : WI := fun c P X => f c (fun rs c1 => match rs with
  | [.d (.int j)] => smI j ∧ P (rngX 0 j.toNat) c1
  | _ => False) X
def iRg2 (f : WA) : WI := fun c P X => f c (fun rs c1 => match rs with
  | [.d (.int i), .d (.int j)] => smI i ∧ smI j ∧ P (rngX i (j - i).toNat) c1
  | _ => False) X
theorem di_r1 {p : Pos} (hg : Gl X "range") (hm : X.mg "range" = none) (ha : PA X [a] (tA Δ fr)) (hs : starEach [a] X.env = [(false, eval a X.env)] := by rfl) : PI X tg (.Call (.Name "range" p) [a] [] pos) (tI Δ (iRg1 fr)) := by
  refine (pi_range1 hg hm ha hs).imp fun σ H R ⟨am, F, c, P, XX, ok, hf, kq, kx⟩ => ?_
  refine ⟨am, F, c, _, XX, ok, hf, fun rs c1 F1 vs H1 p1 l1 o1 s1 => ?_, kx⟩
  split at p1
  · cases s1 with
    | d r s =>
      cases s
      cases r
      exact ⟨_, rfl, p1.1.1, p1.1.2, kq _ c1 F1 H1 _ p1.2 l1 o1 (walk_r 0 _)⟩
  · exact p1.elim
theorem di_r2 {p : Pos} (hg : Gl X "range") (hm : X.mg "range" = none) (ha : PA X [a, b] (tA Δ fr)) (hs : starEach [a, b] X.env = [(false, eval a X.env), (false, eval b X.env)] := by rfl) (hs2 : starEach [b] X.env = [(false, eval b X.env)] := by rfl) :
    PI X tg (.Call (.Name "range" p) [a, b] [] pos) (tI Δ (iRg2 fr)) := by
  refine (pi_range2 hg hm ha hs hs2).imp fun σ H R ⟨am, F, c, P, XX, ok, hf, kq, kx⟩ => ?_
  refine ⟨am, F, c, _, XX, ok, hf, fun rs c1 F1 vs H1 p1 l1 o1 s1 => ?_, kx⟩
  split at p1
  · cases s1 with
    | d r s =>
      cases s with
      | d r' s =>
        cases s
        cases r
        cases r'
        exact ⟨_, _, rfl, ⟨p1.1.1, p1.1.2, p1.2.1.1, p1.2.1.2⟩, kq _ c1 F1 H1 _ p1.2.2 l1 o1 (walk_r _ _)⟩
  · exact p1.elim
def enumX (n : Int) : List Px → List Px
  | [] => []
  | x :: xs => .tuple [.int n, x] :: enumX (n + 1) xs
theorem enumX_length : ∀ (n : Int) (xs : List Px), (enumX n xs).length = xs.length
  | _, [] => rfl
  | n, x :: xs => congrArg (· + 1) (enumX_length (n + 1) xs)
theorem enumX_get : ∀ (xs : List Px) (n : Int) (i : Nat) (x : Px), xs[i]? = some x → (enumX n xs)[i]? = some (.tuple [.int (n + i), x])
  | [], _, _, _, h => by simp at h
  | y :: xs, n, 0, x, h => by simp at h; subst h; simp [enumX]
  | y :: xs, n, i + 1, x, h => by
    show (enumX (n + 1) xs)[i]? = _
    rw [enumX_get xs (n + 1) i x (by simpa using h)]
    rw [show n + 1 + (i : Int) = n + ((i + 1 : Nat) : Int) by omega]
def iEnm (f : WA) : WI := fun c P X => f c (fun rs c1 => match rs with
  | [.d (.list xs)] => P (enumX 0 xs) c1
  | _ => False) X
def zipX : List Px → List Px → List Px
  | x :: xs, y :: ys => .tuple [x, y] :: zipX xs ys
  | _, _ => []
def iZp (f : WA) : WI := fun c P X => f c (fun rs c1 => match rs with
  | [.d (.list xs), .d (.list ys)] => P (zipX xs ys) c1
  | _ => False) X
end
/-! ### targets -/
/-- the result at name i -/
def gN (i : Nat) : WG := fun r c P => i < c.env.length ∧ P { c with env := c.env.set i (some r) }
theorem Ok.put {am : Addr} {F : Hp} {σ : St} {H : Hp} {c : Cf} (k : Ok Δ am F σ H c) {r : Rv} {v : V} (s : Rs Δ am F σ H c r v) (i : Nat) :
    Ok Δ am F (σ.set i (some v)) H { c with env := c.env.set i (some r) } := by
  have hl : ((σ.set i (some v)).length) = (c.env.set i (some r)).length := by simpa using k.len
  refine ⟨k.fh, k.f0, k.fr, k.tb, k.pr, k.al, k.gn, hl, fun j q e => ?_, fun j l ys zs n p q my mz => ?_⟩
  · rw [env_get] at e
    split at e
    · rename_i z
      cases e
      refine ⟨v, ?_, s.1⟩
      rw [St.set_get, if_pos ⟨z.1, by rw [k.len]; exact z.2⟩]
    · rename_i z
      obtain ⟨w, h1, h2⟩ := k.sv j q e
      refine ⟨w, ?_, h2⟩
      rw [St.set_get, if_neg (fun y => z ⟨y.1, by rw [← k.len]; exact y.2⟩)]
      exact h1
  · rw [env_get] at p q
    rw [St.set_get, St.set_get]
    have lw : σ.length = c.env.length := k.len
    by_cases hj : j = i ∧ i < c.env.length
    · by_cases hq : l = i ∧ i < c.env.length
      · exact absurd (hj.1.trans hq.1.symm) n
      · rw [if_pos hj] at p
        rw [if_neg hq] at q
        rw [if_pos (by rw [lw]; exact hj), if_neg (by rw [lw]; exact hq)]
        cases p
        exact (s.2 my l zs q mz).symm
    · by_cases hq : l = i ∧ i < c.env.length
      · rw [if_neg hj] at p
        rw [if_pos hq] at q
        rw [if_neg (by rw [lw]; exact hj), if_pos (by rw [lw]; exact hq)]
        cases q
        exact s.2 mz j ys p my
      · rw [if_neg hj] at p
        rw [if_neg hq] at q
        rw [if_neg (by rw [lw]; exact hj), if_neg (by rw [lw]; exact hq)]
        exact k.di j l ys zs n p q my mz
theorem Tch.one (σ : St) (i : Nat) (o : Option V) : Tch [i] σ (σ.set i o) := ⟨List.length_set, fun j h => List.getElem?_set_ne (fun e => h (by rw [e]; exact List.mem_singleton.mpr rfl))⟩
theorem Tch.refl (σ : St) (ws : List Nat) : Tch ws σ σ := ⟨rfl, fun _ _ => rfl⟩
theorem Tch.app {ws us : List Nat} {σ σ' σ'' : St} (h : Tch ws σ σ') (k : Tch us σ' σ'') : Tch (ws ++ us) σ σ'' := ⟨k.1.trans h.1, fun i n => by
  simp only [List.mem_append, not_or] at n
  exact (k.2 i n.2).trans (h.2 i n.1)⟩
theorem dg_name (i : Nat) {x : Str} (hN : X.N.Nodup) (hi : X.N[i]? = some x := by rfl) (hx : Loc X.env.scope x := by first | exact Or.inl rfl | exact Or.inr rfl)
    (hf : X.fn x = true ∨ X.env.scope.names.lookup x = some .local := by first | exact .inl rfl | exact .inr rfl) : PG X (.Name x pos) (tG Δ [i] (gN i)) :=
  (pg_name hN hi hx hf).imp fun v σ H Q ⟨am, F, c, r, P, ok, s, h, kq⟩ => kq _ F _ H h.2 (Le.refl F) (ok.put s i) (.one σ i _)
abbrev WGs := List Px → Cf → (Cf → Prop) → Prop
def tGs (Δ : Dx) (ws : List Nat) (f : WGs) : TGs := fun vs σ H Q => ∃ am F c xs P, Ok Δ am F σ H c ∧ RpA F vs xs ∧ f xs c P ∧
  (∀ c' F' σ' H', P c' → Le F F' → Ok Δ am F' σ' H' c' → Tch ws σ σ' → Q σ' H')
theorem _root_.L2.PGs.imp {es : List Expr} {t t' : TGs} (h : PGs X es t) (w : ∀ v σ H Q, t' v σ H Q → t v σ H Q) : PGs X es t' :=
  ⟨fun pins s σ H v u Q I r q => h.run pins s σ H v u Q I r (w v σ H Q q)⟩
def gsNil : WGs := fun xs c P => match xs with
  | [] => P c
  | _ => False
def gsCons (g : WG) (gs : WGs) : WGs := fun xs c P => match xs with
  | x :: r => g (.d x) c fun c1 => gs r c1 P
  | _ => False
theorem dgs_nil : PGs X [] (tGs Δ [] gsNil) := pgs_nil.imp fun vs σ H Q ⟨am, F, c, xs, P, ok, r, h, kq⟩ => by
  unfold gsNil at h
  split at h
  · cases r
    exact ⟨rfl, kq c F σ H h (Le.refl F) ok (.refl σ [])⟩
  · exact h.elim
theorem dgs_cons {g : WG} {gs : WGs} {us vs : List Nat} (h1 : PG X e (tG Δ us g)) (h2 : PGs X es (tGs Δ vs gs)) (hs : (assignEach (e :: es) X.env).map (·.2) = assign e X.env :: (assignEach es X.env).map (·.2) := by rfl) : PGs X (e :: es) (tGs Δ (us ++ vs) (gsCons g gs)) :=
  (pgs_cons h1 h2 hs).imp fun vs σ H Q ⟨am, F, c, xs, P, ok, r, h, kq⟩ => by
    unfold gsCons at h
    split at h
    · cases r with
      | cons r1 r2 =>
        refine ⟨_, _, rfl, am, F, c, _, _, ok, .of r1, h, fun c1 F1 σ1 H1 p1 l1 o1 t1 => ?_⟩
        exact ⟨am, F1, c1, _, _, o1, r2.mono l1, p1, fun c2 F2 σ2 H2 p2 l2 o2 t2 => kq c2 F2 σ2 H2 p2 (l1.trans l2) o2 (t1.app t2)⟩
    · exact h.elim
/-- (a, b, ..) = a tuple of that length -/
def gT (n : Nat) (gs : WGs) : WG := fun r c P => match r with
  | .d (.tuple xs) => xs.length = n ∧ gs xs c P
  | _ => False
theorem dg_tup {k : Nat} {gs : WGs} {n : Nat} {us : List Nat} (hc : X.calm = true) (h : PGs X es (tGs Δ us gs)) (hn : (assignEach es X.env).length = n := by rfl) (hst : (assignEach es X.env).findIdx? (·.1) = none := by rfl) (hk : X.K = TabF.K := by first | rfl | assumption) : PG X (.Tuple es k pos) (tG Δ us (gT n gs)) :=
  (pg_tup hc h hn hst).imp fun v σ H Q ⟨am, F, c, r, P, ok, s, h, kq⟩ => by
    unfold gT at h
    split at h
    · have h1 := s.1
      cases h1 with
      | tup e r1 => exact ⟨_, _, rfl, e.sq hk ok.fh, by rw [r1.length]; exact h.1, am, F, c, _, P, ok, r1, h.2, kq⟩
    · exact h.elim
end
end Dl
set_option Elab.async false
set_option maxRecDepth 100000
set_option linter.all false
set_option autoImplicit false
namespace Dl
open PySem L2
variable [TabF]
section
variable {X : Cx} {Δ : Dx} {a b e : Expr} {fa fb fc : WE} {pos : Pos} {es : List Expr} {fr : WA} {st : Stmt} {rest sa sb : List Stmt} {ws wt : WS}
/-! ### blocks and small statements -/
def sNil : WS := fun c P _ => P (.nx c)
def sSeq (f g : WS) : WS := fun c P X => f c (fun fl => match fl with
  | .nx c1 => g c1 P X
  | o => P o) X
theorem dss_nil : PSs X [] (tS Δ sNil) := pss_nil.imp fun D σ H ⟨am, F, c, P, XX, ok, hf, kf, kx⟩ => kf.1 c am F σ H hf (Le.refl F) ok
theorem KF.le {am : Addr} {F G : Hp} {P : Fl → Prop} {D : Ends} (k : KF Δ am F P D) (l : Le F G) (am' : Addr) : KF Δ am' G P D :=
  ⟨fun c am' F' σ' H' p l' o => k.1 c am' F' σ' H' p (l.trans l') o, fun c am' F' σ' H' p l' o => k.2.1 c am' F' σ' H' p (l.trans l') o,
    fun c am' F' σ' H' p l' o => k.2.2.1 c am' F' σ' H' p (l.trans l') o, fun r g am' F' H' v p l' o s => k.2.2.2 r g am' F' H' v p (l.trans l') o s⟩
theorem dss_cons (h1 : PS X st (tS Δ ws)) (h2 : PSs X rest (tS Δ wt)) : PSs X (st :: rest) (tS Δ (sSeq ws wt)) := by
  refine (pss_cons h1 h2).imp fun D σ H ⟨am, F, c, P, XX, ok, hf, kf, kx⟩ => ?_
  refine ⟨am, F, c, _, XX, ok, hf, ⟨fun c1 am1 F1 σ1 H1 p1 l1 o1 => ?_, fun c1 am1 F1 σ1 H1 p1 l1 o1 => kf.2.1 c1 am1 F1 σ1 H1 p1 l1 o1, fun c1 am1 F1 σ1 H1 p1 l1 o1 => kf.2.2.1 c1 am1 F1 σ1 H1 p1 l1 o1,
    fun r g am1 F1 H1 v p1 l1 o1 s1 => kf.2.2.2 r g am1 F1 H1 v p1 l1 o1 s1⟩, kx⟩
  exact ⟨am1, F1, c1, P, XX, o1, p1, kf.le l1 am1, kx.le l1⟩
theorem dss_one (h1 : PS X st (tS Δ ws)) : PSs X [st] (tS Δ ws) := pss_one h1
def sBrk : WS := fun c P _ => P (.bk c)
def sCnt : WS := fun c P _ => P (.ct c)
theorem ds_break : PS X (.Break pos) (tS Δ sBrk) := ps_break.imp fun D σ H ⟨am, F, c, P, XX, ok, hf, kf, kx⟩ => kf.2.1 c am F σ H hf (Le.refl F) ok
theorem ds_continue : PS X (.Continue pos) (tS Δ sCnt) := ps_continue.imp fun D σ H ⟨am, F, c, P, XX, ok, hf, kf, kx⟩ => kf.2.2.1 c am F σ H hf (Le.refl F) ok
def sNo : WS := fun _ _ _ => False
def sExp (fa : WE) : WS := fun c P X => fa c (fun _ c1 => P (.nx c1)) X
theorem ds_expr (ha : PE X a (tE Δ fa)) (hs : swapsWith a none pos.line X.env = pure false := by rfl) : PS X (.Expr a pos) (tS Δ (sExp fa)) := by
  refine (ps_expr ha hs).imp fun D σ H ⟨am, F, c, P, XX, ok, hf, kf, kx⟩ => ?_
  exact ⟨am, F, c, _, XX, ok, hf, fun r c1 F1 v1 H1 p1 l1 o1 s1 => kf.1 c1 am F1 σ H1 p1 l1 o1, kx am⟩
def sRet (fa : WE) : WS := fun c P X => fa c (fun r c1 => P (.rt r c1.g)) X
theorem ds_ret (ha : PE X a (tE Δ fa)) : PS X (.Return (some a) pos) (tS Δ (sRet fa)) := by
  refine (ps_ret ha).imp fun D σ H ⟨am, F, c, P, XX, ok, hf, kf, kx⟩ => ?_
  exact ⟨am, F, c, _, XX, ok, hf, fun r c1 F1 v1 H1 p1 l1 o1 s1 => kf.2.2.2 r c1.g am F1 H1 v1 p1 l1 o1.fin s1.1, kx am⟩
def sIf (t : WT) (f g : WS) : WS := fun c P X => t c (fun b c1 => if b = true then f c1 P X else g c1 P X) X
theorem ds_if {cnd : Expr} {fA : WT} (hc : PT X cnd (tT Δ fA)) (ha : PSs X sa (tS Δ ws)) (hb : PSs X sb (tS Δ wt)) : PS X (.If cnd sa sb pos) (tS Δ (sIf fA ws wt)) := by
  refine (ps_if hc ha hb).imp fun D σ H ⟨am, F, c, P, XX, ok, hf, kf, kx⟩ => ?_
  refine ⟨am, F, c, _, XX, ok, hf, fun k c1 F1 H1 p1 l1 o1 => ?_, kx am⟩
  cases k with
  | true =>
    rw [if_pos rfl]
    rw [if_pos rfl] at p1
    exact ⟨am, F1, c1, P, XX, o1, p1, kf.le l1 am, kx.le l1⟩
  | false =>
    rw [if_neg Bool.false_ne_true]
    rw [if_neg Bool.false_ne_true] at p1
    exact ⟨am, F1, c1, P, XX, o1, p1, kf.le l1 am, kx.le l1⟩
/-- target = value -/
def sAsg (fa : WE) (g : WG) : WS := fun c P X => fa c (fun r c1 => g r c1 fun c2 => P (.nx c2)) X
theorem asg_of {te : TE} {tg : TG} {g : WG} {us : List Nat} (h1 : ∀ σ H Q, tE Δ fa σ H Q → te σ H Q) (h2 : ∀ v σ H Q, tG Δ us g v σ H Q → tg v σ H Q) (D : Ends) (σ : St) (H : Hp) (h : tS Δ (sAsg fa g) D σ H) : tAsg te tg D σ H := by
  obtain ⟨am, F, c, P, XX, ok, hf, kf, kx⟩ := h
  exact h1 σ H _ ⟨am, F, c, _, XX, ok, hf, fun r c1 F1 v1 H1 p1 l1 o1 s1 => h2 v1 σ H1 _ ⟨am, F1, c1, r, _, o1, s1, p1, fun c2 F2 σ2 H2 p2 l2 o2 _ => kf.1 c2 am F2 σ2 H2 p2 (l1.trans l2) o2⟩, kx am⟩
theorem ds_set (i : Nat) {x : Str} {pos' : Pos} (hN : X.N.Nodup) (ha : PE X a (tE Δ fa)) (hi : X.N[i]? = some x := by rfl) (hx : Loc X.env.scope x := by first | exact Or.inl rfl | exact Or.inr rfl)
    (hs : swapsWith a (some (.Name x pos')) pos.line X.env = pure false := by rfl) (hf : X.fn x = true ∨ X.env.scope.names.lookup x = some .local := by first | exact .inl rfl | exact .inr rfl) : PS X (.Assign [.Name x pos'] a pos) (tS Δ (sAsg fa (gN i))) :=
  (ps_set hN hi hx ha hs hf).imp fun D σ H h => asg_of (us := [i]) (fun _ _ _ h => h) (fun v σ H Q ⟨am, F, c, r, P, ok, s, h, kq⟩ => kq _ F _ H h.2 (Le.refl F) (ok.put s i) (.one σ i _)) D σ H h
theorem ds_asg {tg : Expr} {g : WG} {us : List Nat} (ha : PE X a (tE Δ fa)) (hg : PG X tg (tG Δ us g)) (hs : swapsWithSole [tg] a pos.line X.env = pure false := by rfl) (hw : swappedStores [tg] a X.env = pure none := by rfl)
    (h1 : (assignEach [tg] X.env).map (·.2) = [assign tg X.env] := by rfl) : PS X (.Assign [tg] a pos) (tS Δ (sAsg fa g)) :=
  (ps_asg ha hg hs hw h1).imp fun D σ H h => asg_of (fun _ _ _ h => h) (fun _ _ _ _ h => h) D σ H h
/-! ### an own list without a name, kept while something else runs -/
def Dx.hold (Δ : Dx) (a : Addr) (o : HO) : Dx := { Δ with H0 := upd Δ.H0 a o }
section
variable {am : Addr} {F : Hp} {σ : St} {H : Hp} {c : Cf} {p : Addr} {o : HO}
theorem unh0 {b : Addr} (h : (Δ.hold p o).H0 b = none) : Δ.H0 b = none ∧ b ≠ p := by
  have h : upd Δ.H0 p o b = none := h
  by_cases q : b = p
  · subst q
    rw [upd_same] at h
    cases h
  · rw [upd_ne q] at h
    exact ⟨h, q⟩
theorem Ok.holdO (k : Ok Δ am F σ H c) (h : H p = some o) (nt : ∀ ps, o ≠ .tbl ps) (hg : ∀ n, c.g = some n → am ≠ p) (hf : F p = none) (h0 : Δ.H0 p = none) (no : ∀ (i : Nat) (r : Rv), c.env[i]? = some (some r) → r.mu → σ[i]? ≠ some (some (.ref p))) :
    Ok (Δ.hold p o) am F σ H c where
  fh := k.fh
  f0 := k.f0
  fr := fun b e => by
    by_cases q : b = p
    · subst q
      exact absurd hf e
    · exact (k.fr b e).elim .inl fun z => .inr (by show upd Δ.H0 p _ b = none; rw [upd_ne q]; exact z)
  tb := ⟨k.tb.1, k.tb.2.1, k.tb.2.2.upd nt⟩
  pr := fun b o' e n => by
    have e : upd Δ.H0 p o b = some o' := e
    by_cases q : b = p
    · subst q
      rw [upd_same] at e
      cases e
      exact h
    · rw [upd_ne q] at e
      exact k.pr b o' e n
  al := fun b e => ⟨(k.al b e).1, fun z => (k.al b e).2 (unh0 z).1⟩
  gn := fun n e => by
    obtain ⟨h1, h2, h3⟩ := k.gn n e
    refine ⟨h1.elim .inl fun z => .inr ⟨z.1, ?_⟩, h2, h3⟩
    show upd Δ.H0 p _ am = none
    rw [upd_ne (hg n e)]
    exact z.2
  len := k.len
  sv := fun i r e => by
    obtain ⟨v, h1, h2⟩ := k.sv i r e
    refine ⟨v, h1, ?_⟩
    cases r with
    | d x => exact h2
    | gen => exact h2
    | scr ns => exact h2
    | own xs =>
      obtain ⟨a, ws, e1, e2, e3, e4, e5⟩ := h2
      subst e1
      refine ⟨a, ws, rfl, e2, e3, ?_, e5⟩
      show upd Δ.H0 p _ a = none
      rw [upd_ne (show a ≠ p from fun z => no i _ e True.intro (by rw [h1, z]))]
      exact e4
    | dic D =>
      obtain ⟨a, ws, e1, e2, e3, e4, e5⟩ := h2
      subst e1
      refine ⟨a, ws, rfl, e2, e3, ?_, e5⟩
      show upd Δ.H0 p _ a = none
      rw [upd_ne (show a ≠ p from fun z => no i _ e True.intro (by rw [h1, z]))]
      exact e4
  di := k.di
theorem Fin.unhold {g : Option Nat} (k : Fin (Δ.hold p o) am F H g) (h0 : Δ.H0 p = none) (hna : Δ.a0 ≠ some p) : Fin Δ am F H g :=
  ⟨k.fh, k.f0, fun b e => (k.fr b e).elim .inl fun z => .inr (unh0 z).1, ⟨k.tb.1, k.tb.2.1, fun b ps z => k.tb.2.2 b ps (by show upd Δ.H0 p _ b = some _; rw [upd_ne (ne_of_none z h0)]; exact z)⟩, fun b o' e n => k.pr b o' (by show upd Δ.H0 p _ b = some o'; rw [upd_ne (ne_of_none e h0)]; exact e) n, fun b e => ⟨(k.al b e).1, fun z => (k.al b e).2 (by show upd Δ.H0 p _ b = none; rw [upd_ne (show b ≠ p from fun q => hna (by rw [← q]; exact e))]; exact z)⟩,
    fun n e => ⟨(k.gn n e).1.elim .inl fun z => .inr ⟨z.1, (unh0 z.2).1⟩, (k.gn n e).2⟩⟩
theorem Ok.unhold (k : Ok (Δ.hold p o) am F σ H c) (h0 : Δ.H0 p = none) (f0 : Δ.F0 p = none) (na : Δ.a0 ≠ some p) :
    Ok Δ am F σ H c ∧ H p = some o ∧ F p = none ∧ ∀ (i : Nat) (r : Rv), c.env[i]? = some (some r) → r.mu → σ[i]? ≠ some (some (.ref p)) := by
  have fn := k.fin.unhold h0 na
  refine ⟨⟨fn.fh, fn.f0, fn.fr, fn.tb, fn.pr, fn.al, fn.gn, k.len, fun i r e => ?_, k.di⟩, k.pr p _ upd_same na, ?_, fun i r e mu z => ?_⟩
  · obtain ⟨v, h1, h2⟩ := k.sv i r e
    refine ⟨v, h1, ?_⟩
    cases r with
    | d x => exact h2
    | gen => exact h2
    | scr ns => exact h2
    | own xs =>
      obtain ⟨a, ws, e1, e2, e3, e4, e5⟩ := h2
      exact ⟨a, ws, e1, e2, e3, (unh0 e4).1, e5⟩
    | dic D =>
      obtain ⟨a, ws, e1, e2, e3, e4, e5⟩ := h2
      exact ⟨a, ws, e1, e2, e3, (unh0 e4).1, e5⟩
  · cases q : F p with
    | none => rfl
    | some u =>
      rcases k.fr p (by rw [q]; exact fun z => nomatch z) with z | z
      · exact absurd f0 z
      · exact absurd rfl (unh0 z).2
  · obtain ⟨v, h1, s1⟩ := k.sv i _ e
    obtain ⟨a, ws, e1, _, _, e4⟩ := s1.at mu
    subst e1
    rw [z] at h1
    cases h1
    exact (unh0 e4).2 rfl
theorem Ok.hold {vs : List V} (k : Ok Δ am F σ H c) (h : H p = some (.lst vs)) (hf : F p = none) (h0 : Δ.H0 p = none) (no : ∀ (i : Nat) (r : Rv), c.env[i]? = some (some r) → r.mu → σ[i]? ≠ some (some (.ref p))) : Ok (Δ.hold p (.lst vs)) am F σ H c :=
  k.holdO h lst_ok.1 (fun n e => ((k.gn n e).2.2.ne h).symm) hf h0 no
end
theorem _root_.Dl.Sl.unhold {Δ : Dx} {p : Addr} {o : HO} {am : Addr} {F H : Hp} {r : Rv} {v : V} (s : Sl (Δ.hold p o) am F H r v) : Sl Δ am F H r v := by
  cases r with
  | d x => exact s
  | gen => exact s
  | scr ns => exact s
  | own ys =>
    obtain ⟨a, ws, q1, q2, q3, q4, q5⟩ := s
    exact ⟨a, ws, q1, q2, q3, (unh0 q4).1, q5⟩
  | dic D =>
    obtain ⟨a, ws, q1, q2, q3, q4, q5⟩ := s
    exact ⟨a, ws, q1, q2, q3, (unh0 q4).1, q5⟩
/-- a result is kept while another expression runs -/
theorem keep_of {am : Addr} {F : Hp} {σ : St} {H : Hp} {c : Cf} {r : Rv} {v : V} {XX : XP} {P : Rv → Cf → Prop} {R : V → Hp → Prop} {tb : TE} (ok : Ok Δ am F σ H c) (s : Rs Δ am F σ H c r v)
    (hb : ∀ Δ' : Dx, Δ'.K = Δ.K → ∀ σ H Q, tE Δ' fb σ H Q → tb σ H Q) (hf : fb c P XX) (kx : KX Δ am F XX)
    (q : ∀ r2 c2 F' w H', P r2 c2 → Le F F' → Ok Δ am F' σ H' c2 → Rs Δ am F' σ H' c2 r2 w → Rs Δ am F' σ H' c2 r v → (r.mu → r2.mu → v ≠ w) → R w H') : tb σ H R := by
  cases r with
  | d x => exact hb Δ rfl σ H R ⟨am, F, c, P, XX, ok, hf, fun r2 c2 F' w H' p l o s2 => q r2 c2 F' w H' p l o s2 (.of (Rp.mono l s.1)) fun z => z.elim, kx⟩
  | gen => exact hb Δ rfl σ H R ⟨am, F, c, P, XX, ok, hf, fun r2 c2 F' w H' p l o s2 => q r2 c2 F' w H' p l o s2 ⟨s.1, fun z => z.elim⟩ fun z => z.elim, kx⟩
  | scr ns =>
    obtain ⟨a, e, hq⟩ := s.1
    exact hb Δ rfl σ H R ⟨am, F, c, P, XX, ok, hf, fun r2 c2 F' w H' p l o s2 => q r2 c2 F' w H' p l o s2 ⟨⟨a, e, sq_le l hq⟩, fun z => z.elim⟩ fun z => z.elim, kx⟩
  | own xs =>
    obtain ⟨⟨p, vs, e1, e2, e3, e4, e5⟩, e6⟩ := s
    subst e1
    have na : Δ.a0 ≠ some p := fun z => (ok.al p z).2 e4
    have o' := ok.hold e2 e3 e4 fun i ys e mu z => e6 True.intro i ys e mu z
    refine hb (Δ.hold p (.lst vs)) rfl σ H R ⟨am, F, c, P, XX, o', hf, fun r2 c2 F' w H' pp l o2 s2 => ?_, fun x g F' H' h l fn => kx x g F' H' h l (fn.unhold e4 na)⟩
    obtain ⟨o3, h1, h2, h3⟩ := o2.unhold e4 (ok.f0.nn e3) na
    refine q r2 c2 F' w H' pp l o3 ⟨s2.1.unhold, s2.2⟩ ⟨⟨p, vs, rfl, h1, h2, e4, e5.mono l⟩, fun _ i zs e mu z => h3 i zs e mu z⟩ fun _ hy => ?_
    obtain ⟨a, ws, q1, q2, q3, q4⟩ := s2.1.at hy
    subst q1
    intro z
    cases z
    exact (unh0 q4).2 rfl
  | dic D =>
    obtain ⟨⟨p, ob, e1, e2, e3, e4, e5⟩, e6⟩ := s
    subst e1
    have na : Δ.a0 ≠ some p := fun z => (ok.al p z).2 e4
    have o' := ok.holdO e2 e5.ntbl (fun n e => ((ok.gn n e).2.2.neD e2 e5).symm) e3 e4 fun i ys e mu z => e6 True.intro i ys e mu z
    refine hb (Δ.hold p ob) rfl σ H R ⟨am, F, c, P, XX, o', hf, fun r2 c2 F' w H' pp l o2 s2 => ?_, fun x g F' H' h l fn => kx x g F' H' h l (fn.unhold e4 na)⟩
    obtain ⟨o3, h1, h2, h3⟩ := o2.unhold e4 (ok.f0.nn e3) na
    refine q r2 c2 F' w H' pp l o3 ⟨s2.1.unhold, s2.2⟩ ⟨⟨p, ob, rfl, h1, h2, e4, e5.mono l⟩, fun _ i zs e mu z => h3 i zs e mu z⟩ fun _ hy => ?_
    obtain ⟨a, ws, q1, q2, q3, q4⟩ := s2.1.at hy
    subst q1
    intro z
    cases z
    exact (unh0 q4).2 rfl
end
end Dl
set_option Elab.async false
set_option maxRecDepth 100000
set_option linter.all false
set_option autoImplicit false
namespace Dl
open PySem L2
variable [TabF]
section
variable {X : Cx} {Δ : Dx} {a b e : Expr} {fa fb fc : WE} {pos : Pos} {es : List Expr} {fr : WA} {st : Stmt} {rest sa sb : List Stmt} {ws wt : WS}
/-! ### a, b = x, y and a, b, c = x, y, z: no tuple is kept -/
def putE (c : Cf) (i : Nat) (r : Rv) : Cf := { c with env := c.env.set i (some r) }
def sPar2 (i j : Nat) (fa fb : WE) : WS := fun c P X => fa c (fun r1 c1 => fb c1 (fun r2 c2 => P (.nx (putE (putE c2 i r1) j r2))) X) X
def sPar3 (i j l : Nat) (fa fb fc : WE) : WS := fun c P X => fa c (fun r1 c1 => argR r1 fun x1 => fb c1 (fun r2 c2 => fc c2 (fun r3 c3 => P (.nx (putE (putE (putE c3 l r3) j r2) i x1))) X) X) X
/-- one result is stored, another one is still at hand -/
theorem Rs.put {am : Addr} {F : Hp} {σ : St} {H : Hp} {c : Cf} {r r' : Rv} {v v' : V} (s : Rs Δ am F σ H c r v) (hl : σ.length = c.env.length) (ne : r.mu → r'.mu → v ≠ v') (i : Nat) :
    Rs Δ am F (σ.set i (some v')) H (putE c i r') r v := by
  refine ⟨s.1, fun m1 j ys h m2 z => ?_⟩
  have h : (c.env.set i (some r'))[j]? = some (some ys) := h
  rw [env_get] at h
  rw [St.set_get, hl] at z
  split at h
  · rename_i q
    rw [if_pos q] at z
    cases z
    cases h
    exact ne m1 m2 rfl
  · rename_i q
    rw [if_neg q] at z
    exact s.2 m1 j ys h m2 z
theorem ds_par2 (i j : Nat) {x y : Str} {px py pt : Pos} {kt k2 : Nat} {pt2 : Pos} (hc : X.calm = true) (hN : X.N.Nodup) (ha : PE X a (tE Δ fa)) (hb : ∀ Δ' : Dx, Δ'.K = Δ.K → PE X b (tE Δ' fb))
    (hw : swappedStores [.Tuple [.Name x px, .Name y py] kt pt] (.Tuple [a, b] k2 pt2) X.env = pure (some [x, y])) (hi : X.N[i]? = some x := by rfl) (hj : X.N[j]? = some y := by rfl) (hij : i ≠ j := by decide)
    (hx : X.env.scope.names.lookup x = some .local := by rfl) (hy : X.env.scope.names.lookup y = some .local := by rfl) (hs1 : starEach (a :: [b]) X.env = (false, eval a X.env) :: starEach [b] X.env := by rfl) (hs2 : starEach (b :: []) X.env = (false, eval b X.env) :: starEach [] X.env := by rfl)
    (hs : swapsWithSole [.Tuple [.Name x px, .Name y py] kt pt] (.Tuple [a, b] k2 pt2) pos.line X.env = pure false := by rfl) :
    PS X (.Assign [.Tuple [.Name x px, .Name y py] kt pt] (.Tuple [a, b] k2 pt2) pos) (tS Δ (sPar2 i j fa fb)) := by
  -- b's reading, for whatever is kept
  let tb : TE := fun σ H Q => ∃ Δ' : Dx, Δ'.K = Δ.K ∧ tE Δ' fb σ H Q
  have hb' : PE X b tb := ⟨fun pins s σ H Q I ⟨Δ', e, h⟩ => (hb Δ' e).run pins s σ H Q I h⟩
  refine (ps_par hc hN hi hj hij hx hy (pa_cons ha (pa_cons hb' pa_nil hs2) hs1) hw hs).imp fun D σ H ⟨am, F, c, P, XX, ok, hf, kf, kx⟩ => ?_
  refine ⟨am, F, c, _, XX, ok, hf, fun r1 c1 F1 v1 H1 p1 l1 o1 s1 => ?_, kx am⟩
  refine keep_of (Δ := Δ) o1 s1 (fun Δ' e σ H Q h => ⟨Δ', e, h⟩) p1 ((kx am).le l1) fun r2 c2 F2 v2 H2 p2 l2 o2 s2 s1' ne => ?_
  refine ⟨v1, v2, rfl, kf.1 _ am F2 _ H2 p2 (l1.trans l2) ?_⟩
  have o3 := o2.put s1' i
  exact o3.put (s2.put o2.len (fun z1 z2 e => ne z2 z1 e.symm) i) j
/-! ### comprehensions -/
def wipeE (env : List (Option Rv)) : List Nat → List (Option Rv)
  | [] => env
  | v :: vs => (wipeE env vs).set v none
/-- the items of xs, one after another: each at the target, then the test, then the element -/
def lcW (g : WG) (t : WT) (f : WE) (vs : List Nat) (env : List (Option Rv)) (X : XP) (P : Rv → Cf → Prop) : List Px → List Px → Option Nat → Prop
  | [], acc, gs => P (.own acc) ⟨env, gs⟩
  | x :: xs, acc, gs => g (.d x) ⟨wipeE env vs, gs⟩ fun c1 => wipeE c1.env vs = wipeE env vs ∧ t c1 (fun b c2 => c2.env = c1.env ∧ if b = true then f c2 (fun r c3 => c3.env = c1.env ∧ asD r fun y => acc.length < 1000000 ∧ lcW g t f vs env X P xs (acc ++ [y]) c3.g) X
      else lcW g t f vs env X P xs acc c2.g) X
def nown (env : List (Option Rv)) (vs : List Nat) : Prop := ∀ j ∈ vs, ∀ r : Rv, env[j]? = some (some r) → ¬ r.mu
def eLc (it : WI) (g : WG) (t : WT) (f : WE) (vs : List Nat) : WE := fun c P X => it c (fun xs c1 => nown c1.env vs ∧ lcW g t f vs c1.env X P xs [] c1.g) X
theorem wipeE_length (env : List (Option Rv)) : ∀ vs : List Nat, (wipeE env vs).length = env.length
  | [] => rfl
  | v :: vs => by unfold wipeE; rw [List.length_set, wipeE_length env vs]
theorem wipeE_some {env : List (Option Rv)} {i : Nat} {r : Rv} : ∀ {vs : List Nat}, (wipeE env vs)[i]? = some (some r) → env[i]? = some (some r) ∧ i ∉ vs
  | [], h => ⟨h, by simp⟩
  | v :: vs, h => by
    unfold wipeE at h
    rw [env_get] at h
    split at h
    · cases h
    · rename_i z
      obtain ⟨h1, h2⟩ := wipeE_some h
      refine ⟨h1, ?_⟩
      have hl : v = i → False := fun e => z ⟨e.symm, by rw [e]; exact (List.getElem?_eq_some_iff.mp h).1⟩
      simp only [List.mem_cons, not_or]
      exact ⟨fun e => hl e.symm, h2⟩
theorem wipe_keep {σ : St} {i : Nat} : ∀ {vs : List Nat}, i ∉ vs → (wipe σ vs)[i]? = σ[i]?
  | [], _ => rfl
  | v :: vs, h => by
    unfold wipe
    simp only [List.mem_cons, not_or] at h
    rw [List.getElem?_set_ne (Ne.symm h.1), wipe_keep h.2]
theorem Ok.wiped {am : Addr} {F : Hp} {σ : St} {H : Hp} {c : Cf} (k : Ok Δ am F σ H c) (vs : List Nat) : Ok Δ am F (wipe σ vs) H { c with env := wipeE c.env vs } := by
  refine ⟨k.fh, k.f0, k.fr, k.tb, k.pr, k.al, k.gn, by rw [wipe_length, k.len]; exact (wipeE_length _ _).symm, fun i r e => ?_, fun i j xs ys n p q m1 m2 => ?_⟩
  · obtain ⟨h1, h2⟩ := wipeE_some e
    obtain ⟨v, h3, h4⟩ := k.sv i r h1
    exact ⟨v, by rw [wipe_keep h2]; exact h3, h4⟩
  · obtain ⟨h1, h2⟩ := wipeE_some p
    obtain ⟨h3, h4⟩ := wipeE_some q
    rw [wipe_keep h2, wipe_keep h4]
    exact k.di i j xs ys n h1 h3 m1 m2
theorem wipe_set {σ : St} {i : Nat} : ∀ {vs : List Nat}, i ∈ vs → i < σ.length → (wipe σ vs)[i]? = some none
  | v :: vs, h, hl => by
    unfold wipe
    rw [St.set_get, wipe_length]
    by_cases e : i = v
    · rw [if_pos ⟨e, by rw [← e]; exact hl⟩]
    · rw [if_neg (fun z => e z.1)]
      exact wipe_set ((List.mem_cons.mp h).resolve_left e) hl
theorem wipe_idem (σ : St) (vs : List Nat) : wipe (wipe σ vs) vs = wipe σ vs := by
  apply List.ext_getElem?
  intro i
  by_cases q : i ∈ vs
  · by_cases hl : i < σ.length
    · rw [wipe_set q hl, wipe_set q (by rw [wipe_length]; exact hl)]
    · rw [List.getElem?_eq_none (by rw [wipe_length, wipe_length]; omega), List.getElem?_eq_none (by rw [wipe_length]; omega)]
  · rw [wipe_keep q]
theorem wipe_tch {σ σ' : St} {ws vs : List Nat} (h : Tch ws σ σ') (s : ∀ i ∈ ws, i ∈ vs) : wipe σ' vs = wipe σ vs := by
  apply List.ext_getElem?
  intro i
  by_cases q : i ∈ vs
  · by_cases hl : i < σ.length
    · rw [wipe_set q hl, wipe_set q (by rw [h.1]; exact hl)]
    · rw [List.getElem?_eq_none (by rw [wipe_length, h.1]; omega), List.getElem?_eq_none (by rw [wipe_length]; omega)]
  · rw [wipe_keep q, wipe_keep q]
    exact h.2 i fun z => q (s i z)
theorem wipeE_keep {env : List (Option Rv)} {i : Nat} : ∀ {vs : List Nat}, i ∉ vs → (wipeE env vs)[i]? = env[i]?
  | [], _ => rfl
  | v :: vs, h => by
    unfold wipeE
    simp only [List.mem_cons, not_or] at h
    rw [List.getElem?_set_ne (Ne.symm h.1), wipeE_keep h.2]
/-- behind a turn of a comprehension: the def's own slots again -/
theorem Ok.unwipe {am : Addr} {F F' : Hp} {σ σ2 : St} {H H' : Hp} {env env2 : List (Option Rv)} {g g2 : Option Nat} {ws vs : List Nat} (k : Ok Δ am F σ H ⟨env, g⟩) (k2 : Ok Δ am F' σ2 H' ⟨env2, g2⟩) (l : Le F F')
    (t : Tch ws (L2.wipe σ vs) σ2) (s : ∀ i ∈ ws, i ∈ vs) (e : wipeE env2 vs = wipeE env vs) (n : nown env vs) : Ok Δ am F' σ H' ⟨env, g2⟩ := by
  have hs : ∀ i, i ∉ vs → σ2[i]? = σ[i]? := fun i h => (t.2 i fun z => h (s i z)).trans (wipe_keep h)
  have he : ∀ i, i ∉ vs → env2[i]? = env[i]? := fun i h => by rw [← wipeE_keep (env := env2) h, e, wipeE_keep h]
  refine ⟨k2.fh, k2.f0, k2.fr, k2.tb, k2.pr, k2.al, k2.gn, k.len, fun i r q => ?_, fun i j xs ys ne q1 q2 m1 m2 => ?_⟩
  · by_cases hv : i ∈ vs
    · obtain ⟨v, h1, h2⟩ := k.sv i r q
      refine ⟨v, h1, ?_⟩
      cases r with
      | d x => exact Rp.mono l h2
      | gen => exact h2
      | scr ns =>
        obtain ⟨a, e1, e2⟩ := h2
        exact ⟨a, e1, sq_le l e2⟩
      | own xs => exact absurd True.intro (n i hv _ q)
      | dic D => exact absurd True.intro (n i hv _ q)
    · obtain ⟨v, h1, h2⟩ := k2.sv i r ((he i hv).trans q)
      exact ⟨v, (hs i hv).symm.trans h1, h2⟩
  · have h1 : i ∉ vs := fun z => n i z _ q1 m1
    have h2 : j ∉ vs := fun z => n j z _ q2 m2
    have := k2.di i j xs ys ne ((he i h1).trans q1) ((he j h2).trans q2) m1 m2
    rw [hs i h1, hs j h2] at this
    exact this
/-- an own list without a name, changed -/
theorem Ok.chg {am : Addr} {F : Hp} {σ : St} {H : Hp} {c : Cf} {p : Addr} {vs ws : List V} (k : Ok Δ am F σ H c) (h : H p = some (.lst vs)) (hf : F p = none) (h0 : Δ.H0 p = none) (no : ∀ (i : Nat) (r : Rv), c.env[i]? = some (some r) → r.mu → σ[i]? ≠ some (some (.ref p))) :
    Ok Δ am F σ (upd H p (.lst ws)) c where
  fh := fun b o e => by rw [upd_ne (fun q => by rw [q, hf] at e; cases e)]; exact k.fh b o e
  f0 := k.f0
  fr := k.fr
  tb := k.tb.lst h
  pr := fun b o e n => by rw [upd_ne (ne_of_none e h0)]; exact k.pr b o e n
  al := fun b e => ⟨(k.al b e).1.upd lst_ok.1, (k.al b e).2⟩
  gn := fun n e => by
    obtain ⟨h1, h2, h3⟩ := k.gn n e
    have ne := (h3.ne h).symm
    obtain ⟨l, s, sp, ac, ns, h4, h5⟩ := h3
    exact ⟨h1, h2, l, s, sp, ac, ns, by rw [upd_ne ne]; exact h4, h5⟩
  len := k.len
  sv := fun i r e => by
    obtain ⟨v, h1, h2⟩ := k.sv i r e
    refine ⟨v, h1, ?_⟩
    cases r with
    | d x => exact h2
    | gen => exact h2
    | scr ns => exact h2
    | own xs =>
      obtain ⟨a, us, e1, e2, e3⟩ := h2
      subst e1
      exact ⟨a, us, rfl, by rw [upd_ne (show a ≠ p from fun z => no i _ e True.intro (by rw [h1, z]))]; exact e2, e3⟩
    | dic D =>
      obtain ⟨a, us, e1, e2, e3⟩ := h2
      subst e1
      exact ⟨a, us, rfl, by rw [upd_ne (show a ≠ p from fun z => no i _ e True.intro (by rw [h1, z]))]; exact e2, e3⟩
  di := k.di
theorem lc_of {it : WI} {g : WG} {t : WT} {f : WE} {ws vs0 : List Nat} {tg' : TG} {tt' : TT} {te' : TE} (hg : ∀ Δ' : Dx, Δ'.K = Δ.K → ∀ v σ H Q, tG Δ' ws g v σ H Q → tg' v σ H Q) (ht : ∀ Δ' : Dx, Δ'.K = Δ.K → ∀ σ H Q, tT Δ' t σ H Q → tt' σ H Q)
    (he : ∀ Δ' : Dx, Δ'.K = Δ.K → ∀ σ H Q, tE Δ' f σ H Q → te' σ H Q) (hws : ∀ i ∈ ws, i ∈ vs0) (σ : St) (H : Hp) (Q : VK) (h : tE Δ (eLc it g t f vs0) σ H Q) : tLc (tI Δ it) tg' tt' te' vs0 σ H Q := by
  obtain ⟨am, F, c, P, XX, ok, hf, kq, kx⟩ := h
  refine ⟨am, F, c, _, XX, ok, hf, fun xs c1 F1 H1 J p1 l1 o1 wk => ?_, kx⟩
  intro D hD
  obtain ⟨nw, p1⟩ := p1
  refine lc_it wk (fun i H => ∃ F' acc vs gs, Le F1 F' ∧ Ok Δ am F' σ H ⟨c1.env, gs⟩ ∧ H D = some (.lst vs) ∧ F' D = none ∧ RpA F' vs acc ∧
    (∀ (i : Nat) (r : Rv), c1.env[i]? = some (some r) → r.mu → σ[i]? ≠ some (some (.ref D))) ∧ lcW g t f vs0 c1.env XX P (xs.drop i) acc gs) ?_ ?_ ?_ ?_
  · obtain ⟨o2, r2⟩ := Rs.fresh o1 hD (vs := []) (xs := []) .nil
    refine ⟨F1, [], [], c1.g, Le.refl F1, o2, upd_same, o1.fh.nn hD, .nil, fun i ys e mu => r2.2 True.intro i ys e mu, p1⟩
  · rintro i H' _ ⟨F', acc, vs, gs, l2, o2, _⟩
    exact l2.trans o2.fh
  · rintro i v H2 H3 hi ⟨F', acc, vs, gs, l2, o2, hd, fd, ra, no, hw⟩ ⟨x, hx, hy⟩
    have h0 : Δ.H0 D = none := o1.new hD
    have hdrop : xs.drop i = x :: xs.drop (i + 1) := by
      rw [List.drop_eq_getElem_cons hi]
      rw [List.getElem?_eq_getElem hi] at hx
      cases hx
      rfl
    rw [hdrop] at hw
    obtain ⟨F3, l3, o3, hd3, fd3, rx⟩ : ∃ F3, Le F' F3 ∧ Ok Δ am F3 σ H3 ⟨c1.env, gs⟩ ∧ H3 D = some (.lst vs) ∧ F3 D = none ∧ Rp F3 v x := by
      rcases hy with ⟨rfl, rx⟩ | ⟨T, us, ds, rfl, hT, rfl, rfl, rx⟩
      · exact ⟨F', Le.refl F', o2, hd, fd, rx.mono l2⟩
      · obtain ⟨o3, l3, rp⟩ := o2.tupN hT (rx.mono l2)
        have ne : D ≠ T := ne_of_none hd hT
        exact ⟨_, l3, o3, by rw [upd_ne ne]; exact hd, by rw [upd_ne ne]; exact fd, rp⟩
    have f00 : Δ.F0 D = none := o3.f0.nn fd3
    have na : Δ.a0 ≠ some D := fun z => (o3.al D z).2 h0
    have oh := o3.hold hd3 fd3 h0 no
    refine hg (Δ.hold D (.lst vs)) rfl _ _ _ _ ⟨am, F3, _, .d x, _, oh.wiped vs0, .of rx, hw, fun c2 F4 σ4 H4 p4 l4 o4 t4 => ?_⟩
    obtain ⟨e4, p4⟩ := p4
    refine ⟨?_, ?_⟩
    · rw [wipe_tch t4 hws]
      exact wipe_idem σ _
    have kxh : ∀ {G : Hp}, Le F G → KX (Δ.hold D (.lst vs)) am G XX := fun {G} lg x g F' H' h l fn => kx x g F' H' h (lg.trans l) (fn.unhold h0 na)
    have lF3 : Le F F3 := (l1.trans l2).trans l3
    refine ht (Δ.hold D (.lst vs)) rfl _ _ _ ⟨am, F4, c2, _, XX, o4, p4, fun b c3 F5 H5 p5 l5 o5 => ?_, kxh (lF3.trans l4)⟩
    obtain ⟨e5, p5⟩ := p5
    cases b with
    | true =>
      rw [if_pos rfl] at p5 ⊢
      refine he (Δ.hold D (.lst vs)) rfl _ _ _ ⟨am, F5, c3, _, XX, o5, p5, fun r c6 F6 v6 H6 p6 l6 o6 s6 => ?_, kxh ((lF3.trans l4).trans l5)⟩
      obtain ⟨e6, p6⟩ := p6
      obtain ⟨y, F7, hy, l7, o7, rp7⟩ := s6.data o6 p6
      obtain ⟨o8, hd8, fd8, no8⟩ := o7.unhold h0 f00 na
      obtain ⟨c6e, c6g⟩ := c6
      have e6 : c6e = c2.env := e6
      subst e6
      have ll : Le F' F7 := (((l3.trans l4).trans l5).trans l6).trans l7
      have o9 := o2.unwipe o8 ll t4 hws e4 nw
      refine ⟨vs, hd8, Nat.lt_of_lt_of_le (show vs.length < 1000000 by rw [ra.length]; exact hy.1) (line_of (Nat.le_refl _)), F7, acc ++ [y], vs ++ [v6], c6g, l2.trans ll, o9.chg hd8 fd8 h0 no, upd_same, fd8, (ra.mono ll).append (.one rp7), no, hy.2⟩
    | false =>
      rw [if_neg Bool.false_ne_true] at p5 ⊢
      obtain ⟨o8, hd8, fd8, no8⟩ := o5.unhold h0 f00 na
      obtain ⟨c3e, c3g⟩ := c3
      have e5 : c3e = c2.env := e5
      subst e5
      have ll : Le F' F5 := (l3.trans l4).trans l5
      have o9 := o2.unwipe o8 ll t4 hws e4 nw
      exact ⟨F5, acc, vs, c3g, l2.trans ll, o9, hd8, fd8, ra.mono ll, no, p5⟩
  · rintro H2 ⟨F', acc, vs, gs, l2, o2, hd, fd, ra, no, hw⟩
    rw [List.drop_length] at hw
    exact kq (.own acc) ⟨c1.env, gs⟩ F' (.ref D) H2 hw (l1.trans l2) o2 ⟨⟨D, vs, rfl, hd, fd, o1.new hD, ra⟩, fun _ i ys e mu => no i ys e mu⟩
theorem de_lc {elt tg iter : Expr} {ifs : List Expr} {scope : Scope} {own : List (Str × Nat)} {it : WI} {g : WG} {t : WT} {f : WE} {ws : List Nat} (hc : X.calm = true) (hN : X.N.Nodup) (hi : PI X tg iter (tI Δ it)) (bok : BlkOk X.N X.env.scope scope own)
    (hg : ∀ (s : Shared) (H : Hp) (C : Addr) (cl : List (Str × Addr)) (fp : List Addr) (Δ' : Dx), Δ'.K = Δ.K → PG (X.blk s H scope (compEnvC scope cl C X.env) fp) tg (tG Δ' ws g))
    (ht : ∀ (s : Shared) (H : Hp) (C : Addr) (cl : List (Str × Addr)) (fp : List Addr) (Δ' : Dx), Δ'.K = Δ.K → PTs (X.blk s H scope (compEnvC scope cl C X.env) fp) ifs (tT Δ' t))
    (he : ∀ (s : Shared) (H : Hp) (C : Addr) (cl : List (Str × Addr)) (fp : List Addr) (Δ' : Dx), Δ'.K = Δ.K → PE (X.blk s H scope (compEnvC scope cl C X.env) fp) elt (tE Δ' f))
    (hws : ∀ i ∈ ws, i ∈ own.map (·.2) := by decide) (hs : ∀ x, foldedSetIterable iter X.env x = pure x := by intro _; rfl) :
    PE X (.ListComp elt [⟨tg, iter, ifs, 0⟩] scope pos) (tE Δ (eLc it g t f (own.map (·.2)))) := by
  let tg' : TG := fun v σ H Q => ∃ Δ' : Dx, Δ'.K = Δ.K ∧ tG Δ' ws g v σ H Q
  let tt' : TT := fun σ H Q => ∃ Δ' : Dx, Δ'.K = Δ.K ∧ tT Δ' t σ H Q
  let te' : TE := fun σ H Q => ∃ Δ' : Dx, Δ'.K = Δ.K ∧ tE Δ' f σ H Q
  exact (pe_lc (g := tg') (tt := tt') (te := te') hc hN hi bok (fun s H C cl fp => ⟨fun pins s' σ H' v u Q I r ⟨Δ', e, h⟩ => (hg s H C cl fp Δ' e).run pins s' σ H' v u Q I r h⟩)
    (fun s H C cl fp => ⟨fun pins s' σ H' Q I ⟨Δ', e, h⟩ => (ht s H C cl fp Δ' e).run pins s' σ H' Q I h⟩) (fun s H C cl fp => ⟨fun pins s' σ H' Q I ⟨Δ', e, h⟩ => (he s H C cl fp Δ' e).run pins s' σ H' Q I h⟩) hs).imp
    fun σ H Q h => lc_of (fun Δ' e v σ H Q h => ⟨Δ', e, h⟩) (fun Δ' e σ H Q h => ⟨Δ', e, h⟩) (fun Δ' e σ H Q h => ⟨Δ', e, h⟩) hws σ H Q h
/-- name = [..] on one row, the name a local -/
theorem ds_setLc (i : Nat) {y : Str} {py spos : Pos} {elt tg iter : Expr} {ifs : List Expr} {scope : Scope} {own : List (Str × Nat)} {it : WI} {g : WG} {t : WT} {f : WE} {ws : List Nat} (hc : X.calm = true) (hy : X.N[i]? = some y) (hyl : X.env.scope.names.lookup y = some .local) (hsw : swapsWith (.ListComp elt [⟨tg, iter, ifs, 0⟩] scope pos) (some (.Name y py)) spos.line X.env = pure true) (hN : X.N.Nodup) (hi : PI X tg iter (tI Δ it)) (bok : BlkOk X.N X.env.scope scope own)
    (hg : ∀ (s : Shared) (H : Hp) (C : Addr) (cl : List (Str × Addr)) (fp : List Addr) (Δ' : Dx), Δ'.K = Δ.K → PG (X.blk s H scope (compEnvC scope cl C X.env) fp) tg (tG Δ' ws g))
    (ht : ∀ (s : Shared) (H : Hp) (C : Addr) (cl : List (Str × Addr)) (fp : List Addr) (Δ' : Dx), Δ'.K = Δ.K → PTs (X.blk s H scope (compEnvC scope cl C X.env) fp) ifs (tT Δ' t))
    (he : ∀ (s : Shared) (H : Hp) (C : Addr) (cl : List (Str × Addr)) (fp : List Addr) (Δ' : Dx), Δ'.K = Δ.K → PE (X.blk s H scope (compEnvC scope cl C X.env) fp) elt (tE Δ' f))
    (hws : ∀ i ∈ ws, i ∈ own.map (·.2) := by decide) (hs : ∀ x, foldedSetIterable iter X.env x = pure x := by intro _; rfl) :
    PS X (.Assign [.Name y py] (.ListComp elt [⟨tg, iter, ifs, 0⟩] scope pos) spos) (tS Δ (sAsg (eLc it g t f (own.map (·.2))) (gN i))) := by
  let tg' : TG := fun v σ H Q => ∃ Δ' : Dx, Δ'.K = Δ.K ∧ tG Δ' ws g v σ H Q
  let tt' : TT := fun σ H Q => ∃ Δ' : Dx, Δ'.K = Δ.K ∧ tT Δ' t σ H Q
  let te' : TE := fun σ H Q => ∃ Δ' : Dx, Δ'.K = Δ.K ∧ tE Δ' f σ H Q
  exact (ps_setLc (g := tg') (tt := tt') (te := te') hc hN hy hyl hsw hi bok (fun s H C cl fp => ⟨fun pins s' σ H' v u Q I r ⟨Δ', e, h⟩ => (hg s H C cl fp Δ' e).run pins s' σ H' v u Q I r h⟩)
    (fun s H C cl fp => ⟨fun pins s' σ H' Q I ⟨Δ', e, h⟩ => (ht s H C cl fp Δ' e).run pins s' σ H' Q I h⟩) (fun s H C cl fp => ⟨fun pins s' σ H' Q I ⟨Δ', e, h⟩ => (he s H C cl fp Δ' e).run pins s' σ H' Q I h⟩) hs).imp
    fun D σ H h => asg_of (us := [i]) (fun σ H Q h => lc_of (fun Δ' e v σ H Q h => ⟨Δ', e, h⟩) (fun Δ' e σ H Q h => ⟨Δ', e, h⟩) (fun Δ' e σ H Q h => ⟨Δ', e, h⟩) hws σ H Q h) (fun v σ H Q ⟨am, F, c, r, P, ok, s, h, kq⟩ => kq _ F _ H h.2 (Le.refl F) (ok.put s i) (.one σ i _)) D σ H h
end
end Dl
set_option Elab.async false
set_option maxRecDepth 100000
set_option linter.all false
set_option autoImplicit false
namespace Dl
open PySem L2
variable [TabF]
section
variable {X : Cx} {Δ : Dx} {a b e : Expr} {fa fb fc : WE} {pos : Pos} {es : List Expr} {fr : WA} {st : Stmt} {rest sa sb : List Stmt} {ws wt : WS}
/-! ### a name's own list, changed -/
def ownD (c : Cf) (i : Nat) (k : List Px → Prop) : Prop := match c.env[i]? with
  | some (some (.own xs)) => k xs
  | _ => False
def isOwn (c : Cf) (i : Nat) : Prop := ownD c i fun _ => True
theorem Ok.mine {am : Addr} {F : Hp} {σ : St} {H : Hp} {c : Cf} (k : Ok Δ am F σ H c) {i : Nat} {q : List Px → Prop} (h : ownD c i q) :
    ∃ a vs xs, q xs ∧ c.env[i]? = some (some (.own xs)) ∧ σ[i]? = some (some (.ref a)) ∧ H a = some (.lst vs) ∧ F a = none ∧ Δ.H0 a = none ∧ RpA F vs xs := by
  unfold ownD at h
  split at h
  · rename_i xs e
    obtain ⟨v, h1, a, vs, e1, e2, e3, e4, e5⟩ := k.sv i _ e
    subst e1
    exact ⟨a, vs, xs, h, e, h1, e2, e3, e4, e5⟩
  · exact h.elim
theorem set_self {α : Type} {l : List α} {i : Nat} {x : α} (h : l[i]? = some x) : l.set i x = l := by
  apply List.ext_getElem?
  intro j
  by_cases e : i = j
  · subst e
    rw [List.getElem?_set_self (List.getElem?_eq_some_iff.mp h).1, h]
  · rw [List.getElem?_set_ne e]
theorem Ok.mutate {am : Addr} {F : Hp} {σ : St} {H : Hp} {c : Cf} (k : Ok Δ am F σ H c) {i : Nat} {a : Addr} {vs us : List V} {xs ys : List Px} (e : c.env[i]? = some (some (.own xs))) (h1 : σ[i]? = some (some (.ref a))) (h2 : H a = some (.lst vs)) (h3 : F a = none) (h4 : Δ.H0 a = none) (r : RpA F us ys) :
    Ok Δ am F σ (upd H a (.lst us)) (putE c i (.own ys)) := by
  have no : ∀ (j : Nat) (zs : Rv), j ≠ i → c.env[j]? = some (some zs) → zs.mu → σ[j]? ≠ some (some (.ref a)) := fun j zs n p mu z => k.di j i zs _ n p e mu True.intro (z.trans h1.symm)
  have k1 : Ok Δ am F σ H { c with env := c.env.set i none } := ⟨k.fh, k.f0, k.fr, k.tb, k.pr, k.al, k.gn, by simpa using k.len, fun j r e => by
      rw [env_get] at e
      split at e
      · cases e
      · exact k.sv j r e, fun j l ys zs n p q => by
      rw [env_get] at p q
      split at p
      · cases p
      · split at q
        · cases q
        · exact k.di j l ys zs n p q⟩
  have hi : i < c.env.length := (List.getElem?_eq_some_iff.mp e).1
  have no' : ∀ (j : Nat) (zs : Rv), (c.env.set i none)[j]? = some (some zs) → zs.mu → σ[j]? ≠ some (some (.ref a)) := fun j zs p => by
    rw [env_get] at p
    split at p
    · cases p
    · rename_i q
      exact no j zs (fun z => q ⟨z, hi⟩) p
  have k2 := (k1.chg (ws := us) h2 h3 h4 no').put (r := .own ys) (v := .ref a) ⟨⟨a, us, rfl, upd_same, h3, h4, r⟩, fun _ j zs p => no' j zs p⟩ i
  rw [set_self h1] at k2
  have : putE c i (.own ys) = { c with env := (c.env.set i none).set i (some (.own ys)) } := by
    unfold putE
    rw [List.set_set]
  rw [this]
  exact k2
def eApp (i : Nat) (fb : WE) : WE := fun c P X => isOwn c i ∧ fb c (fun r c1 => asD r fun y => ownD c1 i fun xs => xs.length < 1000000 ∧ P (.d .none) (putE c1 i (.own (xs ++ [y])))) X
def eExt (i : Nat) (fb : WE) : WE := fun c P X => isOwn c i ∧ fb c (fun r c1 => asL r fun ys => ownD c1 i fun xs => xs.length + ys.length ≤ 1000000 ∧ P (.d .none) (putE c1 i (.own (xs ++ ys)))) X
def ePop (i : Nat) : WE := fun c P _ => ownD c i fun xs => match xs[xs.length - 1]? with
  | some y => P (.d y) (putE c i (.own xs.dropLast))
  | none => False
section
variable {x : Str} {p p2 : Pos}
theorem de_app (i : Nat) (hb : PE X b (tE Δ fb)) (hN : X.N[i]? = some x := by rfl)
    (hv : Vis X.env.scope x := by first | exact Or.inl rfl | exact Or.inr (Or.inl rfl) | exact Or.inr (Or.inr rfl)) (hd : (x == ("__debug__" : Str)) = false := by decide)
    (hcd : (x == ("__classdict__" : Str)) = false := by decide) (hst : starEach (b :: []) X.env = (false, eval b X.env) :: starEach [] X.env := by rfl) (hln : (p2.endLine == pos.line) = true := by rfl)
    (hfw : ((backTo pos (starEach [b] X.env)).all (fun x => !x.1) && (backToKw pos (keywordEach [] X.env)).all (fun x => x.1.isSome) && decide ([b].length + ([] : List Keyword).length + (if ([] : List Keyword).isEmpty then 0 else 1) < 30)) = true := by rfl) : PE X (.Call (.Attribute (.Name x p) "append" p2) [b] [] pos) (tE Δ (eApp i fb)) := by
  refine (pe_bm PySem.F.plainAttrs_list PySem.F.slot_list_append PySem.F.type_list_append mt_append (pv i hN hv hd hcd) (pa_cons hb pa_nil hst) rfl hfw hln hst).imp fun σ H Q ⟨am, F, c, P, XX, ok, ⟨ho, hf⟩, kq, kx⟩ => ?_
  obtain ⟨a, vs, xs, _, e0, h1, h2, h3, h4, h5⟩ := ok.mine ho
  refine ⟨_, h1, Or.inl ⟨rfl, _, SqL.of h2⟩, am, F, c, _, XX, ok, hf, fun r c1 F1 v1 H1 p1 l1 o1 s1 => ?_, kx⟩
  obtain ⟨y, F2, hy, l2, o2, ry⟩ := s1.data o1 p1
  obtain ⟨a', us, ys, q, e1, g1, g2, g3, g4, g5⟩ := o2.mine hy
  rw [h1] at g1
  cases g1
  exact ⟨a, us, v1, rfl, rfl, g2, Nat.lt_of_lt_of_le (show us.length < 1000000 by rw [g5.length]; exact q.1) (line_of (Nat.le_refl _)), kq _ _ F2 _ _ q.2 (l1.trans l2) (o2.mutate e1 h1 g2 g3 g4 (g5.append (.one ry))) (.of .non)⟩
theorem de_ext (i : Nat) (hb : PE X b (tE Δ fb)) (hN : X.N[i]? = some x := by rfl)
    (hv : Vis X.env.scope x := by first | exact Or.inl rfl | exact Or.inr (Or.inl rfl) | exact Or.inr (Or.inr rfl)) (hd : (x == ("__debug__" : Str)) = false := by decide)
    (hcd : (x == ("__classdict__" : Str)) = false := by decide) (hst : starEach (b :: []) X.env = (false, eval b X.env) :: starEach [] X.env := by rfl) (hln : (p2.endLine == pos.line) = true := by rfl)
    (hfw : ((backTo pos (starEach [b] X.env)).all (fun x => !x.1) && (backToKw pos (keywordEach [] X.env)).all (fun x => x.1.isSome) && decide ([b].length + ([] : List Keyword).length + (if ([] : List Keyword).isEmpty then 0 else 1) < 30)) = true := by rfl) : PE X (.Call (.Attribute (.Name x p) "extend" p2) [b] [] pos) (tE Δ (eExt i fb)) := by
  refine (pe_bm PySem.F.plainAttrs_list PySem.F.slot_list_extend PySem.F.type_list_extend mt_extend (pv i hN hv hd hcd) (pa_cons hb pa_nil hst) rfl hfw hln hst).imp fun σ H Q ⟨am, F, c, P, XX, ok, ⟨ho, hf⟩, kq, kx⟩ => ?_
  obtain ⟨a, vs, xs, _, e0, h1, h2, h3, h4, h5⟩ := ok.mine ho
  refine ⟨_, h1, Or.inl ⟨rfl, _, SqL.of h2⟩, am, F, c, _, XX, ok, hf, fun r c1 F1 v1 H1 p1 l1 o1 s1 => ?_, kx⟩
  obtain ⟨b', zs, ws, F2, rfl, hy, l2, o2, q1, q2⟩ := asL_of o1 s1 p1
  obtain ⟨a', us, ys, q, e1, g1, g2, g3, g4, g5⟩ := o2.mine hy
  rw [h1] at g1
  cases g1
  exact ⟨a, b', us, zs, rfl, rfl, g2, o2.fh _ _ q1, line_of (by rw [g5.length, q2.length]; exact q.1), kq _ _ F2 _ _ q.2 (l1.trans l2) (o2.mutate e1 h1 g2 g3 g4 (g5.append q2)) (.of .non)⟩
theorem de_pop (i : Nat) (hN : X.N[i]? = some x := by rfl)
    (hv : Vis X.env.scope x := by first | exact Or.inl rfl | exact Or.inr (Or.inl rfl) | exact Or.inr (Or.inr rfl)) (hd : (x == ("__debug__" : Str)) = false := by decide)
    (hcd : (x == ("__classdict__" : Str)) = false := by decide) (hln : (p2.endLine == pos.line) = true := by rfl) : PE X (.Call (.Attribute (.Name x p) "pop" p2) [] [] pos) (tE Δ (ePop i)) := by
  refine (pe_bm0 PySem.F.plainAttrs_list PySem.F.slot_list_pop PySem.F.type_list_pop mt_pop (pv i hN hv hd hcd) rfl hln).imp fun σ H Q ⟨am, F, c, P, XX, ok, hf, kq, kx⟩ => ?_
  obtain ⟨a, vs, xs, q, e0, h1, h2, h3, h4, h5⟩ := ok.mine hf
  refine ⟨_, h1, Or.inl ⟨rfl, _, SqL.of h2⟩, ?_⟩
  split at q
  · rename_i y ey
    obtain ⟨v, ev, rv⟩ := h5.get ey
    refine ⟨a, vs, v, rfl, rfl, h2, (by rw [h5.length]; exact ev), kq _ _ F _ _ q (Le.refl F) (ok.mutate e0 h1 h2 h3 h4 h5.dropLast) (.of rv)⟩
  · exact q.elim
/-- name[k] = e -/
def sSetI (i : Nat) (fe fi : WE) : WS := fun c P X => isOwn c i ∧ fe c (fun r c1 => asD r fun y => isOwn c1 i ∧ fi c1 (fun r2 c2 => match r2 with
  | .d (.int k) => ownD c2 i fun xs => (match ixN xs.length k with
    | some j => P (.nx (putE c2 i (.own (xs.set j y))))
    | none => False)
  | _ => False) X) X
/-- name op= e -/
def sAug (i : Nat) (o : OD) (fb : WE) : WS := fun c P X => hasD c i ∧ fb c (fun r c1 => asD r fun y => match c1.env[i]? with
  | some (some (.d x)) => o x y fun rr => P (.nx (putE c1 i rr))
  | _ => False) X
theorem ds_aug (i : Nat) {op : Operator} {o : OD} (hN : X.N.Nodup) (hb : PE X b (tE Δ fb)) (ho : OpD X Δ (inplaceOp op) o) (hi : X.N[i]? = some x := by rfl) (hx : Loc X.env.scope x := by first | exact Or.inl rfl | exact Or.inr rfl)
    (hf : X.fn x = true ∨ X.env.scope.names.lookup x = some .local := by first | exact .inl rfl | exact .inr rfl) : PS X (.AugAssign (.Name x p) op b pos) (tS Δ (sAug i o fb)) := by
  obtain ⟨r, h1, h2⟩ := ho.ex
  refine (ps_aug (ti := r) hN hi hx hb h1 hf).imp fun D σ H ⟨am, F, c, P, XX, ok, ⟨hd, hf⟩, kf, kx⟩ => ?_
  obtain ⟨_, v, _, hv, _⟩ := ok.look hd
  refine ⟨v, hv, am, F, c, _, XX, ok, hf, fun r2 c2 F2 v2 H2 p2 l2 o2 s2 => ?_, kx am⟩
  obtain ⟨y, F3, hy, l3, o3, ry⟩ := s2.data o2 p2
  split at hy
  · rename_i z ez
    obtain ⟨w, g1, g2⟩ := o3.sv i _ ez
    rw [hv] at g1
    cases g1
    exact h2 am F3 σ H2 c2 v v2 z y _ _ o3 g2 ry hy fun rr F4 v4 H4 p4 l4 o4 s4 => kf.1 _ am F4 _ H4 p4 ((l2.trans l3).trans l4) (o4.put s4 i)
  · exact hy.elim
end
theorem di_add : OpD X Δ (inplaceOp .Add) (iD (fun i j => .int (i + j)) fun _ _ => True) := op_iD0 iop_add fun _ _ _ => .int _
theorem CMul2.ok {i j : Int} (h : CMul2 i j) : PySem.IntMulOk i j := by
  rcases h with h | h | ⟨a, b, h1, h2, h3, h4, h5⟩
  · exact CMul.ok (.inl h)
  · exact CMul.ok (.inr h)
  · exact (wide_mul h1 h2 h3 h4 h5).ok
/-! ### loops -/
def forW (g : WG) (f : WS) (X : XP) (P : Fl → Prop) : List Px → Cf → Prop
  | [], c => P (.nx c)
  | x :: xs, c => g (.d x) c fun c1 => f c1 (fun fl => match fl with
    | .nx c2 => forW g f X P xs c2
    | .ct c2 => forW g f X P xs c2
    | .bk c2 => P (.nx c2)
    | .rt r gs => P (.rt r gs)) X
def sFor (it : WI) (g : WG) (f : WS) : WS := fun c P X => it c (fun xs c1 => forW g f X P xs c1) X
theorem ds_for {tg iter : Expr} {body : List Stmt} {it : WI} {g : WG} {us : List Nat} (hp : PassesOwn (model X.prog X.w) X.A X.env X.xe) (hc : X.calm = true) (hi : PI X tg iter (tI Δ it)) (hg : PG X tg (tG Δ us g)) (hb : PSs X body (tS Δ ws))
    (hs : ∀ x, foldedSetIterable iter X.env x = pure x := by intro _; rfl) : PS X (.For tg iter body [] pos) (tS Δ (sFor it g ws)) := by
  refine (ps_for hp hc hi hg hb hs).imp fun D σ H ⟨am, F, c, P, XX, ok, hf, kf, kx⟩ => ?_
  refine ⟨am, F, c, _, XX, ok, hf, fun xs c1 F1 H1 J p1 l1 o1 wk => ?_, kx am⟩
  refine for_it wk (fun i σ H => ∃ am' F' c', Le F1 F' ∧ Ok Δ am' F' σ H c' ∧ forW g ws XX P (xs.drop i) c') ⟨am, F1, c1, Le.refl F1, o1, p1⟩ (fun i σ H _ ⟨am', F', c', l, o, _⟩ => l.trans o.fh) ?_ ?_
  · rintro i v σ2 H2 H3 hi ⟨am', F', c', l2, o2, hw⟩ ⟨x, hx, hy⟩
    have hdrop : xs.drop i = x :: xs.drop (i + 1) := by
      rw [List.drop_eq_getElem_cons hi]
      rw [List.getElem?_eq_getElem hi] at hx
      cases hx
      rfl
    rw [hdrop] at hw
    obtain ⟨F3, l3, o3, rx⟩ : ∃ F3, Le F' F3 ∧ Ok Δ am' F3 σ2 H3 c' ∧ Rp F3 v x := by
      rcases hy with ⟨rfl, rx⟩ | ⟨T, vs, ds, rfl, hT, rfl, rfl, rx⟩
      · exact ⟨F', Le.refl F', o2, rx.mono l2⟩
      · obtain ⟨o3, l3, rp⟩ := o2.tupN hT (rx.mono l2)
        exact ⟨_, l3, o3, rp⟩
    refine ⟨am', F3, c', .d x, _, o3, .of rx, hw, fun c4 F4 σ4 H4 p4 l4 o4 _ => ?_⟩
    have ll : Le F F4 := ((l1.trans l2).trans l3).trans l4
    have ll1 : Le F1 F4 := (l2.trans l3).trans l4
    exact ⟨am', F4, c4, _, XX, o4, p4, ⟨fun c5 am5 F5 σ5 H5 p5 l5 o5 => ⟨am5, F5, c5, ll1.trans l5, o5, p5⟩, fun c5 am5 F5 σ5 H5 p5 l5 o5 => kf.1 c5 am5 F5 σ5 H5 p5 (ll.trans l5) o5,
      fun c5 am5 F5 σ5 H5 p5 l5 o5 => ⟨am5, F5, c5, ll1.trans l5, o5, p5⟩, fun r gs am5 F5 H5 v5 p5 l5 o5 s5 => kf.2.2.2 r gs am5 F5 H5 v5 p5 (ll.trans l5) o5 s5⟩, kx.le ll⟩
  · rintro σ2 H2 ⟨am', F', c', l2, o2, hw⟩
    rw [List.drop_length] at hw
    exact kf.1 c' am' F' σ2 H2 hw (l1.trans l2) o2
def whW (t : WT) (f : WS) (X : XP) (P : Fl → Prop) : Nat → Cf → Prop
  | 0, _ => False
  | n + 1, c => t c (fun b c1 => if b = true then f c1 (fun fl => match fl with
      | .nx c2 => whW t f X P n c2
      | .ct c2 => whW t f X P n c2
      | .bk c2 => P (.nx c2)
      | .rt r gs => P (.rt r gs)) X else P (.nx c1)) X
def sWh (t : WT) (f : WS) : WS := fun c P X => ∃ n, whW t f X P n c
theorem ds_wh {cnd : Expr} {body : List Stmt} {fA : WT} (hp : PassesOwn (model X.prog X.w) X.A X.env X.xe) (hc : PT X cnd (tT Δ fA)) (hb : PSs X body (tS Δ ws)) : PS X (.While cnd body [] pos) (tS Δ (sWh fA ws)) := by
  refine (ps_while hp hc hb).imp fun D σ H ⟨am, F, c, P, XX, ok, ⟨n, hf⟩, kf, kx⟩ => ?_
  refine ⟨fun m σ H => ∃ am' F' c', Le F F' ∧ Ok Δ am' F' σ H c' ∧ whW fA ws XX P m c', ⟨n, am, F, c, Le.refl F, ok, hf⟩, ?_⟩
  rintro m σ2 H2 ⟨am', F', c', l2, o2, hw⟩
  cases m with
  | zero => exact hw.elim
  | succ m =>
    refine ⟨am', F', c', _, XX, o2, hw, fun b c3 F3 H3 p3 l3 o3 => ?_, (kx am').le l2⟩
    cases b with
    | true =>
      rw [if_pos rfl] at p3 ⊢
      refine ⟨fun σ H => ∃ am' F' c', Le F F' ∧ Ok Δ am' F' σ H c' ∧ whW fA ws XX P m c', fun σ' H' h => ⟨m, Nat.lt_succ_self m, h⟩, am', F3, c3, _, XX, o3, p3, ?_, kx.le (l2.trans l3)⟩
      have ll : Le F F3 := l2.trans l3
      exact ⟨fun c5 am5 F5 σ5 H5 p5 l5 o5 => ⟨am5, F5, c5, ll.trans l5, o5, p5⟩, fun c5 am5 F5 σ5 H5 p5 l5 o5 => kf.1 c5 am5 F5 σ5 H5 p5 (ll.trans l5) o5,
        fun c5 am5 F5 σ5 H5 p5 l5 o5 => ⟨am5, F5, c5, ll.trans l5, o5, p5⟩, fun r gs am5 F5 H5 v5 p5 l5 o5 s5 => kf.2.2.2 r gs am5 F5 H5 v5 p5 (ll.trans l5) o5 s5⟩
    | false =>
      rw [if_neg Bool.false_ne_true] at p3 ⊢
      exact kf.1 c3 am' F3 σ2 H3 p3 (l2.trans l3) o3
end
end Dl
set_option Elab.async false
set_option maxRecDepth 100000
set_option linter.all false
set_option autoImplicit false
namespace Dl
open PySem L2
variable [TabF]
/-! ### the drawing state: read, written, made -/
theorem k_ls : ¬ (Sum.inr ("left" : Str) : Key) = (Sum.inr ("seed" : Str) : Key) := by decide +kernel
theorem k_lc : ¬ (Sum.inr ("left" : Str) : Key) = (Sum.inr ("cells" : Str) : Key) := by decide +kernel
theorem k_lp : ¬ (Sum.inr ("left" : Str) : Key) = (Sum.inr ("spot" : Str) : Key) := by decide +kernel
theorem k_sc : ¬ (Sum.inr ("seed" : Str) : Key) = (Sum.inr ("cells" : Str) : Key) := by decide +kernel
theorem k_sp : ¬ (Sum.inr ("seed" : Str) : Key) = (Sum.inr ("spot" : Str) : Key) := by decide +kernel
theorem k_cp : ¬ (Sum.inr ("cells" : Str) : Key) = (Sum.inr ("spot" : Str) : Key) := by decide +kernel
def genKV (l s : Int) (ac : Addr) (p : Int) : List (Key × V) := [(.inr "left", .int l), (.inr "seed", .int s), (.inr "cells", .ref ac), (.inr "spot", .int p)]
theorem gv_left (l s : Int) (ac : Addr) (p : Int) : valV (genKV l s ac p) (Sum.inr ("left" : Str) : Key) = some (.int l) := valV_pos rfl
theorem gv_seed (l s : Int) (ac : Addr) (p : Int) : valV (genKV l s ac p) (Sum.inr ("seed" : Str) : Key) = some (.int s) := by
  unfold genKV
  rw [valV_neg k_ls, valV_pos rfl]
theorem gv_cells (l s : Int) (ac : Addr) (p : Int) : valV (genKV l s ac p) (Sum.inr ("cells" : Str) : Key) = some (.ref ac) := by
  unfold genKV
  rw [valV_neg k_lc, valV_neg k_sc, valV_pos rfl]
theorem gv_spot (l s : Int) (ac : Addr) (p : Int) : valV (genKV l s ac p) (Sum.inr ("spot" : Str) : Key) = some (.int p) := by
  unfold genKV
  rw [valV_neg k_lp, valV_neg k_sp, valV_neg k_cp, valV_pos rfl]
theorem gp_left (l s : Int) (ac : Addr) (p l' : Int) : putK (genKV l s ac p) (Sum.inr ("left" : Str) : Key) (.int l') = genKV l' s ac p := by
  unfold putK genKV
  simp only [List.any_cons, decide_true, Bool.true_or, if_true, List.map_cons, List.map_nil, if_neg (Ne.symm k_ls), if_neg (Ne.symm k_lc), if_neg (Ne.symm k_lp)]
theorem gp_spot (l s : Int) (ac : Addr) (p p' : Int) : putK (genKV l s ac p) (Sum.inr ("spot" : Str) : Key) (.int p') = genKV l s ac p' := by
  unfold putK genKV
  simp only [List.any_cons, decide_true, Bool.true_or, Bool.or_true, if_true, List.map_cons, List.map_nil, if_neg k_lp, if_neg k_sp, if_neg k_cp]
section
variable {X : Cx} {Δ : Dx} {a b e : Expr} {fa fb fc fd : WE} {pos : Pos} {x : Str} {p p2 p3 : Pos} {k : Nat}
/-- m['left'], .. -/
def eGL (i : Nat) : WE := fun c P _ => c.env[i]? = some (some .gen) ∧ c.g.isSome = true ∧ ∀ l : Int, 0 ≤ l → P (.d (.int l)) c
def eGS (i : Nat) : WE := fun c P _ => c.env[i]? = some (some .gen) ∧ c.g.isSome = true ∧ ∀ s : Int, 0 ≤ s → s < 2147483647 → P (.d (.int s)) c
def eGC (i : Nat) : WE := fun c P _ => c.env[i]? = some (some .gen) ∧ c.g.isSome = true ∧ ∀ ns : List Int, ns ≠ [] → ns.length ≤ 1000 → P (.d (.list (ns.map .int))) c
def eGP (i : Nat) : WE := fun c P _ => c.env[i]? = some (some .gen) ∧ ∃ n, c.g = some n ∧ n ≤ 2 ^ 40 ∧ ∀ s : Int, 0 ≤ s → s ≤ n → P (.d (.int s)) c
theorem Ok.gen {am : Addr} {F : Hp} {σ : St} {H : Hp} {c : Cf} (k : Ok Δ am F σ H c) {i : Nat} (h : c.env[i]? = some (some .gen)) : σ[i]? = some (some (.ref am)) := by
  obtain ⟨v, h1, h2⟩ := k.sv i _ h
  have e : v = .ref am := h2
  rw [h1, e]
theorem Ok.gen' {am : Addr} {F : Hp} {σ : St} {H : Hp} {c : Cf} (k : Ok Δ am F σ H c) (h : c.g.isSome = true) : ∃ n left seed spot ac ns, c.g = some n ∧ H am = some (.dK (genKV left seed ac spot)) ∧
    F ac = some (.lst (ns.map V.int)) ∧ ns ≠ [] ∧ ns.length ≤ 1000 ∧ 0 ≤ left ∧ 0 ≤ seed ∧ seed < 2147483647 ∧ 0 ≤ spot ∧ spot ≤ (n : Int) ∧ n ≤ 2 ^ 40 := by
  cases e : c.g with
  | none => rw [e] at h; cases h
  | some n =>
    obtain ⟨h1, h2, l, s, sp, ac, ns, h3⟩ := k.gn n e
    exact ⟨n, l, s, sp, ac, ns, rfl, h3⟩
section
variable (i : Nat) (hu : X.A.units + 1 < cLine) (hN : X.N[i]? = some x)
    (hv : Vis X.env.scope x) (hd : (x == ("__debug__" : Str)) = false) (hcd : (x == ("__classdict__" : Str)) = false)
include hu hN hv hd hcd
theorem de_gl : PE X (.Subscript (.Name x p) (.Constant (.str "left") k p2) pos) (tE Δ (eGL i)) := by
  refine (pe_dget hu (pv i hN hv hd hcd) (pe_str (x := "left")) (fun _ _ => rfl)).imp fun σ H Q ⟨am, F, c, P, XX, ok, ⟨h1, h2, h3⟩, kq, kx⟩ => ?_
  obtain ⟨n, left, seed, spot, ac, ns, q1, q2, q3⟩ := ok.gen' h2
  exact ⟨_, ok.gen h1, am, .int left, rfl, (gv_left left seed ac spot) ▸ DGet.k (k := (Sum.inr ("left" : Str) : Key)) q2, kq _ c F _ H (h3 left q3.2.2.2.1) (Le.refl F) ok (.of (.int _))⟩
theorem de_gs : PE X (.Subscript (.Name x p) (.Constant (.str "seed") k p2) pos) (tE Δ (eGS i)) := by
  refine (pe_dget hu (pv i hN hv hd hcd) (pe_str (x := "seed")) (fun _ _ => rfl)).imp fun σ H Q ⟨am, F, c, P, XX, ok, ⟨h1, h2, h3⟩, kq, kx⟩ => ?_
  obtain ⟨n, left, seed, spot, ac, ns, q1, q2, q3⟩ := ok.gen' h2
  exact ⟨_, ok.gen h1, am, .int seed, rfl, (gv_seed left seed ac spot) ▸ DGet.k (k := (Sum.inr ("seed" : Str) : Key)) q2, kq _ c F _ H (h3 seed q3.2.2.2.2.1 q3.2.2.2.2.2.1) (Le.refl F) ok (.of (.int _))⟩
theorem de_gp : PE X (.Subscript (.Name x p) (.Constant (.str "spot") k p2) pos) (tE Δ (eGP i)) := by
  refine (pe_dget hu (pv i hN hv hd hcd) (pe_str (x := "spot")) (fun _ _ => rfl)).imp fun σ H Q ⟨am, F, c, P, XX, ok, ⟨h1, n, h2, h2', h3⟩, kq, kx⟩ => ?_
  obtain ⟨m, left, seed, spot, ac, ns, q1, q2, q3⟩ := ok.gen' (by rw [h2]; rfl)
  rw [h2] at q1
  cases q1
  exact ⟨_, ok.gen h1, am, .int spot, rfl, (gv_spot left seed ac spot) ▸ DGet.k (k := (Sum.inr ("spot" : Str) : Key)) q2, kq _ c F _ H (h3 spot q3.2.2.2.2.2.2.1 q3.2.2.2.2.2.2.2.1) (Le.refl F) ok (.of (.int _))⟩
theorem de_gc : PE X (.Subscript (.Name x p) (.Constant (.str "cells") k p2) pos) (tE Δ (eGC i)) := by
  refine (pe_dget hu (pv i hN hv hd hcd) (pe_str (x := "cells")) (fun _ _ => rfl)).imp fun σ H Q ⟨am, F, c, P, XX, ok, ⟨h1, h2, h3⟩, kq, kx⟩ => ?_
  obtain ⟨n, left, seed, spot, ac, ns, q1, q2, q3⟩ := ok.gen' h2
  exact ⟨_, ok.gen h1, am, .ref ac, rfl, (gv_cells left seed ac spot) ▸ DGet.k (k := (Sum.inr ("cells" : Str) : Key)) q2, kq _ c F _ H (h3 ns q3.2.1 q3.2.2.1) (Le.refl F) ok (.of (.lst q3.1 (RpA.map_int ns)))⟩
/-- m['left'] = e, m['spot'] = e -/
def sGL (i : Nat) (fa : WE) : WS := fun c P X => fa c (fun r c1 => c1.env[i]? = some (some .gen) ∧ c1.g.isSome = true ∧ match r with
  | .d (.int l) => 0 ≤ l ∧ P (.nx c1)
  | _ => False) X
def sGP (i : Nat) (fa : WE) : WS := fun c P X => fa c (fun r c1 => c1.env[i]? = some (some .gen) ∧ c1.g.isSome = true ∧ match r with
  | .d (.int s) => 0 ≤ s ∧ ∃ n : Nat, s ≤ n ∧ n ≤ 2 ^ 40 ∧ P (.nx { c1 with g := some n })
  | _ => False) X
omit hu hN hv hd hcd in
theorem Ok.genSet {am : Addr} {F : Hp} {σ : St} {H : Hp} {c : Cf} (k : Ok Δ am F σ H c) (h : c.g.isSome = true) {o : HO} {m : Nat} (h2 : GenAt F (upd H am o) am m) : Ok Δ am F σ (upd H am o) { c with g := some m } := by
  obtain ⟨n, left, seed, spot, ac, ns, q1, q2, q3⟩ := k.gen' h
  obtain ⟨g1, g2, g3⟩ := k.gn n q1
  have ne : ∀ b u, F b = some u → b ≠ am := fun b u e z => by rw [z, g2] at e; cases e
  refine ⟨fun b u e => by rw [upd_ne (ne b u e)]; exact k.fh b u e, k.f0, k.fr, k.tb.upd (fun u e => by
    obtain ⟨_, _, _, _, _, e1, _⟩ := g3
    rw [e1] at e
    cases e
    exact dK_ok), fun b u e n => ?_, fun b e => ⟨?_, (k.al b e).2⟩, fun n' e => ?_, k.len, fun i r e => ?_, k.di⟩
  · have : b ≠ am := by
      rintro rfl
      rcases g1 with z | z
      · exact n z
      · rw [z.2] at e; cases e
    rw [upd_ne this]
    exact k.pr b u e n
  · obtain ⟨_, _, _, _, _, e1, _⟩ := h2
    rw [upd_same] at e1
    exact (k.al b e).1.upd fun ps z => by rw [z] at e1; cases e1
  · have e : some m = some n' := e
    cases e
    exact ⟨g1, g2, h2⟩
  · obtain ⟨v, h1, h2⟩ := k.sv i r e
    refine ⟨v, h1, ?_⟩
    cases r with
    | d x => exact h2
    | gen => exact h2
    | scr ns => exact h2
    | own xs =>
      obtain ⟨a, us, e1, e2, e3⟩ := h2
      exact ⟨a, us, e1, by rw [upd_ne (g3.ne e2)]; exact e2, e3⟩
    | dic D =>
      obtain ⟨a, us, e1, e2, e3⟩ := h2
      exact ⟨a, us, e1, by rw [upd_ne (g3.neD e2 e3.2.2)]; exact e2, e3⟩
theorem ds_gl (ha : PE X a (tE Δ fa)) (hs : swapsWith a (some (.Subscript (.Name x p) (.Constant (.str "left") k p2) p3)) pos.line X.env = pure false) : PS X (.Assign [.Subscript (.Name x p) (.Constant (.str "left") k p2) p3] a pos) (tS Δ (sGL i fa)) := by
  refine (ps_dput hu (pv i hN hv hd hcd) (pe_str (x := "left")) ha hs).imp fun D σ H ⟨am, F, c, P, XX, ok, hf, kf, kx⟩ => ?_
  refine ⟨am, F, c, _, XX, ok, hf, fun r c1 F1 v1 H1 p1 l1 o1 s1 => ?_, kx am⟩
  obtain ⟨h1, h2, p1⟩ := p1
  split at p1
  · rename_i l
    have h3 := s1.1
    cases h3
    obtain ⟨n, left, seed, spot, ac, ns, q1, q2, q3⟩ := o1.gen' h2
    have h4 := DPut.k (k := (Sum.inr ("left" : Str) : Key)) (v := V.int l) q2 (by show 4 < sizeLine; decide)
    rw [gp_left] at h4
    have g2 : GenAt F1 (upd H1 am (.dK (genKV l seed ac spot))) am n := ⟨l, seed, spot, ac, ns, upd_same, q3.1, q3.2.1, q3.2.2.1, p1.1, q3.2.2.2.2⟩
    have o2 := o1.genSet h2 g2
    have ec : { c1 with g := some n } = c1 := by
      obtain ⟨env, g⟩ := c1
      cases q1
      rfl
    rw [ec] at o2
    exact ⟨_, o1.gen h1, am, _, rfl, h4, kf.1 c1 am F1 σ _ p1.2 l1 o2⟩
  · exact p1.elim
theorem ds_gp (ha : PE X a (tE Δ fa)) (hs : swapsWith a (some (.Subscript (.Name x p) (.Constant (.str "spot") k p2) p3)) pos.line X.env = pure false) : PS X (.Assign [.Subscript (.Name x p) (.Constant (.str "spot") k p2) p3] a pos) (tS Δ (sGP i fa)) := by
  refine (ps_dput hu (pv i hN hv hd hcd) (pe_str (x := "spot")) ha hs).imp fun D σ H ⟨am, F, c, P, XX, ok, hf, kf, kx⟩ => ?_
  refine ⟨am, F, c, _, XX, ok, hf, fun r c1 F1 v1 H1 p1 l1 o1 s1 => ?_, kx am⟩
  obtain ⟨h1, h2, p1⟩ := p1
  split at p1
  · rename_i l
    have h3 := s1.1
    cases h3
    obtain ⟨n, left, seed, spot, ac, ns, q1, q2, q3⟩ := o1.gen' h2
    obtain ⟨p0, m, pm, pm2, p1⟩ := p1
    have h4 := DPut.k (k := (Sum.inr ("spot" : Str) : Key)) (v := V.int l) q2 (by show 4 < sizeLine; decide)
    rw [gp_spot] at h4
    have g2 : GenAt F1 (upd H1 am (.dK (genKV left seed ac l))) am m := ⟨left, seed, l, ac, ns, upd_same, q3.1, q3.2.1, q3.2.2.1, q3.2.2.2.1, q3.2.2.2.2.1, q3.2.2.2.2.2.1, p0, pm, pm2⟩
    exact ⟨_, o1.gen h1, am, _, rfl, h4, kf.1 _ am F1 σ _ p1 l1 (o1.genSet h2 g2)⟩
  · exact p1.elim
end
/-! the script -/
def scrD (c : Cf) (i : Nat) (k : List Int → Prop) : Prop := match c.env[i]? with
  | some (some (.scr ns)) => k ns
  | _ => False
theorem Ok.scr {am : Addr} {F : Hp} {σ : St} {H : Hp} {c : Cf} (k : Ok Δ am F σ H c) {i : Nat} {q : List Int → Prop} (h : scrD c i q) : ∃ a ns, q ns ∧ σ[i]? = some (some (.ref a)) ∧ SqL Δ.K F a (ns.map V.int) := by
  unfold scrD at h
  split at h
  · rename_i ns e
    obtain ⟨v, h1, a, e1, e2⟩ := k.sv i _ e
    subst e1
    exact ⟨a, ns, h, h1, e2⟩
  · exact h.elim
def iScr (i : Nat) : WI := fun c P _ => scrD c i fun ns => P (ns.map .int) c
section
variable (i : Nat) (hK : Δ.K = X.K) (hN : X.N[i]? = some x)
    (hv : Vis X.env.scope x) (hd : (x == ("__debug__" : Str)) = false) (hcd : (x == ("__classdict__" : Str)) = false)
include hK hN hv hd hcd
theorem di_scr {tg : Expr} : PI X tg (.Name x p) (tI Δ (iScr i)) := by
  refine (pi_list (pv i hN hv hd hcd)).imp fun σ H R ⟨am, F, c, P, XX, ok, hf, kq, kx⟩ => ?_
  obtain ⟨a, ns, h1, h2, h3⟩ := ok.scr hf
  rw [hK] at h3
  refine ⟨_, h2, a, rfl, ⟨_, sq_le ok.fh h3⟩, kq _ c F H _ h1 (Le.refl F) ok ?_⟩
  have w : L2.Walk (Itl X.K a) (ns.map V.int).length (fun H => SqL X.K H a (ns.map V.int)) (YAt (ns.map V.int)) := walk_list
  rw [(RpA.map_int (F := F) ns).length] at w
  exact w.mono (fun H h => sq_le h h3) fun i H v H' _ _ y => y_at (RpA.map_int ns) i H v H' y
def eSlS (i : Nat) (fl fh : WO) : WE := fun c P X => scrD c i (fun _ => True) ∧ fl c (fun lo c2 => fh c2 (fun hi c3 => scrD c3 i fun ns => P (.own ((cutX ns lo hi).map .int)) c3) X) X
omit hK hN hv hd hcd in
theorem cut_map {α β : Type} (f : α → β) (ns : List α) (lo hi : Option Int) : cutX (ns.map f) lo hi = (cutX ns lo hi).map f := by
  unfold cutX
  rw [List.length_map, List.map_take, List.map_drop]
theorem de_slS {lo hi : Option Expr} {fl fh : WO} (hl : PO X lo (tO Δ fl)) (hh : PO X hi (tO Δ fh)) : PE X (.Subscript (.Name x p) (.Slice lo hi none p2) pos) (tE Δ (eSlS i fl fh)) := by
  refine (pe_slice sl_list (pv i hN hv hd hcd) hl hh).imp fun σ H Q ⟨am, F, c, P, XX, ok, ⟨hd, hf⟩, kq, kx⟩ => ?_
  obtain ⟨a, ns, _, h2, _⟩ := ok.scr hd
  refine ⟨_, h2, am, F, c, _, XX, ok, hf, fun u c2 F2 H2 p2 l2 o2 => ?_, kx⟩
  refine ⟨am, F2, c2, _, XX, o2, p2, fun w c3 F3 H3 p3 l3 o3 => ?_, kx.le l2⟩
  obtain ⟨a', ms, h1, h4, h5⟩ := o3.scr p3
  rw [h2] at h4
  cases h4
  refine ⟨a, _, rfl, hK ▸ sq_le o3.fh h5, fun p hp => ?_⟩
  have r := (RpA.map_int (F := F3) ms).cut u w
  rw [cut_map] at r
  obtain ⟨o', rs⟩ := Rs.fresh o3 hp r
  exact kq _ c3 F3 _ _ h1 (l2.trans l3) o' rs
end
/-! ### the drawing state made and handed back -/
def sRetG (f1 f2 f3 f4 : WE) : WS := fun c P X => c.g = none ∧ f1 c (fun r1 c1 => match r1 with
  | .d (.int l) => 0 ≤ l ∧ f2 c1 (fun r2 c2 => match r2 with
    | .d (.int s) => 0 ≤ s ∧ s < 2147483647 ∧ f3 c2 (fun r3 c3 => asL r3 fun xs => ∃ ns : List Int, xs = ns.map .int ∧ ns ≠ [] ∧ ns.length ≤ 1000 ∧ f4 c3 (fun r4 c4 => match r4 with
      | .d (.int z) => z = 0 ∧ c4.g = none ∧ P (.rt .gen (some 0))
      | _ => False) X) X
    | _ => False) X
  | _ => False) X
theorem mg4 (l s : Int) (ac : Addr) (p : Int) : mergeK [] (genKV l s ac p) = genKV l s ac p := by
  unfold mergeK genKV
  simp only [List.foldl_cons, List.foldl_nil]
  have e1 : putK ([] : List (Key × V)) (Sum.inr ("left" : Str) : Key) (.int l) = [(Sum.inr ("left" : Str), V.int l)] := putK_new _ rfl
  have e2 : putK [((Sum.inr ("left" : Str) : Key), V.int l)] (Sum.inr ("seed" : Str) : Key) (.int s) = [((Sum.inr ("left" : Str) : Key), V.int l), (Sum.inr ("seed" : Str), V.int s)] := putK_new _ (by rw [valV_neg k_ls]; rfl)
  have e3 : putK [((Sum.inr ("left" : Str) : Key), V.int l), (Sum.inr ("seed" : Str), V.int s)] (Sum.inr ("cells" : Str) : Key) (.ref ac) = [((Sum.inr ("left" : Str) : Key), V.int l), (Sum.inr ("seed" : Str), V.int s), (Sum.inr ("cells" : Str), V.ref ac)] :=
    putK_new _ (by rw [valV_neg k_lc, valV_neg k_sc]; rfl)
  rw [e1, e2, e3]
  exact putK_new _ (by rw [valV_neg k_lp, valV_neg k_sp, valV_neg k_cp]; rfl)
section
variable {e1 e2 e3 e4 : Expr} {f1 f2 f3 f4 : WE} {q1 q2 q3 q4 : Pos} {k1 k2 k3 k4 : Nat}
theorem ds_retG (a0 : Δ.a0 = none) (h1 : ∀ Δ' : Dx, Δ'.K = Δ.K → PE X e1 (tE Δ' f1)) (h2 : ∀ Δ' : Dx, Δ'.K = Δ.K → PE X e2 (tE Δ' f2)) (h3 : ∀ Δ' : Dx, Δ'.K = Δ.K → PE X e3 (tE Δ' f3)) (h4 : ∀ Δ' : Dx, Δ'.K = Δ.K → PE X e4 (tE Δ' f4)) :
    PS X (.Return (some (.Dict [some (.Constant (.str "left") k1 q1), some (.Constant (.str "seed") k2 q2), some (.Constant (.str "cells") k3 q3), some (.Constant (.str "spot") k4 q4)] [e1, e2, e3, e4] p)) pos) (tS Δ (sRetG f1 f2 f3 f4)) := by
  let t1 : TE := fun σ H Q => ∃ Δ' : Dx, Δ'.K = Δ.K ∧ tE Δ' f1 σ H Q
  let t2 : TE := fun σ H Q => ∃ Δ' : Dx, Δ'.K = Δ.K ∧ tE Δ' f2 σ H Q
  let t3 : TE := fun σ H Q => ∃ Δ' : Dx, Δ'.K = Δ.K ∧ tE Δ' f3 σ H Q
  let t4 : TE := fun σ H Q => ∃ Δ' : Dx, Δ'.K = Δ.K ∧ tE Δ' f4 σ H Q
  have g1 : PE X e1 t1 := ⟨fun pins s σ H Q I ⟨Δ', e, h⟩ => (h1 Δ' e).run pins s σ H Q I h⟩
  have g2 : PE X e2 t2 := ⟨fun pins s σ H Q I ⟨Δ', e, h⟩ => (h2 Δ' e).run pins s σ H Q I h⟩
  have g3 : PE X e3 t3 := ⟨fun pins s σ H Q I ⟨Δ', e, h⟩ => (h3 Δ' e).run pins s σ H Q I h⟩
  have g4 : PE X e4 t4 := ⟨fun pins s σ H Q I ⟨Δ', e, h⟩ => (h4 Δ' e).run pins s σ H Q I h⟩
  refine (ps_ret (pe_disp (pps_cons (pe_str (x := "left")) g1 (pps_cons (pe_str (x := "seed")) g2 (pps_cons (pe_str (x := "cells")) g3 (pps_cons (pe_str (x := "spot")) g4 pps_nil)))) rfl rfl (fun z => nomatch z) (show 4 ≤ 15 by decide))).imp fun D σ H ⟨am, F, c, P, XX, ok, ⟨cg, hf⟩, kf, kx⟩ => ?_
  intro d hd
  have h0 : Δ.H0 d = none := ok.new hd
  have fd : F d = none := ok.fh.nn hd
  have f00 : Δ.F0 d = none := ok.f0.nn fd
  have na : Δ.a0 ≠ some d := fun z => (ok.al d z).2 h0
  have no : ∀ (i : Nat) (r : Rv), c.env[i]? = some (some r) → r.mu → σ[i]? ≠ some (some (.ref d)) := fun i xs e mu z => by
    obtain ⟨v, w1, s1⟩ := ok.sv i _ e
    obtain ⟨a, vs, w2, w3, _⟩ := s1.at mu
    subst w2
    rw [z] at w1
    cases w1
    rw [hd] at w3; cases w3
  have oh := (ok.alloc hd (.dK [])).holdO (p := d) (o := .dK []) upd_same dK_ok.1 (fun n e => by rw [cg] at e; cases e) fd h0 no
  have kxh : ∀ {G : Hp}, Le F G → KX (Δ.hold d (.dK [])) am G XX := fun {G} lg x g F' H' h l fn => kx am x g F' H' h (lg.trans l) (fn.unhold h0 na)
  refine ⟨Δ.hold d (.dK []), rfl, am, F, c, _, XX, oh, hf, fun r1 c1 F1 v1 H1 p1 l1 o1 s1 => ?_, kxh (Le.refl F)⟩
  dsimp only at p1
  split at p1
  case h_2 => exact p1.elim
  rename_i lft
  have w1 := s1.1
  cases w1
  refine ⟨Δ.hold d (.dK []), rfl, am, F1, c1, _, XX, o1, p1.2, fun r2 c2 F2 v2 H2 p2 l2 o2 s2 => ?_, kxh l1⟩
  dsimp only at p2
  split at p2
  case h_2 => exact p2.elim
  rename_i sd
  have w2 := s2.1
  cases w2
  refine ⟨Δ.hold d (.dK []), rfl, am, F2, c2, _, XX, o2, p2.2.2, fun r3 c3 F3 v3 H3 p3 l3 o3 s3 => ?_, kxh (l1.trans l2)⟩
  obtain ⟨ac, vs, xs, F3', rfl, ⟨ns, rfl, hn, hl, p3⟩, l3', o3', ea, ra⟩ := asL_of o3 s3 p3
  have := ra.ints
  subst this
  refine ⟨Δ.hold d (.dK []), rfl, am, F3', c3, _, XX, o3', p3, fun r4 c4 F4 v4 H4 p4 l4 o4 s4 => ?_, kxh (((l1.trans l2).trans l3).trans l3')⟩
  dsimp only at p4
  split at p4
  case h_2 => exact p4.elim
  obtain ⟨rfl, cg4, p4⟩ := p4
  have w4 := s4.1
  cases w4
  obtain ⟨o5, hd5, fd5, no5⟩ := o4.unhold h0 f00 na
  refine ⟨hd5, genKV lft sd ac 0, rfl, (by show 4 ≤ 15; decide), ?_⟩
  rw [mg4]
  have ll : Le F F4 := ((((l1.trans l2).trans l3).trans l3').trans l4)
  refine kf.2.2.2 .gen (some 0) d F4 _ (.ref d) p4 ll ⟨fun b u e => ?_, o5.f0, o5.fr, o5.tb.upd (fun u e => by rw [hd5] at e; cases e; exact dK_ok), fun b u e n => ?_, fun b e => ?_, fun n e => ?_⟩ rfl
  · rw [upd_ne (fun z => by rw [z, fd5] at e; cases e)]
    exact o5.fh b u e
  · rw [upd_ne (ne_of_none e h0)]
    exact o5.pr b u e n
  · rw [a0] at e; cases e
  · cases e
    exact ⟨.inr ⟨a0, h0⟩, fd5, lft, sd, 0, ac, ns, upd_same, l4 _ _ ea, hn, hl, p1.1, p2.1, p2.2.1, by decide, by decide, by decide⟩
end
/-- name = f(..) where f makes the drawing state -/
def sSetG (i : Nat) (Pr : Cn) (fr : WA) : WS := fun c P X => fr c (fun rs c1 => Rv.gen ∉ rs ∧ i < c1.env.length ∧ (∀ j, j ≠ i → c1.env[j]? ≠ some (some .gen)) ∧ Pr rs none fun r g' => r = .gen ∧ ∃ n, g' = some n ∧ P (.nx (putE { c1 with g := some n } i .gen))) X
theorem ds_setG (i : Nat) {Pr : Cn} {fr : WA} {f : Str} {es : List Expr} {kk : Nat} (a0 : Δ.a0 = none) (C : CalD X.prog X.w X.K X.mg X.base kk f Pr) (hK : Δ.K = X.K) (hr : RoomG kk X.A) (hg : Gl X f) (hN : X.N.Nodup) (ha : PA X (e :: es) (tA Δ fr)) (hi : X.N[i]? = some x := by rfl) (hx : Loc X.env.scope x := by first | exact Or.inl rfl | exact Or.inr rfl)
    (hs : swapsWith (.Call (.Name f p2) (e :: es) [] p3) (some (.Name x p)) pos.line X.env = pure false := by rfl) (hf : X.fn x = true ∨ X.env.scope.names.lookup x = some .local := by first | exact .inl rfl | exact .inr rfl)
    (hdb : (f == ("__debug__" : Str)) = false := by decide) (he : starEach (e :: es) X.env = (false, eval e X.env) :: starEach es X.env := by rfl) (hpl : (backTo p3 (starEach es X.env)).any (·.1) = false := by rfl) :
    PS X (.Assign [.Name x p] (.Call (.Name f p2) (e :: es) [] p3) pos) (tS Δ (sSetG i Pr fr)) := by
  obtain ⟨fa, fd, ps, w1, w2, w3, w4⟩ := C.ex
  refine (ps_set hN hi hx (pe_callX w1 hr hg w2 w3 w4 pass0 ha hdb he hpl) hs hf).imp fun D σ H ⟨am, F, c, P, XX, ok, hf, kf, kx⟩ => ?_
  refine ⟨am, F, c, _, XX, ok, hf, fun rs c1 F1 vs H1 p1 l1 o1 s1 => ?_, kx am⟩
  obtain ⟨ng, hi1, hno, p1⟩ := p1
  show spD X.K Pr (vs ++ []) H1 _ E0
  rw [List.append_nil]
  refine ⟨am, F1, rs, none, _, o1.fh, o1.tbs hK, fun n z => (nomatch z), s1.to hK (fun _ => rfl), p1, fun r g' am' F' v H' pr l fn s => ?_⟩
  obtain ⟨rfl, n, rfl, pr⟩ := pr
  have ev : v = .ref am' := s
  subst ev
  obtain ⟨g1, g2, g3⟩ := fn.gn n rfl
  have hnew : unT H1 am' = none := by
    rcases g1 with z | z
    · cases z
    · exact z.2
  have prs : ∀ b o, H1 b = some o → (∀ ps, o ≠ .tbl ps) → H' b = some o := fun b o e nt => fn.pr b o (unT_to e nt) fun z => nomatch z
  refine kf.1 _ am' F' _ H' pr (l1.trans l) ?_
  have hT : (dx0 X.K am none F1 H1).T = Δ.T := (congrArg TabF.T hK).symm
  have new : ∀ b, unT H1 b = none → Δ.H0 b = none := fun b e => by
    rcases unT_none e with e | ⟨ps, e⟩
    · exact o1.new e
    · cases q : Δ.H0 b with
      | none => rfl
      | some o =>
        have h1 := o1.pr b o q (by rw [a0]; exact fun z => nomatch z)
        rw [e] at h1
        rw [← Option.some.inj h1] at q
        exact absurd q (o1.tb.2.2 b ps)
  have nf : ∀ b o, H1 b = some o → F1 b = none → (∀ ps, o ≠ .tbl ps) → F' b = none := fun b o e n nt => by
    cases q : F' b with
    | none => rfl
    | some u =>
      rcases fn.fr b (by rw [q]; exact fun z => nomatch z) with z | z
      · exact absurd n z
      · have z : unT H1 b = none := z
        rw [unT_to e nt] at z; cases z
  refine ⟨fn.fh, o1.f0.trans l, fun b e => (fn.fr b e).elim (fun z => o1.fr b z) fun z => .inr (new b z), ⟨hT ▸ fn.tb.1, fn.tb.2.1, o1.tb.2.2⟩, fun b o e n => prs b o (o1.pr b o e n) (fun ps z => o1.tb.2.2 b ps (z ▸ e)), fun b e => (by rw [a0] at e; cases e),
    fun n' e => ?_, ?_, fun j r e => ?_, fun j l xs ys n q1 q2 m1 m2 => ?_⟩
  · have e : some n = some n' := e
    cases e
    exact ⟨.inr ⟨a0, new _ hnew⟩, g2, g3⟩
  · show (σ.set i _).length = (c1.env.set i _).length
    rw [List.length_set, List.length_set, o1.len]
  · have e : (c1.env.set i (some .gen))[j]? = some (some r) := e
    rw [env_get] at e
    rw [St.set_get]
    split at e
    · rename_i q
      cases e
      refine ⟨.ref am', ?_, rfl⟩
      rw [if_pos ⟨q.1, by rw [o1.len]; exact q.2⟩]
    · rename_i q
      have hj : j ≠ i := fun z => q ⟨z, hi1⟩
      obtain ⟨w, h1, h2⟩ := o1.sv j r e
      refine ⟨w, ?_, ?_⟩
      · rw [if_neg (fun y => hj y.1)]
        exact h1
      · cases r with
        | d x => exact Rp.mono l h2
        | gen => exact absurd e (hno j hj)
        | scr ns =>
          obtain ⟨a, e1, e2⟩ := h2
          exact ⟨a, e1, sq_le l e2⟩
        | own xs =>
          obtain ⟨a, us, e1, e2, e3, e4, e5⟩ := h2
          exact ⟨a, us, e1, prs a _ e2 lst_ok.1, nf a _ e2 e3 lst_ok.1, e4, e5.mono l⟩
        | dic D =>
          obtain ⟨a, us, e1, e2, e3, e4, e5⟩ := h2
          exact ⟨a, us, e1, prs a _ e2 e5.ntbl, nf a _ e2 e3 e5.ntbl, e4, e5.mono l⟩
  · have q1 : (c1.env.set i (some .gen))[j]? = some (some xs) := q1
    have q2 : (c1.env.set i (some .gen))[l]? = some (some ys) := q2
    rw [env_get] at q1 q2
    rw [St.set_get, St.set_get]
    split at q1
    · cases q1
      exact m1.elim
    · rename_i z1
      split at q2
      · cases q2
        exact m2.elim
      · rename_i z2
        rw [if_neg (fun y => z1 ⟨y.1, hi1⟩), if_neg (fun y => z2 ⟨y.1, hi1⟩)]
        exact o1.di j l xs ys n q1 q2 m1 m2
end
end Dl
set_option Elab.async false
set_option maxRecDepth 100000
set_option linter.all false
set_option autoImplicit false
namespace Dl
open PySem L2
variable [TabF]
section
variable {X : Cx} {Δ : Dx}
def subD : OD := iD (fun i j => .int (i - j)) fun _ _ => True
def mulD : OD := iD (fun i j => .int (i * j)) CMul2
def fdivD : OD := iD (fun i j => .int (i.fdiv j)) CDiv2
def modD : OD := iD (fun i j => .int (i.fmod j)) fun _ j => j ≠ 0
def powD : OD := iD (fun i j => .int (i ^ j.toNat)) fun i j => 0 ≤ j ∧ (Builtin.Int.intBits i : Int) * j ≤ 2 ^ 27
def iaddD : OD := iD (fun i j => .int (i + j)) fun _ _ => True
theorem do_pow : OpD X Δ (binaryOp .Pow) powD :=
  op_iD (C' := fun i j => 0 ≤ j ∧ (Builtin.Int.intBits i : Int) * j ≤ 2 ^ 27) (opI fun _ _ _ _ _ _ _ hc q => PyProof.Rows.pow_int hc.1 hc.2 q) (fun _ _ h => h) fun _ _ _ _ => .int _
theorem do_sub' : OpD X Δ (binaryOp .Sub) subD := do_sub
theorem do_mul' : OpD X Δ (binaryOp .Mult) mulD := do_mul
theorem do_fdiv' : OpD X Δ (binaryOp .FloorDiv) fdivD := do_fdiv
theorem do_mod' : OpD X Δ (binaryOp .Mod) modD := do_mod
theorem di_add' : OpD X Δ (inplaceOp .Add) iaddD := di_add
def wYes : WT := fun c P _ => P true c
theorem dts_nil : PTs X [] (tT Δ wYes) := ⟨fun pins s σ H Q I ⟨am, F, c, P, XX, ok, hf, kq, kx⟩ => pts_nil.run pins s σ H Q I (kq true c F H hf (Le.refl F) ok)⟩
/-- f() -/
theorem de_callP0 {k : Nat} {x : Str} {p pos : Pos} {Pr : Cn} (C : CalD X.prog X.w X.K X.mg X.base k x Pr) (hK : Δ.K = X.K) (hr : RoomG k X.A) (hg : Gl X x) (hdb : (x == ("__debug__" : Str)) = false := by decide) : PE X (.Call (.Name x p) [] [] pos) (tE Δ (eCallP Pr aNil)) := by
  obtain ⟨f, fd, ps, h1, h2, h3, h4⟩ := C.ex
  refine (pe_callX0 h1 hr hg h2 h3 h4 pass0 hdb).imp fun σ H Q ⟨am, F, c, P, XX, ok, hf, kq, kx⟩ => ?_
  show spD X.K Pr ([] ++ []) H Q E0
  refine ⟨am, F, [], none, _, ok.fh, ok.tbs hK, fun n z => (nomatch z), .nil, hf.2, fun r g' am' F' v H' pr l fn s => ?_⟩
  obtain ⟨o', s'⟩ := ok.back (g := none) (.inl rfl) l (hK ▸ fn) (hK ▸ s) pr.1
  exact kq r c F' v H' pr.2 l o' s'
end
end Dl
set_option Elab.async false
set_option maxRecDepth 100000
set_option linter.all false
set_option autoImplicit false
namespace Dl
open PySem L2
variable [TabF]
/-! ### running a reading: equations -/
section
variable {k : Px → Prop} {a b d e f : Px} {l xs ys : List Px}
theorem ixt0 : ixD (.tuple (a :: l)) (.int 0) k = k a := by simp [ixD, atI, ixN]
theorem ixt1 : ixD (.tuple (a :: b :: l)) (.int 1) k = k b := by
  simp only [ixD, atI, ixN, List.length_cons]
  rw [if_pos (by omega), if_pos (by omega)]; rfl
theorem ixt2 : ixD (.tuple (a :: b :: d :: l)) (.int 2) k = k d := by
  simp only [ixD, atI, ixN, List.length_cons]
  rw [if_pos (by omega), if_pos (by omega)]; rfl
theorem ixt3 : ixD (.tuple (a :: b :: d :: e :: l)) (.int 3) k = k e := by
  simp only [ixD, atI, ixN, List.length_cons]
  rw [if_pos (by omega), if_pos (by omega)]; rfl
theorem ixl0 : ixD (.list (a :: l)) (.int 0) k = k a := by simp [ixD, atI, ixN]
theorem ixl1 : ixD (.list (a :: b :: l)) (.int 1) k = k b := by
  simp only [ixD, atI, ixN, List.length_cons]
  rw [if_pos (by omega), if_pos (by omega)]; rfl
theorem ixtn {i : Nat} (h : xs[i]? = some a) : ixD (.tuple xs) (.int (i : Int)) k = k a := by simp only [ixD, atI_nat h]
theorem ixln {i : Nat} (h : xs[i]? = some a) : ixD (.list xs) (.int (i : Int)) k = k a := by simp only [ixD, atI_nat h]
theorem ixtl : ixD (.tuple (xs ++ [a])) (.int (-1)) k = k a := by simp only [ixD, atI_last]
theorem ixll : ixD (.list (xs ++ [a])) (.int (-1)) k = k a := by simp only [ixD, atI_last]
end
theorem asD_d {x : Px} {k : Px → Prop} : asD (.d x) k = k x := rfl
theorem asD_own {x : List Px} {k : Px → Prop} : asD (.own x) k = k (.list x) := rfl
theorem argR_d {x : Px} {k : Rv → Prop} : argR (.d x) k = k (.d x) := rfl
theorem argR_own {x : List Px} {k : Rv → Prop} : argR (.own x) k = k (.d (.list x)) := rfl
theorem argR_gen {k : Rv → Prop} : argR .gen k = k .gen := rfl
theorem argR_scr {ns : List Int} {k : Rv → Prop} : argR (.scr ns) k = k (.scr ns) := rfl
theorem asL_own {x : List Px} {k : List Px → Prop} : asL (.own x) k = k x := rfl
theorem asL_d {x : List Px} {k : List Px → Prop} : asL (.d (.list x)) k = k x := rfl
theorem asT_d {x : List Px} {k : List Px → Prop} : asT (.d (.tuple x)) k = k x := rfl
theorem asB_d {b : Bool} {k : Bool → Prop} : asB (.d (.bool b)) k = k b := rfl
theorem sub_i {i j : Int} {P : Rv → Prop} : subD (.int i) (.int j) P = (True ∧ P (.d (.int (i - j)))) := rfl
theorem iadd_i {i j : Int} {P : Rv → Prop} : iaddD (.int i) (.int j) P = (True ∧ P (.d (.int (i + j)))) := rfl
theorem mul_i {i j : Int} {P : Rv → Prop} : mulD (.int i) (.int j) P = (CMul2 i j ∧ P (.d (.int (i * j)))) := rfl
theorem fdiv_i {i j : Int} {P : Rv → Prop} : fdivD (.int i) (.int j) P = (CDiv2 i j ∧ P (.d (.int (i.fdiv j)))) := rfl
theorem mod_i {i j : Int} {P : Rv → Prop} : modD (.int i) (.int j) P = (j ≠ 0 ∧ P (.d (.int (i.fmod j)))) := rfl
theorem pow_i {i j : Int} {P : Rv → Prop} : powD (.int i) (.int j) P = ((0 ≤ j ∧ (Builtin.Int.intBits i : Int) * j ≤ 2 ^ 27) ∧ P (.d (.int (i ^ j.toNat)))) := rfl
theorem lt_i {i j : Int} {P : Rv → Prop} : ltD (.int i) (.int j) P = (True ∧ P (.d (.bool (decide (i < j))))) := rfl
theorem le_i {i j : Int} {P : Rv → Prop} : leD (.int i) (.int j) P = (True ∧ P (.d (.bool (decide (i ≤ j))))) := rfl
theorem gt_i {i j : Int} {P : Rv → Prop} : gtD (.int i) (.int j) P = (True ∧ P (.d (.bool (decide (j < i))))) := rfl
theorem ge_i {i j : Int} {P : Rv → Prop} : geD (.int i) (.int j) P = (True ∧ P (.d (.bool (decide (j ≤ i))))) := rfl
theorem add_i {i j : Int} {P : Rv → Prop} : addD (.int i) (.int j) P = P (.d (.int (i + j))) := rfl
theorem add_l {x y : List Px} {P : Rv → Prop} : addD (.list x) (.list y) P = (x.length + y.length ≤ 1000000 ∧ P (.own (x ++ y))) := rfl
theorem add_t {x y : List Px} {P : Rv → Prop} : addD (.tuple x) (.tuple y) P = (x.length + y.length ≤ 1000000 ∧ P (.d (.tuple (x ++ y)))) := rfl
theorem cat_i {i j : Int} {P : Rv → Prop} : catD (.int i) (.int j) P = P (.d (.int (i + j))) := rfl
theorem cat_l {x y : List Px} {P : Rv → Prop} : catD (.list x) (.list y) P = (x.length + y.length ≤ 1000000 ∧ P (.own (x ++ y))) := rfl
theorem cat_t {x y : List Px} {P : Rv → Prop} : catD (.tuple x) (.tuple y) P = (x.length + y.length ≤ 1000000 ∧ P (.d (.tuple (x ++ y)))) := rfl
theorem neg_i {i : Int} {P : Rv → Prop} : negD (.int i) P = P (.d (.int (-i))) := rfl
theorem sh_int {i : Int} : SeqAt.shaped (.int i) = true := by simp [SeqAt.shaped, PyData.canLay0, PyData.depth]
theorem eqf_i {i j : Int} {P : Rv → Prop} : eqD false (.int i) (.int j) P = (True ∧ True ∧ P (.d (.bool (i == j)))) := by simp only [eqD, sh_int]; rfl
theorem eqt_i {i j : Int} {P : Rv → Prop} : eqD true (.int i) (.int j) P = (True ∧ True ∧ P (.d (.bool (!(i == j))))) := by simp only [eqD, sh_int]; rfl
theorem lenC_l {x : List Px} {P : Rv → Prop} : lenC [.d (.list x)] P = P (.d (.int x.length)) := rfl
theorem lenC_t {x : List Px} {P : Rv → Prop} : lenC [.d (.tuple x)] P = P (.d (.int x.length)) := rfl
theorem absC_i {i : Int} {P : Rv → Prop} : absC [.d (.int i)] P = P (.d (.int i.natAbs)) := rfl
theorem intC_i {i : Int} {P : Rv → Prop} : intC [.d (.int i)] P = P (.d (.int i)) := rfl
theorem tupC_l {x : List Px} {P : Rv → Prop} : tupC [.d (.list x)] P = P (.d (.tuple x)) := rfl
theorem tupC_t {x : List Px} {P : Rv → Prop} : tupC [.d (.tuple x)] P = P (.d (.tuple x)) := rfl
theorem max2C_i {i j : Int} {P : Rv → Prop} : max2C [.d (.int i), .d (.int j)] P = P (.d (.int (if i < j then j else i))) := rfl
theorem max3C_i {i j l : Int} {P : Rv → Prop} : max3C [.d (.int i), .d (.int j), .d (.int l)] P = P (.d (.int (max2 (max2 i j) l))) := rfl
theorem gT_d {n : Nat} {gs : WGs} {xs : List Px} {c : Cf} {P : Cf → Prop} : gT n gs (.d (.tuple xs)) c P = (xs.length = n ∧ gs xs c P) := rfl
theorem gsC {g : WG} {gs : WGs} {x : Px} {r : List Px} {c : Cf} {P : Cf → Prop} : gsCons g gs (x :: r) c P = g (.d x) c fun c1 => gs r c1 P := rfl
theorem gsN {c : Cf} {P : Cf → Prop} : gsNil [] c P = P c := rfl
/-- plain data, not deep -/
def Shp (n : Nat) (x : Px) : Prop := x.canLay0 = true ∧ x.depth ≤ n
theorem Shp.sh {n : Nat} {x : Px} (h : Shp n x) (hn : n ≤ 64 := by decide) : SeqAt.shaped x = true := by
  simp only [SeqAt.shaped, h.1, Bool.true_and, decide_eq_true_eq]
  exact Nat.le_trans h.2 hn
theorem Shp.int {n : Nat} (i : Int) : Shp n (.int i) := ⟨by simp [PyData.canLay0], by simp [PyData.depth]⟩
theorem Shp.all {n : Nat} : ∀ {xs : List Px}, (∀ x ∈ xs, Shp n x) → PyData.canLayAll0 xs = true ∧ PyData.depthAll xs ≤ n
  | [], _ => ⟨by simp [PyData.canLayAll0], by simp [PyData.depthAll]⟩
  | x :: xs, h => by
    have h1 := h x List.mem_cons_self
    have h2 := Shp.all fun y hy => h y (List.mem_cons_of_mem _ hy)
    refine ⟨by simp only [PyData.canLayAll0, h1.1, h2.1, Bool.and_self], ?_⟩
    simp only [PyData.depthAll]
    exact Nat.max_le.mpr ⟨h1.2, h2.2⟩
theorem Shp.tup {n : Nat} {xs : List Px} (h : ∀ x ∈ xs, Shp n x) : Shp (n + 1) (.tuple xs) := by
  have := Shp.all h
  exact ⟨by simp only [PyData.canLay0]; exact this.1, by simp only [PyData.depth]; omega⟩
theorem Shp.lst {n : Nat} {xs : List Px} (h : ∀ x ∈ xs, Shp n x) : Shp (n + 1) (.list xs) := by
  have := Shp.all h
  exact ⟨by simp only [PyData.canLay0]; exact this.1, by simp only [PyData.depth]; omega⟩
theorem Shp.ints (ns : List Int) : Shp 1 (.tuple (ns.map .int)) := .tup fun x hx => by
  obtain ⟨i, _, rfl⟩ := List.mem_map.mp hx
  exact .int i
theorem eqv_nil {xs : List Px} : PyData.eqv (.list xs) (.list []) = xs.isEmpty := by cases xs <;> simp [PyData.eqv, PyData.eqvAll]
/-! the readings of names, stuck where the slot isn't known -/
def slotE (o : Option (Option Rv)) (i : Nat) (c : Cf) (P : Rv → Cf → Prop) : Prop := match o with
  | some (some (.d x)) => P (.d x) c
  | some (some .gen) => P .gen c
  | some (some (.scr ns)) => P (.scr ns) c
  | some (some (.own xs)) => P (.d (.list xs)) { c with env := c.env.set i (some (.d (.list xs))) }
  | _ => False
theorem eName_eq {i : Nat} {c : Cf} {P : Rv → Cf → Prop} {X : XP} : eName i c P X = slotE c.env[i]? i c P := rfl
theorem slotE_d {x : Px} {i : Nat} {c : Cf} {P : Rv → Cf → Prop} : slotE (some (some (.d x))) i c P = P (.d x) c := rfl
theorem slotE_gen {i : Nat} {c : Cf} {P : Rv → Cf → Prop} : slotE (some (some .gen)) i c P = P .gen c := rfl
theorem slotE_scr {ns : List Int} {i : Nat} {c : Cf} {P : Rv → Cf → Prop} : slotE (some (some (.scr ns))) i c P = P (.scr ns) c := rfl
theorem slotE_own {xs : List Px} {i : Nat} {c : Cf} {P : Rv → Cf → Prop} : slotE (some (some (.own xs))) i c P = P (.d (.list xs)) { c with env := c.env.set i (some (.d (.list xs))) } := rfl
def slotK (o : Option (Option Rv)) (k : Px → Prop) : Prop := match o with
  | some (some (.d x)) => k x
  | some (some (.own xs)) => k (.list xs)
  | _ => False
theorem slotD_eq {c : Cf} {i : Nat} {k : Px → Prop} : slotD c i k = slotK c.env[i]? k := rfl
theorem slotK_d {x : Px} {k : Px → Prop} : slotK (some (some (.d x))) k = k x := rfl
theorem slotK_own {xs : List Px} {k : Px → Prop} : slotK (some (some (.own xs))) k = k (.list xs) := rfl
def slotO (o : Option (Option Rv)) (k : List Px → Prop) : Prop := match o with
  | some (some (.own xs)) => k xs
  | _ => False
theorem ownD_eq {c : Cf} {i : Nat} {k : List Px → Prop} : ownD c i k = slotO c.env[i]? k := rfl
theorem slotO_own {xs : List Px} {k : List Px → Prop} : slotO (some (some (.own xs))) k = k xs := rfl
theorem wB_eq {f : WE} {c : Cf} {P : Bool → Cf → Prop} {X : XP} : wB f c P X = f c (fun r c1 => asB r fun b => P b c1) X := rfl
def asI (r : Rv) (k : Int → Prop) : Prop := match r with
  | .d (.int i) => k i
  | _ => False
theorem asI_i {i : Int} {k : Int → Prop} : asI (.d (.int i)) k = k i := rfl
theorem oSome_eq {f : WE} {c : Cf} {P : Option Int → Cf → Prop} {X : XP} : oSome f c P X = f c (fun r c1 => asI r fun i => P (some i) c1) X := rfl
theorem sSetI_eq {i : Nat} {fe fi : WE} {c : Cf} {P : Fl → Prop} {X : XP} : sSetI i fe fi c P X = (isOwn c i ∧ fe c (fun r c1 => asD r fun y => isOwn c1 i ∧ fi c1 (fun r2 c2 => asI r2 fun k => ownD c2 i fun xs => ∃ j, ixN xs.length k = some j ∧ P (.nx (putE c2 i (.own (xs.set j y))))) X) X) := by
  unfold sSetI
  congr 2
  funext r c1
  congr 1
  funext y
  congr 2
  funext r2 c2
  cases r2 with
  | d x =>
    cases x with
    | int k =>
      show (ownD c2 i fun xs => _) = asI (.d (.int k)) _
      rw [asI_i]
      congr 1
      funext xs
      cases ixN xs.length k <;> simp
    | _ => rfl
  | _ => rfl
def slotA (o : Option (Option Rv)) (k : Px → Prop) : Prop := match o with
  | some (some (.d x)) => k x
  | _ => False
theorem slotA_d {x : Px} {k : Px → Prop} : slotA (some (some (.d x))) k = k x := rfl
theorem sAug_eq {i : Nat} {o : OD} {fb : WE} {c : Cf} {P : Fl → Prop} {X : XP} : sAug i o fb c P X = (hasD c i ∧ fb c (fun r c1 => asD r fun y => slotA c1.env[i]? fun x => o x y fun rr => P (.nx (putE c1 i rr))) X) := rfl
end Dl
set_option Elab.async false
set_option maxRecDepth 100000
set_option linter.all false
set_option autoImplicit false
namespace Dl
open PySem L2
variable [TabF]
/-! ### loops and comprehensions by induction -/
section
variable {g : WG} {t : WT} {f : WE} {vs : List Nat} {env : List (Option Rv)} {X : XP} {P : Rv → Cf → Prop}
/-- one turn of a comprehension -/
def Turn1 (g : WG) (t : WT) (f : WE) (vs : List Nat) (env : List (Option Rv)) (X : XP) (x : Px) (gs : Option Nat) (R : Px → Option Nat → Prop) (S : Option Nat → Prop) : Prop :=
  g (.d x) ⟨wipeE env vs, gs⟩ fun c1 => wipeE c1.env vs = wipeE env vs ∧ t c1 (fun b c2 => c2.env = c1.env ∧ if b = true then f c2 (fun r c3 => c3.env = c1.env ∧ asD r fun y => R y c3.g) X else S c2.g) X
end
theorem forW_ind {g : WG} {f : WS} {X : XP} {P : Fl → Prop} (xs : List Px) (I : Nat → Cf → Prop) (hs : ∀ (i : Nat) (x : Px) (c : Cf), xs[i]? = some x → I i c → ∀ R : Cf → Prop, (∀ c', I (i + 1) c' → R c') →
      g (.d x) c fun c1 => f c1 (fun fl => match fl with
        | .nx c2 => R c2
        | .ct c2 => R c2
        | .bk c2 => P (.nx c2)
        | .rt r gs => P (.rt r gs)) X) (hd : ∀ c, I xs.length c → P (.nx c)) : ∀ c, I 0 c → forW g f X P xs c := by
  have key : ∀ (ys : List Px) (i : Nat) (c : Cf), (∀ j x, ys[j]? = some x → xs[i + j]? = some x) → i + ys.length = xs.length → I i c → forW g f X P ys c := by
    intro ys
    induction ys with
    | nil =>
      intro i c _ hl hI
      simp only [List.length_nil, Nat.add_zero] at hl
      subst hl
      exact hd c hI
    | cons y ys ih =>
      intro i c hg hl hI
      refine hs i y c (by simpa using hg 0 y rfl) hI (fun c' => forW g f X P ys c') fun c' hI' => ih (i + 1) c' (fun j x hx => ?_) (by simp only [List.length_cons] at hl; omega) hI'
      have := hg (j + 1) x (by simpa using hx)
      rw [show i + 1 + j = i + (j + 1) by omega]
      exact this
  intro c hI
  exact key xs 0 c (fun j x h => by simpa using h) (by simp) hI
theorem rng_at {lo : Int} {n i : Nat} {x : Px} (h : (rngX lo n)[i]? = some x) : i < n ∧ x = .int (lo + i) := by
  have hi : i < n := by
    have := (List.getElem?_eq_some_iff.mp h).1
    rwa [rngX_length] at this
  rw [rngX_get n lo i hi] at h
  exact ⟨hi, (Option.some.inj h).symm⟩
theorem map_at {α : Type} {f : α → Px} {l : List α} {i : Nat} {x : Px} (h : (l.map f)[i]? = some x) : ∃ a, l[i]? = some a ∧ x = f a := by
  rw [List.getElem?_map] at h
  cases e : l[i]? with
  | none => rw [e] at h; cases h
  | some a => rw [e] at h; exact ⟨a, rfl, (Option.some.inj h).symm⟩
theorem map_of {α : Type} (f : α → Px) {l : List α} {i : Nat} {a : α} (h : l[i]? = some a) : (l.map f)[i]? = some (f a) := by
  rw [List.getElem?_map, h]; rfl
/-- an item at an int that is in bounds -/
theorem int_ix {n : Nat} {j : Int} (h0 : 0 ≤ j) (h1 : j < n) : ∃ i : Nat, j = (i : Int) ∧ i < n := ⟨j.toNat, by omega, by omega⟩
theorem ixl_of {xs : List Px} {j : Int} {k : Px → Prop} (h0 : 0 ≤ j) (h1 : j < xs.length) (h : ∀ x ∈ xs, k x) : ixD (.list xs) (.int j) k := by
  obtain ⟨i, rfl, hi⟩ := int_ix h0 h1
  rw [ixln (a := xs[i]) (by simp [hi])]
  exact h _ (List.getElem_mem hi)
theorem fmod_b {i b : Int} (hb : 0 < b) : 0 ≤ i.fmod b ∧ i.fmod b < b := by
  rw [Int.fmod_eq_emod_of_nonneg i (by omega)]
  exact ⟨Int.emod_nonneg _ (by omega), Int.emod_lt_of_pos _ hb⟩
theorem fdiv_nn {i b : Int} (hi : 0 ≤ i) (hb : 0 < b) : 0 ≤ i.fdiv b := by
  rw [Int.fdiv_eq_ediv_of_nonneg i (by omega)]
  exact Int.ediv_nonneg hi (by omega)
theorem CMul2.l {i j : Int} (h1 : -1000000000000000000 < i) (h2 : i < 1000000000000000000) : CMul2 i j := .inl ⟨by omega, by omega⟩
theorem CMul2.r {i j : Int} (h1 : -1000000000000000000 < j) (h2 : j < 1000000000000000000) : CMul2 i j := .inr (.inl ⟨by omega, by omega⟩)
theorem CDiv2.s {i j : Int} (h : j ≠ 0) (h1 : -1000000000 < j) (h2 : j < 1000000000) : CDiv2 i j := .inl ⟨h, by omega⟩
theorem CDiv2.g {i j : Int} (h : 0 < j) {b : Nat} (h1 : j.natAbs < 2 ^ b) (h2 : b ≤ 9000 := by decide) (h3 : 0 < b := by decide) : CDiv2 i j := .inr ⟨h, b, h1, h3, h2⟩
end Dl
set_option Elab.async false
set_option maxRecDepth 100000
set_option linter.all false
set_option autoImplicit false
namespace Dl
open PySem L2
variable [TabF]
section
variable {X : Cx} {Δ : Dx} {pos : Pos} {es : List Expr}
/-- a, b, .. = a list of that length -/
def gL (n : Nat) (gs : WGs) : WG := fun r c P => asL r fun xs => xs.length = n ∧ gs xs c P
theorem dg_lst {k : Nat} {gs : WGs} {n : Nat} {us : List Nat} (hc : X.calm = true) (h : PGs X es (tGs Δ us gs)) (hn : (assignEach es X.env).length = n := by rfl) (hst : (assignEach es X.env).findIdx? (·.1) = none := by rfl) : PG X (.Tuple es k pos) (tG Δ us (gL n gs)) :=
  (pg_lst hc h hn hst).imp fun v σ H Q ⟨am, F, c, r, P, ok, s, h, kq⟩ => by
    obtain ⟨a, vs, xs, F', e1, hx, l, o', e2, r1⟩ := asL_of ok s h
    exact ⟨a, vs, e1, SqL.of (o'.fh _ _ e2), by rw [r1.length]; exact hx.1, am, F', c, xs, P, o', r1, hx.2, fun c' F2 σ' H' p l2 o t => kq c' F2 σ' H' p (l.trans l2) o t⟩
end
theorem gL_own {n : Nat} {gs : WGs} {xs : List Px} {c : Cf} {P : Cf → Prop} : gL n gs (.own xs) c P = (xs.length = n ∧ gs xs c P) := rfl
theorem gL_d {n : Nat} {gs : WGs} {xs : List Px} {c : Cf} {P : Cf → Prop} : gL n gs (.d (.list xs)) c P = (xs.length = n ∧ gs xs c P) := rfl
end Dl
set_option Elab.async false
set_option maxRecDepth 100000
set_option linter.all false
set_option autoImplicit false
namespace Dl
open PySem L2
variable [TabF]
section
variable {g : WG} {t : WT} {f : WE} {vs : List Nat} {env : List (Option Rv)} {X : XP} {P : Rv → Cf → Prop}
theorem lcW_fma {α : Type} (e : α → Px) (h : α → Option Px) {gs : Option Nat} : ∀ (l : List α) (acc : List Px), (∀ x ∈ l, ∀ (R : Px → Option Nat → Prop) (S : Option Nat → Prop), (∀ y, h x = some y → R y gs) → (h x = none → S gs) → Turn1 g t f vs env X (e x) gs R S) →
    acc.length + l.length ≤ 1000000 → P (.own (acc ++ l.filterMap h)) ⟨env, gs⟩ → lcW g t f vs env X P (l.map e) acc gs
  | [], acc, _, _, q => by
    simp only [List.filterMap_nil, List.append_nil] at q
    exact q
  | x :: xs, acc, ht, hl, q => by
    simp only [List.length_cons] at hl
    refine ht x List.mem_cons_self (fun y g' => acc.length < 1000000 ∧ lcW g t f vs env X P (xs.map e) (acc ++ [y]) g') (fun g' => lcW g t f vs env X P (xs.map e) acc g') (fun y hy => ⟨by omega, ?_⟩) fun hy => ?_
    · refine lcW_fma e h xs (acc ++ [y]) (fun z hz => ht z (List.mem_cons_of_mem _ hz)) (by simp only [List.length_append, List.length_cons, List.length_nil]; omega) ?_
      rw [List.filterMap_cons_some hy] at q
      rw [List.append_assoc]
      exact q
    · refine lcW_fma e h xs acc (fun z hz => ht z (List.mem_cons_of_mem _ hz)) (by omega) ?_
      rw [List.filterMap_cons_none hy] at q
      exact q
/-- a comprehension that keeps every item -/
theorem lcW_mpa {α : Type} (e h : α → Px) {gs : Option Nat} (l : List α) (ht : ∀ x ∈ l, ∀ (R : Px → Option Nat → Prop) (S : Option Nat → Prop), R (h x) gs → Turn1 g t f vs env X (e x) gs R S)
    (hl : l.length ≤ 1000000) (q : P (.own (l.map h)) ⟨env, gs⟩) : lcW g t f vs env X P (l.map e) [] gs := by
  refine lcW_fma e (fun x => some (h x)) l [] (fun x hx R S hR _ => ht x hx R S (hR _ rfl)) (by simpa using hl) ?_
  rw [List.nil_append, show l.filterMap (fun x => some (h x)) = l.map h by simp [List.filterMap_eq_map']]
  exact q
end
theorem eqt_nil {xs : List Px} {P : Rv → Prop} (h : ∀ x ∈ xs, Shp 60 x) : eqD true (.list xs) (.list []) P = P (.d (.bool (!xs.isEmpty))) := by
  have h1 : SeqAt.shaped (.list xs) = true := (Shp.lst h).sh
  have h2 : SeqAt.shaped (.list []) = true := (Shp.lst (n := 60) (xs := []) (by simp)).sh
  simp only [eqD, h1, h2, eqv_nil, true_and, if_true]
/-! ### powers of constants -/
theorem powc {i j v : Int} (h1 : 0 ≤ j) (h2 : (Builtin.Int.intBits i : Int) * j ≤ 2 ^ 27) (h3 : i ^ j.toNat = v) : eOp powD (eC (.int i)) (eC (.int j)) = eC (.int v) := by
  funext c P X
  show ((0 ≤ j ∧ (Builtin.Int.intBits i : Int) * j ≤ 2 ^ 27) ∧ P (.d (.int (i ^ j.toNat))) c) = P (.d (.int v)) c
  rw [h3]
  exact propext ⟨fun h => h.2, fun h => ⟨⟨h1, h2⟩, h⟩⟩
theorem b10 : Builtin.Int.intBits 10 = 4 := by decide
theorem pow18 : eOp powD (eC (.int 10)) (eC (.int 18)) = eC (.int 1000000000000000000) := powc (by decide) (by rw [b10]; decide) (by decide)
/-! ### what comes behind a call, a loop, a comprehension: held back till its turn -/
inductive Tag {α : Type} (a : α) : Type
  | mk
abbrev Hold (C : Cn) (rs : List Rv) (g : Option Nat) (Q : Rv → Option Nat → Prop) (_ : Tag Q) : Prop := C rs g Q
theorem eCallP_eq {Pr : Cn} {f : WA} {c : Cf} {P : Rv → Cf → Prop} {X : XP} : eCallP Pr f c P X = f c (fun rs c1 => Rv.gen ∉ rs ∧ Hold Pr rs none (fun r _ => r ≠ .gen ∧ P r c1) .mk) X := rfl
theorem eCallG_eq {Pr : Cn} {f : WA} {c : Cf} {P : Rv → Cf → Prop} {X : XP} : eCallG Pr f c P X = f c (fun rs c1 => c1.g.isSome = true ∧ Hold Pr rs c1.g (fun r g' => r ≠ .gen ∧ P r { c1 with g := g' }) .mk) X := rfl
theorem sSetG_eq {i : Nat} {Pr : Cn} {fr : WA} {c : Cf} {P : Fl → Prop} {X : XP} : sSetG i Pr fr c P X = fr c (fun rs c1 => Rv.gen ∉ rs ∧ i < c1.env.length ∧ (∀ j, j ≠ i → c1.env[j]? ≠ some (some .gen)) ∧ Hold Pr rs none (fun r g' => r = .gen ∧ ∃ n, g' = some n ∧ P (.nx (putE { c1 with g := some n } i .gen))) .mk) X := rfl
abbrev forH (g : WG) (f : WS) (X : XP) (P : Fl → Prop) (_ : Tag P) (xs : List Px) (c : Cf) : Prop := forW g f X P xs c
theorem sFor_eq {it : WI} {g : WG} {f : WS} {c : Cf} {P : Fl → Prop} {X : XP} : sFor it g f c P X = it c (fun xs c1 => forH g f X P .mk xs c1) X := rfl
abbrev lcH (g : WG) (t : WT) (f : WE) (vs : List Nat) (env : List (Option Rv)) (X : XP) (P : Rv → Cf → Prop) (_ : Tag P) (xs acc : List Px) (gs : Option Nat) : Prop := lcW g t f vs env X P xs acc gs
theorem eLc_eq {it : WI} {g : WG} {t : WT} {f : WE} {vs : List Nat} {c : Cf} {P : Rv → Cf → Prop} {X : XP} : eLc it g t f vs c P X = it c (fun xs c1 => nown c1.env vs ∧ lcH g t f vs c1.env X P .mk xs [] c1.g) X := rfl
end Dl
set_option Elab.async false
set_option maxRecDepth 100000
set_option linter.all false
set_option autoImplicit false
namespace Dl
open PySem PySem.Spec PyProof.Rows L2
variable [TabF]
section
variable {X : Cx} {Δ : Dx}
theorem cr_repr_bool : CallR X (.builtin "repr") (fun xs H Q => ∃ b, xs = [.bl b] ∧ Q (.str (if b then "True" else "False")) H) := by
  intro pins s σ H xs us Q I r h
  obtain ⟨i, rfl, q⟩ := h
  obtain ⟨u, rfl, e⟩ := vals1 r
  cases e
  exact PySem.P.repr_of_bool ⟨.str _, H, I.tok _, ⟨_, rfl⟩, q⟩
def reprC : CD := fun rs P => match rs with
  | [.d (.bool b)] => P (.d (.str (if b then "True" else "False")))
  | [.d (.int i)] => i.natAbs.log2 < 1920 ∧ P (.d (.str (toString i)))
  | _ => False
end
end Dl
set_option Elab.async false
set_option maxRecDepth 100000
set_option linter.all false
set_option autoImplicit false
/-! enumerate over a tuple, with one argument -/
namespace Dl
open PySem L2 PySem.Spec PyProof.Rows
variable [TabF]
abbrev enO (a : Addr) : Obj := { cls := .type "enumerate", data := .fields #[.none, .bool false, .ref a, rawInt 0, .none, .none] }
abbrev ttO (t : Addr) : Obj := { cls := .type "tuple_iterator", data := .fields #[.ref t, .int 0 0] }
set_option maxHeartbeats 1000000 in
theorem meets_enT {v : Value} {o : Obj} {G : Heap → Prop} (B : Begins v o G) : Meets (Builtin.«enumerate.__new__» ⟨[.type "enumerate", v], []⟩) (fun _ R s => G s.heap ∧ R (.ok (.ret (.ref (s.heap.push o).objs.size))) { s with heap := (s.heap.push o).push (enO s.heap.objs.size) }) :=
  .of_wp fun prog w A R s ⟨h1, h⟩ => by
    have su := sub_enumerate
    obtain ⟨hp, gg, dd, tk, os⟩ := s
    have q : ∀ {A' : Around} {E : Value → Shared → Prop} {Q : Value → Shared → Prop}, Q (.ref hp.objs.size) ⟨hp.push o, gg, dd, tk, os⟩ → wpAny (model prog w) A' (pyIter v) Q E ⟨hp, gg, dd, tk, os⟩ := fun z => B.iter prog w _ _ ⟨hp, gg, dd, tk, os⟩ _ h1 z
    wp_walk using q
    refine wpAny_stack_any fun fr => wpAny_pure ?_
    split
    · rename_i cc _ _ _ _ _
      cases (cc == Value.type "enumerate") <;> (wp_walk using q; exact ⟨_, rfl, h⟩)
    · wp_walk using q; exact ⟨_, rfl, h⟩
theorem call_enT {prog : Program} {w : World} {A : Around} {E : Value → Shared → Prop} {s : Shared} {t : Addr} {its : Array Value} {Q : Value → Shared → Prop} (hT : s.heap.IsTuple t its)
    (h : ∀ h', IsEnum h' (s.heap.objs.size + 1) s.heap.objs.size 0 .none → h'.IsTupleIter s.heap.objs.size t 0 → (∀ b o, s.heap.get? b = some o → h'.get? b = some o) → Q (.ref (s.heap.objs.size + 1)) { s with heap := h' }) :
    wpAny (model prog w) A (call (.type "enumerate") [.ref t]) Q E s := by
  refine callType_new F.called_enumerate (by decide) (F.typeCall_enumerate_1 _) (F.newCall_enumerate_1 _) (fun x => F.args_object_init_2 x _) F.entry_enumerate_new (meets_enT (begins_tuple t its)) ⟨hT, ?_⟩
  have hz : (s.heap.push (ttO t)).objs.size = s.heap.objs.size + 1 := Heap.size_push ..
  have he : IsEnum ((s.heap.push (ttO t)).push (enO s.heap.objs.size)) (s.heap.objs.size + 1) s.heap.objs.size 0 .none := by
    have z := Heap.get?_push_size (s.heap.push (ttO t)) (o := enO s.heap.objs.size) rfl
    rw [hz] at z
    exact z
  show _ ∧ _
  rw [hz]
  exact ⟨⟨_, he, rfl⟩, h _ he ⟨_, Heap.get?_push_of_some _ (Heap.get?_push_size _ rfl), rfl, rfl⟩ fun b o x => Heap.get?_push_of_some _ (Heap.get?_push_of_some _ x)⟩
/-- the tuple at a: each item with its number in a new pair -/
def Iet (K : PySem.W.Frag) (a : Addr) : It :=
  ⟨fun i H => ∃ (xs : List V) (x : V), SqT K H a xs ∧ xs[i]? = some x,
   fun i H v H' => ∃ T x, v = .ref T ∧ H T = none ∧ H' = upd H T (.tup [.int (i : Nat), x]) ∧ ∀ xs, SqT K H a xs → xs[i]? = some x,
   fun i H => ∃ xs : List V, SqT K H a xs ∧ xs.length ≤ i⟩
theorem turn_enT {P : Program} {w : World} {K : PySem.W.Frag} {elts : List Expr} {kk : Nat} {tpos : Pos} (a e it : Addr) (hk : K = TabF.K := by first | rfl | assumption) :
    Turn P w K (.Tuple elts kk tpos) (Iet K a) [e, it] e (fun i h => (∃ old, IsEnum h e it ((i : Nat) : Int) old) ∧ h.IsTupleIter it a i ∧ e ≠ it) where
  mem := by simp
  obj := fun i h st b hb => by
    obtain ⟨⟨u, he⟩, ⟨o, ho, _, hd⟩, _⟩ := st
    rcases (by simpa using hb : b = e ∨ b = it) with rfl | rfl
    · exact ⟨_, he, fun v q => nomatch q⟩
    · exact ⟨o, ho, fun v q => by rw [hd] at q; cases q⟩
  keep := fun i h h' ⟨⟨u, he⟩, hi, hne⟩ k => ⟨⟨u, k e (by simp) _ he⟩, hi.at fun o q => k it (by simp) o q, hne⟩
  item := by
    intro X hP hw hK hc i pins s σ H E I hf st hg
    subst hP hw hK
    obtain ⟨⟨u, he⟩, hit, hne⟩ := st
    obtain ⟨xs, x, hq, hx⟩ := hg
    obtain ⟨its, rv, p, hz⟩ := I.tuple hq
    obtain ⟨y, hy, ry⟩ := rv.get hx
    have hel : e < s.heap.objs.size := Heap.lt_size he
    have hil : it < s.heap.objs.size := by obtain ⟨_, q, _⟩ := hit; exact Heap.lt_size q
    have hT : s.heap.IsTuple a its.toArray := p
    have hd : X.A.in1.handled = none := I.ok.hd hc
    have hae : e ≠ a := fun z => by
      subst z
      obtain ⟨o, q, c1, _⟩ := hT
      rw [he] at q
      cases q
      revert c1
      simp
    have hai : a ≠ it := fun z => by
      subst z
      obtain ⟨o, q, c1, _⟩ := hT
      obtain ⟨o', q', c2, _⟩ := hit
      rw [q] at q'
      cases q'
      rw [c1] at c2
      revert c2
      simp
    have hlt : i < its.toArray.size := by
      have := (List.getElem?_eq_some_iff.mp hy).1
      simpa using this
    refine wpAny_pyNext_enum_itemD (Draws.tuple hd it a hai its.toArray) he ⟨hit, hT⟩ hlt hne (by simp [hne, hae]) fun z h' tk hz' ho st' hN hsz hk => ?_
    have ez : z = y := by
      have q : its[i]? = some z := by simpa using hz'
      rw [hy] at q
      exact (Option.some.inj q).symm
    subst ez
    refine ⟨_, rfl, wpAny_letOwnedTupleGo_enum (s := { s with heap := h', toks := tk + 1 }) ho fun h'' he' sb => ?_⟩
    have hN2 : h''.get? s.heap.objs.size = some { cls := .type "tuple", data := .seq #[.int i tk, z] } := (sb.2 _ (Nat.ne_of_gt hel)).trans hN
    have new : ObjOk X.prog X.w (upd H s.heap.objs.size (.tup [.int (i : Nat), x])) h'' s.heap.objs.size (.tup [.int (i : Nat), x]) := ⟨by show 2 ≤ sizeLine; decide, [.int i tk, z], .cons ⟨_, rfl⟩ (.cons ry .nil), ⟨_, hN2, rfl, _, rfl⟩⟩
    have I1 : Inv X pins σ (upd H s.heap.objs.size (.tup [.int (i : Nat), x])) { s with heap := h'', toks := tk + 1 } :=
      I.turnedNew (ch := [e, it]) (fun b ob hb q => (sb.2 b (fun z => hb (by simp [z]))).trans (hk b ob (fun z => hb (by simp [z])) (fun z => hb (by simp [z])) q)) hf (Nat.le_refl _) new
    refine ⟨.ref s.heap.objs.size, _, I1, rfl, ⟨_, x, rfl, I.hok.fresh (Nat.le_refl _), rfl, fun ys hy => by rw [I.tuple_inj hy hq]; exact hx⟩, ⟨⟨z, ?_⟩, st'.1.at fun o q => (sb.2 it (Ne.symm hne)).trans q, hne⟩, fun b hb => ?_⟩
    · rw [show ((i + 1 : Nat) : Int) = (i : Int) + 1 by omega]
      exact he'
    · have hb' : b < s.heap.objs.size := by
        rcases (by simpa using hb : b = e ∨ b = it) with rfl | rfl
        · exact hel
        · exact hil
      rw [upd_ne (Nat.ne_of_lt hb')]
      exact (hf b hb).1
  done := by
    intro X hP hw hK hc i pins s σ H E I hf st hg
    subst hP hw hK
    obtain ⟨⟨u, he⟩, hit, hne⟩ := st
    obtain ⟨xs, hq, hx⟩ := hg
    obtain ⟨its, rv, p, hz⟩ := I.tuple hq
    obtain ⟨f0, f1, f2, f3, f4, f5⟩ := hf it (by simp)
    have hl := rv.length
    have hT : s.heap.IsTuple a its.toArray := p
    have hd : X.A.in1.handled = none := I.ok.hd hc
    have D : Draws X.prog X.w X.A.in1 it [it, a] i (fun _ _ => True) (fun j h => j = i ∧ h.IsTupleIter it a i ∧ h.IsTuple a its.toArray) :=
      { live := fun _ _ ⟨_, ⟨o, ho, _⟩, _⟩ => ⟨o, ho⟩
        frame := fun _ _ _ ⟨z, u1, u2⟩ k => ⟨z, u1.at fun o q => k it (by simp) o q, u2.at fun o q => k a (by simp) o q⟩
        item := fun j _ _ _ lt ⟨z, _⟩ => absurd lt (by omega)
        done := fun s Q E ⟨_, u1, u2⟩ k => wpAny_nextOf_tuple_end hd u1 u2 (by simp; omega) k }
    exact wpAny_pyNext_enum_endD D he ⟨rfl, hit, hT⟩ fun h' eb => ⟨rfl, I.turned (t' := s.toks) (fun b o hb q => eb b o hb q) f0 f1 f3 f4 f5⟩
  self := fun A i s Q E ⟨⟨_, he⟩, _⟩ h => wpAny_pyIter_enum he h
def iEnT (K : PySem.W.Frag) (ta : TA) : TI := fun σ H R => ta σ H fun vs H1 => ∃ a xs, vs = [.ref a] ∧ SqT K H1 a xs ∧ R (Iet K a) H1
theorem pi_enT {X : Cx} {e : Expr} {ta : TA} {p pos tpos : Pos} {elts : List Expr} {kk : Nat} (hg : Gl X "enumerate") (hm : X.mg "enumerate" = none) (ha : PA X [e] ta) (hs : starEach [e] X.env = [(false, eval e X.env)] := by rfl) (hk : X.K = TabF.K := by first | rfl | assumption) :
    PI X (.Tuple elts kk tpos) (.Call (.Name "enumerate" p) [e] [] pos) (iEnT X.K ta) := by
  refine ⟨fun pins s σ H R I h => Call_ (ld_blt I hg hm boot_enumerate (PyProof.Rows.callWith_type1 (thn (ha.run pos pins s σ H _ I h) fun us s1 ⟨vs, H1, I1, r1, a, xs, ex, hq, q⟩ => ?_) hs rfl))⟩
  subst ex
  cases r1 with
  | cons r rr =>
    cases rr
    cases r
    obtain ⟨its, rv, p', hz⟩ := I1.tuple hq
    refine call_enT (show s1.heap.IsTuple a its.toArray from p') fun h' he hit hk => wpAny_pyIter_enum he ?_
    have I2 : Inv X pins σ H1 { s1 with heap := h' } := I1.kept (t' := s1.toks) hk
    refine ⟨s1.heap.objs.size + 1, [s1.heap.objs.size + 1, s1.heap.objs.size], _, _, H1, rfl, I2, turn_enT a (s1.heap.objs.size + 1) s1.heap.objs.size, ⟨⟨.none, he⟩, hit, Nat.succ_ne_self _⟩, fun b hb => ?_, q⟩
    have le : s1.heap.objs.size ≤ b := by
      rcases (by simpa using hb : b = s1.heap.objs.size + 1 ∨ b = s1.heap.objs.size) with z | z <;> rw [z]
      exact Nat.le_succ _
      exact Nat.le_refl _
    exact I1.fpOk le (I1.hok.fresh le)
theorem walk_enT {K : PySem.W.Frag} {a : Addr} {xs : List V} : L2.Walk (Iet K a) xs.length (fun H => SqT K H a xs) (YPair (fun i => some (.int (i : Nat))) (fun i => xs[i]?)) :=
  ⟨fun i _ hi q => ⟨xs, xs[i], q, by simp [hi]⟩, fun _ q => ⟨xs, q, Nat.le_refl _⟩, fun i H v H' _ q ⟨T, x, h1, h2, h3, h4⟩ => ⟨T, .int (i : Nat), x, h1, h2, h3, rfl, h4 xs q⟩⟩
section
variable {X : Cx} {Δ : Dx} {a b e : Expr} {fa fb fc : WE} {pos : Pos} {es : List Expr} {fr : WA}
theorem walk_eT {K : PySem.W.Frag} {F : Hp} {a : Addr} {vs : List V} {xs : List Px} (e : TupF F a vs) (r : RpA F vs xs) (hk : K = TabF.K := by first | rfl | assumption) : WalkX (Iet K a) (enumX 0 xs) F := by
  have w' := (walk_enT (K := K) (a := a) (xs := vs)).mono (G' := fun H => Le F H) (Y' := YD F (enumX 0 xs)) (fun H h => e.sq hk h) fun i H v H' hi _ ⟨T, y, z, h1, h2, h3, h4, h5⟩ => by
    obtain ⟨x, q1, q2⟩ := r.getV h5
    cases Option.some.inj h4
    refine ⟨_, enumX_get xs 0 i x q1, .inr ⟨T, _, _, h1, h2, h3, rfl, .cons ?_ (.one q2)⟩⟩
    rw [Int.zero_add]
    exact .int _
  unfold WalkX
  rw [enumX_length 0 xs, ← r.length]
  exact w'
def iEnmT (f : WA) : WI := fun c P X => f c (fun rs c1 => match rs with
  | [.d (.tuple xs)] => P (enumX 0 xs) c1
  | _ => False) X
theorem di_enT {p tpos : Pos} {elts : List Expr} {kk : Nat} (hK : Δ.K = X.K) (hg : Gl X "enumerate") (hm : X.mg "enumerate" = none) (ha : PA X [a] (tA Δ fr)) (hs : starEach [a] X.env = [(false, eval a X.env)] := by rfl) (hk : X.K = TabF.K := by first | rfl | assumption) :
    PI X (.Tuple elts kk tpos) (.Call (.Name "enumerate" p) [a] [] pos) (tI Δ (iEnmT fr)) := by
  refine (pi_enT hg hm ha hs).imp fun σ H R ⟨am, F, c, P, XX, ok, hf, kq, kx⟩ => ⟨am, F, c, _, XX, ok, hf, fun rs c1 F1 vs H1 p1 l1 o1 s1 => ?_, kx⟩
  split at p1
  · cases s1 with
    | d r s =>
      cases s
      cases r with
      | tup e r1 => exact ⟨_, _, rfl, e.sq hk o1.fh, kq _ c1 F1 H1 _ p1 l1 o1 (walk_eT e r1)⟩
  · exact p1.elim
end
theorem min2C_i {i j : Int} {P : Rv → Prop} : min2C [.d (.int i), .d (.int j)] P = P (.d (.int (if j < i then j else i))) := rfl
theorem lenC_s {ns : List Int} {P : Rv → Prop} : lenC [.scr ns] P = P (.d (.int ns.length)) := rfl
theorem strOk_of (s : String) : PyData.strOk (Str.ofString s) = true := by
  rw [Str.ofString_eq_toList]
  simp only [PyData.strOk, List.all_toArray, List.all_map, List.all_eq_true, Function.comp, decide_eq_true_eq]
  intro c _
  have := c.valid
  unfold UInt32.isValidChar Nat.isValidChar at this
  unfold Char.toNat
  omega
def rb (b : Bool) : Str := if b then "True" else "False"
def ri (i : Int) : Str := toString i
theorem rb_ok (b : Bool) : PyData.strOk (rb b) = true := by cases b <;> exact strOk_of _
theorem ri_ok (i : Int) : PyData.strOk (ri i) = true := strOk_of _
theorem reprC_b {b : Bool} {P : Rv → Prop} : reprC [.d (.bool b)] P = P (.d (.str (rb b))) := rfl
theorem reprC_i {i : Int} {P : Rv → Prop} : reprC [.d (.int i)] P = (i.natAbs.log2 < 1920 ∧ P (.d (.str (ri i)))) := rfl
theorem sh_str {s : Str} (h : PyData.strOk s = true) : SeqAt.shaped (.str s) = true := by simp [SeqAt.shaped, PyData.canLay0, PyData.depth, h]
theorem eqv_rb (b c : Bool) : PyData.eqv (.str (rb b)) (.str (rb c)) = (b == c) := by
  cases b <;> cases c <;> decide +kernel
theorem eqt_rb {b c : Bool} {P : Rv → Prop} : eqD true (.str (rb b)) (.str (rb c)) P = P (.d (.bool (!(b == c)))) := by simp only [eqD, sh_str (rb_ok _), eqv_rb, true_and]; rfl
theorem eqf_rb {b c : Bool} {P : Rv → Prop} : eqD false (.str (rb b)) (.str (rb c)) P = P (.d (.bool (b == c))) := by simp only [eqD, sh_str (rb_ok _), eqv_rb, true_and]; rfl
theorem eqt_ri {i : Int} {P : Rv → Prop} : eqD true (.str (ri i)) (.str (ri i)) P = P (.d (.bool false)) := by
  have e : PyData.eqv (.str (ri i)) (.str (ri i)) = true := by simp [PyData.eqv]
  simp only [eqD, sh_str (ri_ok _), e, true_and]; rfl
theorem slD_t {xs : List Px} {lo hi : Option Int} {k : Rv → Prop} : slD (.tuple xs) lo hi k = k (.d (.tuple (cutX xs lo hi))) := rfl
end Dl
set_option Elab.async false
set_option maxRecDepth 100000
set_option linter.all false
set_option autoImplicit false
/-! repr of tuples of plain data, where no repr is under way -/
namespace Dl
open PySem PySem.Spec PyProof.Rows L2
variable [TabF]
theorem ok_app (a b : Str) : PyData.strOk (a ++ b) = (PyData.strOk a && PyData.strOk b) := by
  show ((a.cps ++ b.cps).all fun c => decide (c < 0x110000)) = _
  rw [Array.all_append]
  rfl
theorem ok_join : ∀ {ts : List Str}, (∀ t ∈ ts, PyData.strOk t = true) → PyData.strOk (Str.join ", " ts) = true
  | [], _ => strOk_of ""
  | [x], h => h x (by simp)
  | x :: y :: r, h => by
    show PyData.strOk (x ++ ", " ++ Str.join ", " (y :: r)) = true
    rw [ok_app, ok_app, h x (by simp), ok_join fun t ht => h t (by simp only [List.mem_cons] at ht ⊢; exact .inr ht)]
    have : PyData.strOk (", " : Str) = true := strOk_of ", "
    rw [this]
    rfl
theorem ok_tuple {ts : List Str} (h : ∀ t ∈ ts, PyData.strOk t = true) : PyData.strOk (tupleText ts) = true := by
  unfold tupleText
  rw [ok_app, ok_app, ok_join h]
  have h1 : PyData.strOk ("(" : Str) = true := strOk_of "("
  have h2 : ∀ b : Bool, PyData.strOk (if b = true then ",)" else ")" : String) = true := fun b => by cases b <;> exact strOk_of _
  rw [h1, h2]
  rfl
/-- e: how deep, b: how long its text is at most -/
structure Sho (e b : Nat) (d : Px) : Prop where
  sh : d.showable = true
  nd : d.hasDict = false
  dp : d.depth ≤ e
  ln : d.shown.length ≤ b
  ok : PyData.strOk d.shown = true
theorem Sho.int {e : Nat} {i : Int} (h : i.natAbs.log2 < 1920) : Sho e 1921 (.int i) := ⟨by simp [PyData.showable, h], rfl, Nat.zero_le _, int_text_len_1921 h, ri_ok i⟩
theorem Sho.mono {e b e' b' : Nat} {d : Px} (h : Sho e b d) (h1 : e ≤ e') (h2 : b ≤ b') : Sho e' b' d := ⟨h.sh, h.nd, Nat.le_trans h.dp h1, Nat.le_trans h.ln h2, h.ok⟩
theorem sho_all {e b : Nat} : ∀ {xs : List Px}, (∀ x ∈ xs, Sho e b x) → PyData.showableAll xs = true ∧ PyData.hasDictAll xs = false ∧ PyData.depthAll xs ≤ e ∧ ((PyData.shownAll xs).map (·.length)).sum ≤ xs.length * b ∧ (PyData.shownAll xs).length = xs.length ∧ ∀ t ∈ PyData.shownAll xs, PyData.strOk t = true
  | [], _ => ⟨rfl, rfl, Nat.zero_le _, by simp [PyData.shownAll], rfl, fun t h => by cases h⟩
  | x :: xs, h => by
    obtain ⟨h1, h2, h3, h4, h5, h6⟩ := sho_all (xs := xs) fun y hy => h y (List.mem_cons_of_mem _ hy)
    have hx := h x List.mem_cons_self
    refine ⟨by simp [PyData.showableAll, hx.sh, h1], by simp [PyData.hasDictAll, hx.nd, h2], ?_, ?_, by simp [PyData.shownAll, h5], fun t ht => ?_⟩
    · have := hx.dp
      simp only [PyData.depthAll]
      omega
    · have := hx.ln
      simp only [PyData.shownAll, List.map_cons, List.sum_cons, List.length_cons, Nat.succ_mul]
      omega
    · rcases List.mem_cons.mp ht with rfl | ht
      · exact hx.ok
      · exact h6 t ht
theorem Sho.tup {e b n : Nat} {xs : List Px} (h : ∀ x ∈ xs, Sho e b x) (hl : xs.length ≤ n) : Sho (e + 1) (n * b + 2 * n + 3) (.tuple xs) := by
  obtain ⟨h1, h2, h3, h4, h5, h6⟩ := sho_all h
  refine ⟨by simpa [PyData.showable] using h1, by simpa [PyData.hasDict] using h2, ?_, ?_, ok_tuple h6⟩
  · simp only [PyData.depth]
    omega
  · have t := tupleText_len_le (PyData.shownAll xs)
    have m : xs.length * b ≤ n * b := Nat.mul_le_mul_right b hl
    show (tupleText (PyData.shownAll xs)).length ≤ _
    omega
section
variable {X : Cx} {Δ : Dx}
theorem cr_repr_tup (hg : X.A.guards = some []) (hu : X.A.units + 64 < cLine) : CallR X (.builtin "repr") (fun vs H Q => ∃ v xs, vs = [v] ∧ Dp X.K H v (.tuple xs) ∧ Sho 40 1000000 (.tuple xs) ∧ Q (.str (PyData.shown (.tuple xs))) H) := by
  intro pins s σ H vs us Q I r h
  obtain ⟨v, xs, rfl, hd, hs, q⟩ := h
  cases r with
  | cons r rr =>
    cases rr
    obtain ⟨as, rd⟩ := Dp.reads I _ _ _ hd r
    have hd' := hd
    cases hd' with
    | tup e1 e2 =>
      cases r
      refine repr_of_reads' rd hs.sh (fun z => by rw [hs.nd] at z; cases z) hg (by have := hs.dp; omega) (fun _ _ e => e) (fun h' u tk k => ?_) (Nat.le_trans hs.ln (by rw [sizeLine_eq]; decide))
      exact ⟨.str _, H, I.kept (t' := tk) k, ⟨_, rfl⟩, q⟩
def reprA : CD := fun rs P => match rs with
  | [.d (.bool b)] => P (.d (.str (rb b)))
  | [.d (.int i)] => i.natAbs.log2 < 1920 ∧ P (.d (.str (ri i)))
  | [.d (.tuple xs)] => Sho 40 1000000 (.tuple xs) ∧ P (.d (.str (PyData.shown (.tuple xs))))
  | _ => False
end
theorem reprA_b {b : Bool} {P : Rv → Prop} : reprA [.d (.bool b)] P = P (.d (.str (rb b))) := rfl
theorem reprA_i {i : Int} {P : Rv → Prop} : reprA [.d (.int i)] P = (i.natAbs.log2 < 1920 ∧ P (.d (.str (ri i)))) := rfl
theorem reprA_t {xs : List Px} {P : Rv → Prop} : reprA [.d (.tuple xs)] P = (Sho 40 1000000 (.tuple xs) ∧ P (.d (.str (PyData.shown (.tuple xs))))) := rfl
end Dl
set_option Elab.async false
set_option maxRecDepth 100000
set_option linter.all false
set_option autoImplicit false
/-! sorted: ints, and tuples of ints -/
namespace Dl
open PySem PySem.Spec PyProof.Rows L2
variable [TabF]
section
variable {X : Cx} {Δ : Dx}
theorem RpA.of_ints {F : Hp} : ∀ ns : List Int, RpA F (ns.map V.int) (ns.map .int)
  | [] => .nil
  | n :: ns => .cons (.int n) (RpA.of_ints ns)
def sortIC : CD := fun rs P => match rs with
  | [.d (.list xs)] => ∃ ns : List Int, xs = ns.map .int ∧ ∀ ms : List Int, ms.Perm ns → ms.Pairwise (· ≤ ·) → P (.own (ms.map .int))
  | _ => False
theorem cl_sortI (hK : Δ.K = X.K) : ClD X Δ (.builtin "sorted") sortIC :=
  ⟨_, cr_sortedI, fun am F σ H c vs rs P Q ok rx ho k => by
    unfold sortIC at ho
    split at ho
    · obtain ⟨ns, rfl, ho⟩ := ho
      cases rx with
      | d r s =>
        cases s
        cases r with
        | lst e r1 =>
          have z := r1.ints
          subst z
          refine ⟨_, ns, rfl, SqL.of (ok.fh _ _ e), fun ms p h1 h2 hp => ?_⟩
          obtain ⟨o', rs⟩ := Rs.fresh ok hp (RpA.of_ints ms)
          exact k _ F _ _ (ho ms h1 h2) (Le.refl F) o' rs
    · exact ho.elim⟩
end
/-! tuples of ints -/
def tupI (l : List Int) : Px := .tuple (l.map .int)
def vInt : V → Int
  | .int i => i
  | _ => 0
/-- the ints of the tuple that v names -/
def kV (F : Hp) : V → List Int
  | .ref t => (match F t with
    | some (.tup ws) => ws.map vInt
    | _ => [])
  | _ => []
end Dl
set_option Elab.async false
set_option maxRecDepth 100000
set_option linter.all false
set_option autoImplicit false
namespace Dl
open PySem L2
variable [TabF]
section
variable {t : WT} {f : WS} {X : XP} {P : Fl → Prop}
/-- a while loop: I holds ahead of each turn, μ gets less -/
theorem whW_ind (I : Cf → Prop) (μ : Cf → Nat) (hs : ∀ c, I c → ∀ R : Cf → Prop, (∀ c', I c' → μ c' < μ c → R c') →
      t c (fun b c1 => if b = true then f c1 (fun fl => match fl with
        | .nx c2 => R c2
        | .ct c2 => R c2
        | .bk c2 => P (.nx c2)
        | .rt r gs => P (.rt r gs)) X else P (.nx c1)) X) (c : Cf) (h : I c) : ∃ n, whW t f X P n c := by
  have key : ∀ (n : Nat) (c : Cf), I c → μ c < n → whW t f X P n c := by
    intro n
    induction n with
    | zero => exact fun c _ h => absurd h (Nat.not_lt_zero _)
    | succ n ih => exact fun c hI hm => hs c hI (fun c' => whW t f X P n c') fun c' h1 h2 => ih c' h1 (by omega)
  exact ⟨_, key _ c h (Nat.lt_succ_self _)⟩
end
end Dl
set_option Elab.async false
set_option maxRecDepth 100000
set_option linter.all false
set_option autoImplicit false
/-! t[::-1] of a tuple; name[i] op= e -/
namespace L2
open PySem PySem.Spec PyProof.Rows
end L2
set_option Elab.async false
set_option maxRecDepth 100000
set_option linter.all false
set_option autoImplicit false
namespace Dl
open PySem PySem.Spec PyProof.Rows L2
variable [TabF]
section
variable {X : Cx} {Δ : Dx} {a b e : Expr} {fa fb : WE} {pos p2 : Pos}
theorem RpA.rev {F : Hp} : ∀ {vs : List V} {xs : List Px}, RpA F vs xs → RpA F vs.reverse xs.reverse
  | _, _, .nil => .nil
  | _, _, .cons h t => by
    rw [List.reverse_cons, List.reverse_cons]
    exact (RpA.rev t).append (.one h)
/-- t[::-1], a tuple -/
def revD (x : Px) (k : Rv → Prop) : Prop := match x with
  | .tuple xs => k (.d (.tuple xs.reverse))
  | _ => False
def eRevT (fa : WE) : WE := fun c P X => fa c (fun r1 c1 => asD r1 fun x => revD x fun r => P r c1) X
theorem revD_t {xs : List Px} {k : Rv → Prop} : revD (.tuple xs) k = k (.d (.tuple xs.reverse)) := rfl
/-- name[i] op= e, over ints -/
def itI (xs : List Px) (k : Int) (f : Int → Prop) : Prop := 0 ≤ k ∧ match xs[k.toNat]? with
  | some (.int z) => f z
  | _ => False
def sSetIA (i : Nat) (o : Int → Int → Int) (fi fe : WE) : WS := fun c P X => isOwn c i ∧ fi c (fun r c1 => asD r fun x => match x with
  | .int k => ownD c1 i fun xs => itI xs k fun z => fe c1 (fun r2 c2 => asD r2 fun y => match y with
    | .int d => ownD c2 i fun ys => (match ixN ys.length k with
      | some j => P (.nx (putE c2 i (.own (ys.set j (.int (o z d))))))
      | none => False)
    | _ => False) X
  | _ => False) X
theorem sSetIA_eq {i : Nat} {o : Int → Int → Int} {fi fe : WE} {c : Cf} {P : Fl → Prop} {XX : XP} : sSetIA i o fi fe c P XX = (isOwn c i ∧ fi c (fun r c1 => asI r fun k => ownD c1 i fun xs => itI xs k fun z => fe c1 (fun r2 c2 => asI r2 fun d => ownD c2 i fun ys => ∃ j, ixN ys.length k = some j ∧ P (.nx (putE c2 i (.own (ys.set j (.int (o z d))))))) XX) XX) := by
  have hI : ∀ (r : Rv) (g : Int → Prop), (asD r fun x => match x with
      | .int k => g k
      | _ => False) = asI r g := fun r g => by
    cases r with
    | d x => cases x <;> rfl
    | own xs => rfl
    | gen => rfl
    | scr ns => rfl
    | dic D => rfl
  unfold sSetIA
  congr 2
  funext r c1
  refine (hI r _).trans ?_
  congr 1
  funext k
  congr 1
  funext xs
  congr 1
  funext z
  congr 1
  funext r2 c2
  refine (hI r2 _).trans ?_
  congr 1
  funext d
  congr 1
  funext ys
  apply propext
  constructor
  · intro h
    split at h
    · rename_i j ej
      exact ⟨j, ej, h⟩
    · exact h.elim
  · rintro ⟨j, ej, h⟩
    rw [ej]
    exact h
end
end Dl
set_option Elab.async false
set_option maxRecDepth 100000
set_option linter.all false
set_option autoImplicit false
/-! defs that return two lists that nothing else holds -/
namespace Dl
open PySem L2
variable [TabF]
abbrev Cn2 := List Rv → (List Px → List Px → Prop) → Prop
section
variable {X : Cx} {Δ : Dx} {a b e : Expr} {fa fb : WE} {pos : Pos} {es : List Expr} {fr : WA}
/-- a, b = f(..) -/
def sUnp2 (i j : Nat) (Pr : Cn2) (f : WA) : WS := fun c P X => f c (fun rs c1 => Rv.gen ∉ rs ∧ Pr rs fun xs ys => P (.nx (putE (putE c1 i (.own xs)) j (.own ys)))) X
end
end Dl
set_option Elab.async false
set_option maxRecDepth 100000
set_option linter.all false
set_option autoImplicit false
/-! math.gcd by a module's name; a tuple times an int -/
namespace Dl
open PySem L2
variable [TabF]
section
variable {X : Cx} {Δ : Dx} {a b e : Expr} {fa fb : WE} {pos : Pos} {es : List Expr} {fr : WA}
def gcdC : CD := fun rs P => match rs with
  | [.d (.int i), .d (.int j)] => P (.d (.int ((Nat.gcd i.natAbs j.natAbs : Nat) : Int)))
  | _ => False
theorem gcdC_i {i j : Int} {P : Rv → Prop} : gcdC [.d (.int i), .d (.int j)] P = P (.d (.int ((Nat.gcd i.natAbs j.natAbs : Nat) : Int))) := rfl
/-- is, is not, of bools -/
def isBD (neg : Bool) : OD := fun x y P => match x, y with
  | .bool a, .bool b => P (.d (.bool (if neg then !decide (a = b) else decide (a = b))))
  | _, _ => False
theorem isBD_f {a b : Bool} {P : Rv → Prop} : isBD false (.bool a) (.bool b) P = P (.d (.bool (decide (a = b)))) := rfl
theorem isBD_t {a b : Bool} {P : Rv → Prop} : isBD true (.bool a) (.bool b) P = P (.d (.bool (!decide (a = b)))) := rfl
end
end Dl
set_option Elab.async false
set_option maxRecDepth 100000
set_option linter.all false
set_option autoImplicit false
/-! repr of None too -/
namespace Dl
open PySem PySem.Spec PyProof.Rows L2
variable [TabF]
section
variable {X : Cx} {Δ : Dx}
theorem cr_repr_non : CallR X (.builtin "repr") (fun vs H Q => vs = [.non] ∧ Q (.str "None") H) := by
  intro pins s σ H vs us Q I r h
  obtain ⟨rfl, q⟩ := h
  obtain ⟨u, rfl, e⟩ := vals1 r
  cases e
  exact PySem.P.repr_of_none ⟨.str _, H, I.tok _, ⟨_, rfl⟩, q⟩
def reprN : CD := fun rs P => match rs with
  | [.d .none] => P (.d (.str "None"))
  | [.d (.bool b)] => P (.d (.str (rb b)))
  | [.d (.int i)] => i.natAbs.log2 < 1920 ∧ P (.d (.str (ri i)))
  | [.d (.tuple xs)] => Sho 40 1000000 (.tuple xs) ∧ P (.d (.str (PyData.shown (.tuple xs))))
  | _ => False
theorem reprN_n {P : Rv → Prop} : reprN [.d .none] P = P (.d (.str "None")) := rfl
theorem reprN_b {b : Bool} {P : Rv → Prop} : reprN [.d (.bool b)] P = P (.d (.str (rb b))) := rfl
theorem reprN_i {i : Int} {P : Rv → Prop} : reprN [.d (.int i)] P = (i.natAbs.log2 < 1920 ∧ P (.d (.str (ri i)))) := rfl
theorem reprN_t {xs : List Px} {P : Rv → Prop} : reprN [.d (.tuple xs)] P = (Sho 40 1000000 (.tuple xs) ∧ P (.d (.str (PyData.shown (.tuple xs))))) := rfl
end
end Dl
set_option Elab.async false
set_option maxRecDepth 100000
set_option linter.all false
set_option autoImplicit false
/-! // by a great int of either sign -/
namespace Dl
open PySem PySem.Spec PyProof.Rows L2
variable [TabF]
section
variable {X : Cx} {Δ : Dx}
def CDivB (_ j : Int) : Prop := j ≠ 0 ∧ j.natAbs.log2 < 9000
abbrev fdivB : OD := iD (fun i j => .int (i.fdiv j)) CDivB
theorem fdivB_i {i j : Int} {P : Rv → Prop} : fdivB (.int i) (.int j) P = (CDivB i j ∧ P (.d (.int (i.fdiv j)))) := rfl
end
end Dl
set_option Elab.async false
set_option maxRecDepth 100000
set_option linter.all false
set_option autoImplicit false
namespace Dl
open PySem L2
variable [TabF]
/-! ### exceptions of the program's own classes -/
theorem two {a b : Bool} (h : (a && b) = true) : a = true ∧ b = true := by
  cases a
  · cases h
  · exact ⟨rfl, h⟩
theorem xcA_of {K : PySem.W.Frag} {C : Addr} (h : xcA K C = true) : ∃ nm q N bs bm sn sub ab col dd k0 k1 k2 k3 k5, K.lookup C = some (excClassObj nm q C N bs bm true sn sub ab col dd k0 k1 k2 k3 k5 "ValueError.__new__") ∧ PySem.HandSPX.refsVE bm = true := by
  unfold xcA at h
  split at h
  · rename_i dd cd sl ho
    split at h
    · rename_i c bm k0 k1 k2 k3 n k5 hm hs
      obtain ⟨h1, h⟩ := two h
      obtain ⟨h2, h⟩ := two h
      obtain ⟨h3, h⟩ := two h
      obtain ⟨h4, h5⟩ := two h
      have h1 := of_decide_eq_true h1
      have h2 := of_decide_eq_true h2
      subst h1 h2
      obtain ⟨nm, bs, mro, ns, qn, hd, sn, sub, ab, col, dl⟩ := cd
      have e1 : hd = true := h3
      have e2 : dl = false := by
        have : (!dl) = true := h4
        cases dl
        · rfl
        · cases this
      have e3 : mro = .ref c :: bm := hm
      subst e1 e2 e3
      obtain ⟨l⟩ := sl
      have e4 : l = [k0, k1, k2, k3, some (.builtin "ValueError.__new__"), k5] := hs
      subst e4
      exact ⟨_, _, _, _, _, _, _, _, _, _, _, _, _, _, _, ho, h5⟩
    · cases h
  · cases h
structure XCls (K : PySem.W.Frag) (C : Addr) : Prop where
  o : OexC K C
  f : XfC K C
theorem xc_of {K : PySem.W.Frag} {C : Addr} (h : xcB K C = true) : XCls K C := by
  obtain ⟨h1, h⟩ := two h
  obtain ⟨h2, h⟩ := two h
  obtain ⟨h3, h⟩ := two h
  obtain ⟨h4, h5⟩ := two h
  have f := xfB_ok h5
  exact ⟨⟨xcA_of h1, of_decide_eq_true h2, f.exC, of_decide_eq_true h3, h4⟩, f⟩
/-- an exception, as the heap has it -/
def XR (mg : Str → Option Value) (F H : Hp) (x : Xn) (cls : Value) (d : Option Addr) : Prop :=
  ∃ C dd fs, mg x.cls = some (.ref C) ∧ cls = .ref C ∧ d = some dd ∧ H dd = some (.xd fs) ∧ ∀ f p, x.fields.lookup f = some p → ∃ v, fs.lookup f = some v ∧ Rp F v p
/-- contracts of defs that may raise -/
abbrev CnX := List Rv → Option Nat → (Rv → Option Nat → Prop) → (Xn → Option Nat → Prop) → Prop
def spX (K : PySem.W.Frag) (mg : Str → Option Value) (Pr : CnX) : Sp := fun vs H Q E => ∃ am F rs g P PX, Le F H ∧ Tb0 K F H ∧ (∀ n, g = some n → F am = none ∧ GenAt F H am n) ∧ Rss (dx0 K am g F H) am F rs vs ∧ Pr rs g P PX ∧
  (∀ r g' am' F' v H', P r g' → Le F F' → Fin (dx0 K am g F H) am' F' H' g' → Sl (dx0 K am g F H) am' F' H' r v → Q v H') ∧
  ∀ x g' am' F' H' cls d, PX x g' → Le F F' → Fin (dx0 K am g F H) am' F' H' g' → XR mg F' H' x cls d → E cls d H'
structure CalX (P : Program) (w : World) (K : PySem.W.Frag) (mg : Str → Option Value) (base : Heap) (k : Nat) (x : Str) (Pr : CnX) : Prop where
  ex : ∃ (f : Addr) (fd : FuncData) (ps : List Str), FnG P w K mg base (L2.CX P w) k f fd ps (spX K mg Pr) ∧ mg x = some (.ref f) ∧ PySem.W.keepIn K (.ref f) = true ∧ Binds K fd ps []
/-- what a body may let out: what the caller's end has room for -/
def WD (mg : Str → Option Value) (Δ : Dx) : WX := fun cls d _ H => ∃ x g am F, Fin Δ am F H g ∧ XR mg F H x cls d ∧ Δ.XE x g am F H
/-! ### def __init__(self, y): self.f = y -/
def spIni (C : Addr) (fl : Str) : Sp := fun vs H Q _ => ∃ a v, vs = [.ref a, v] ∧ H a = some (exo a C none) ∧ ∀ dx, H dx = none → dx ≠ a → Q .non (upd (upd H dx (exd dx [(fl, v)])) a (exo a C (some dx)))
theorem ini_ok {P : Program} {w : World} {K : PySem.W.Frag} {mg : Str → Option Value} {base : Heap} {qual : Str} {st : Stmt} {f C : Addr} {fd : FuncData} {N ps : List Str} {fl : Str} (F : FunD K "__init__" qual (defArgs st) (defBody st) (defScope st) [] [] f fd)
    (S : FnScope N ps (defScope st)) (h2 : ps.length = 2) (T : OexC K C) (na : PySem.W.findIn K (.ref C) fl = some none)
    (hb : ∀ (cdv : Value) (A : Around) (outer : List Env) (s : Shared) (H : Hp) (E : XK), PSs (cxOf CX0 P w K mg base N qual (defScope st) f cdv A outer s H E).nox (defBody st) (tOst K fl (tVar 0) (tVar 1))) : FnOk P w K mg base CX0 1 f fd ps (spIni C fl) := by
  refine F.ok S (fun vs H Q E h => ?_) (fun cdv A outer s H vs Q E hr h => ⟨_, PSs.nox (hb cdv A outer s H E), ?_⟩)
  · obtain ⟨a, v, rfl, _⟩ := h
    exact h2.symm
  · obtain ⟨a, v, rfl, ha, q⟩ := h
    refine ⟨v, rfl, .ref a, rfl, a, C, rfl, T, na, .inl ⟨ha, fun dx n ne => q dx n ne⟩⟩
/-! ### raise C(e) -/
def rz (rs : List Rv) (k : Px → Prop) : Prop := match rs with
  | [.d p] => k p
  | _ => False
def sRaise (x fl : Str) (fr : WA) : WS := fun c _ X => fr c (fun rs c1 => rz rs fun p => X ⟨x, [(fl, p)]⟩ c1.g) X
section
variable {X : Cx} {Δ : Dx} {e : Expr} {es : List Expr} {fr : WA} {pos : Pos}
theorem ds_raise {x fl : Str} {C fI : Addr} {fd : FuncData} {ps : List Str} {p pos2 : Pos} (hc : X.calm = true) (tk : Takes X (WD X.mg Δ)) (T : XCls X.K C) (iC : PySem.W.findIn X.K (.ref C) "__init__" = some (some (.ref fI))) (tI : PySem.W.typeIn X.K (.ref fI) = some (.type "function"))
    (F1 : FnOk X.prog X.w X.K X.mg X.base CX0 1 fI fd ps (spIni C fl)) (hb : Binds X.K fd ps []) (hr : RoomG 2 X.A) (hg : Gl X x) (hm : X.mg x = some (.ref C)) (ha : PA X [e] (tA Δ fr))
    (hdb : (x == ("__debug__" : Str)) = false := by decide) (he : starEach [e] X.env = (false, eval e X.env) :: starEach [] X.env := by rfl) (hpl : (backTo pos (starEach [] X.env)).any (·.1) = false := by rfl) :
    PS X (.Raise (some (.Call (.Name x p) [e] [] pos)) none pos2) (tS Δ (sRaise x fl fr)) := by
  refine (ps_raise hc tk (pmk_oex (dvs := []) T.o iC tI F1 hr.toRoom hb .nil pass0 hg hm ha hdb he hpl)).imp fun D σ H ⟨am, F, c, P, XX, ok, hf, kf, kx⟩ => ?_
  refine ⟨am, F, c, _, XX, ok, hf, fun rs c1 F1 vs H1 p1 l1 o1 s1 => ?_, kx am⟩
  cases s1 with
  | nil => exact p1.elim
  | gen _ => exact p1.elim
  | scr _ _ => exact p1.elim
  | @d y v rs2 vs2 rv rest =>
    cases rest with
    | d _ _ => exact p1.elim
    | gen _ => exact p1.elim
    | scr _ _ => exact p1.elim
    | nil =>
      have p1 : XX ⟨x, [(fl, y)]⟩ c1.g := p1
      refine ⟨(by decide : (1 : Nat) ≤ 1000), fun a na => ⟨a, v, rfl, upd_same, fun dx nd ne => ⟨rfl, dx, [(fl, v)], upd_same, ?_, ?_, ?_⟩⟩⟩
      · rw [upd_ne ne, upd_same]
      · rw [upd_ne ne] at nd
        exact nd
      · rw [upd_ne ne] at nd
        have eH : upd (del (upd (upd (upd H1 a (exo a C none)) dx (exd dx [(fl, v)])) a (exo a C (some dx))) a) dx (.xd [(fl, v)]) = upd H1 dx (.xd [(fl, v)]) := by
          funext b
          by_cases hb : b = dx
          · rw [hb, upd_same, upd_same]
          · rw [upd_ne hb, upd_ne hb]
            by_cases hc : b = a
            · rw [hc, del_same, na]
            · rw [del_ne hc, upd_ne hc, upd_ne hb, upd_ne hc]
        rw [eH]
        have fin := (o1.alloc nd (.xd [(fl, v)])).fin
        refine ⟨⟨x, [(fl, y)]⟩, c1.g, am, F1, fin, ⟨C, dx, _, hm, rfl, rfl, upd_same, fun f q hq => ?_⟩, kx am _ _ _ _ p1 l1 fin⟩
        by_cases hf : f = fl
        · subst hf
          have : some y = some q := by
            rw [← hq]
            simp [List.lookup]
          cases this
          exact ⟨v, by simp [List.lookup], rv⟩
        · have h0 : (f == fl) = false := by simpa using hf
          have hq : ([(fl, y)] : List (Str × Px)).lookup f = some q := hq
          rw [List.lookup, h0] at hq
          cases hq
/-! ### a call that may raise -/
def eCallX (Pr : CnX) (f : WA) : WE := fun c P X => f c (fun rs c1 => Rv.gen ∉ rs ∧ Pr rs none (fun r _ => r ≠ .gen ∧ P r c1) fun x _ => X x c1.g) X
theorem Ok.on {am : Addr} {F : Hp} {σ : St} {H : Hp} {c : Cf} (k : Ok Δ am F σ H c) {g' : Option Nat} {am' : Addr} {F' H' : Hp} (l : Le F F') (fn : Fin (dx0 Δ.K am none F H) am' F' H' g') : Ok Δ am F' σ H' c :=
  (k.back (g := none) (r := .d .none) (v := .non) (.inl rfl) l fn .non (fun z => nomatch z)).1
theorem de_callX {k : Nat} {x : Str} {p : Pos} {Pr : CnX} (C : CalX X.prog X.w X.K X.mg X.base k x Pr) (tk : Takes X (WD X.mg Δ)) (hK : Δ.K = X.K) (hr : RoomG k X.A) (hg : Gl X x) (ha : PA X (e :: es) (tA Δ fr)) (hdb : (x == ("__debug__" : Str)) = false := by decide)
    (he : starEach (e :: es) X.env = (false, eval e X.env) :: starEach es X.env := by rfl) (hpl : (backTo pos (starEach es X.env)).any (·.1) = false := by rfl) :
    PE X (.Call (.Name x p) (e :: es) [] pos) (tE Δ (eCallX Pr fr)) := by
  obtain ⟨f, fd, ps, h1, h2, h3, h4⟩ := C.ex
  refine (pe_callX (E := fun cls d H => WD X.mg Δ cls d [] H) h1 hr hg h2 h3 h4 (passes_call tk fun _ _ _ _ h => h) ha hdb he hpl).imp fun σ H Q ⟨am, F, c, P, XX, ok, hf, kq, kx⟩ => ?_
  refine ⟨am, F, c, _, XX, ok, hf, fun rs c1 F1 vs H1 p1 l1 o1 s1 => ?_, kx⟩
  show spX X.K X.mg Pr (vs ++ []) H1 Q _
  rw [List.append_nil]
  refine ⟨am, F1, rs, none, _, _, o1.fh, o1.tbs hK, fun n z => (nomatch z), s1.to hK (fun _ => rfl), p1.2, fun r g' am' F' v H' pr l fn s => ?_, fun y g' am' F' H' cls d py l fn xr => ?_⟩
  · obtain ⟨o', s'⟩ := o1.back (g := none) (.inl rfl) l (hK ▸ fn) (hK ▸ s) pr.1
    exact kq r c1 F' v H' pr.2 (l1.trans l) o' s'
  · have fin := (o1.on l (hK ▸ fn)).fin
    exact ⟨y, c1.g, am, F', fin, xr, kx y c1.g F' H' py (l1.trans l) fin⟩
end
/-! ### a def that may raise -/
section
variable {P : Program} {w : World} {K : PySem.W.Frag} {mg : Str → Option Value} {base : Heap}
theorem def_okX {x qual : Str} {st : Stmt} {f : Addr} {fd : FuncData} {N ps : List Str} {k : Nat} {Pr : CnX} (nog : Bool) (F : FunD K x qual (defArgs st) (defBody st) (defScope st) [] [] f fd) (S : FnScope N ps (defScope st)) (hmg : mg x = some (.ref f)) (bi : Binds K fd ps [])
    (fw : WS) (len : ∀ rs g Q Z, Pr rs g Q Z → rs.length = ps.length) (hn : nog = true → ∀ rs g Q Z, Pr rs g Q Z → g = none) (spec : ∀ rs g Q Z, Pr rs g Q Z → fw (startC N.length rs g) (endP Q) Z)
    (hbody : ∀ (cdv : Value) (A : Around) (outer : List Env) (s : Shared) (H : Hp) (E : XK) (Δ : Dx), RoomG k (A.deeper (PyProof.Rows.envOfC qual (defScope st) s.heap.objs.size f cdv)) → Δ.K = K → (nog = true → Δ.a0 = none) →
      Takes (cxOf (L2.CX P w) P w K mg base N qual (defScope st) f cdv A outer s H E) (WD mg Δ) → PSs (cxOf (L2.CX P w) P w K mg base N qual (defScope st) f cdv A outer s H E) (defBody st) (tS Δ fw)) : CalX P w K mg base (k + 1) x Pr := by
  refine ⟨f, fd, ps, fnG_of F S (fun vs H Q E h => ?_) (fun cdv A outer s H vs Q E hr h => ?_), hmg, F.kp, bi⟩
  · obtain ⟨am, G, rs, g, q, z, _, _, _, h3, h4, _⟩ := h
    rw [← h3.length]
    exact len rs g q z h4
  · obtain ⟨am, G, rs, g, q, z, h1, ht, h2, h3, h4, h5, h6⟩ := h
    let Δ : Dx := { dx0 K am g G H with XE := fun y g' am' F' H' => ∀ cls d, XR mg F' H' y cls d → E cls d H' }
    have tk : Takes (cxOf (L2.CX P w) P w K mg base N qual (defScope st) f cdv A outer s H E) (WD mg Δ) :=
      (takes_of (E := E) rfl rfl rfl rfl).imp fun cls d σ H' ⟨y, g', am', F', fn, xr, ex⟩ => ex cls d xr
    have s0 := start_ok (N := N) h1 ht h2 h3
    have s1 : Ok Δ am G (L2.start N vs) H (startC N.length rs g) := ⟨s0.fh, s0.f0, s0.fr, s0.tb, s0.pr, s0.al, s0.gn, s0.len, s0.sv, s0.di⟩
    refine ⟨_, hbody cdv A outer s H E Δ hr rfl (fun e => by
      show g.map (fun _ => am) = none
      rw [hn e rs g q z h4]
      rfl) tk, am, G, _, _, _, s1, spec rs g q z h4, ⟨fun c am' F' σ' H' p l o => ?_, fun _ _ _ _ _ z => z.elim, fun _ _ _ _ _ z => z.elim, fun r g' am' F' H' v p l fn s => ?_⟩, fun am' y g' F' H' py l fn cls d xr => ?_⟩
    · have fn := o.fin
      exact h5 _ _ am' F' _ H' p l ⟨fn.fh, fn.f0, fn.fr, fn.tb, fn.pr, fn.al, fn.gn⟩ .non
    · exact h5 r g' am' F' v H' p l ⟨fn.fh, fn.f0, fn.fr, fn.tb, fn.pr, fn.al, fn.gn⟩ (by
        cases r with
        | d y => exact s
        | gen => exact s
        | scr ns => exact s
        | dic D => exact s
        | own xs => exact s)
    · exact h6 y g' am' F' H' cls d py l ⟨fn.fh, fn.f0, fn.fr, fn.tb, fn.pr, fn.al, fn.gn⟩ xr
end
end Dl
set_option Elab.async false
set_option maxRecDepth 100000
set_option linter.all false
set_option autoImplicit false
namespace Dl
open PySem L2 PySem.Spec PyProof.Rows
variable [TabF]
/-! ### try, with clauses that name what they catch -/
/-- a clause: the class, the slot of its name, what its suite does -/
abbrev Cla := Value × Nat × (Addr → Value → Option Addr → TS)
/-- the ends of a suite: the name goes -/
def endsA (D : Ends) (i : Nat) : Ends := { nx := fun τ G => D.nx (τ.set i none) G, rt := D.rt, bk := fun τ G => D.bk (τ.set i none) G, ct := fun τ G => D.ct (τ.set i none) G }
def wTry (K : PySem.W.Frag) (W0 : WX) (D : Ends) : List Cla → WX
  | [] => W0
  | (c, i, ts) :: more => fun cls d σ H => ∃ hit, PySem.W.exmOne K cls c = some hit ∧ (hit = true → ∀ a, H a = none → ts a cls d (endsA D i) (σ.set i (some (.ref a))) H) ∧ (hit = false → wTry K W0 D more cls d σ H)
inductive Clas (X : Cx) : List ExceptHandler → List Cla → Prop
  | nil : Clas X [] []
  | cons {x n : Str} {c : Value} {i : Nat} {ts : Addr → Value → Option Addr → TS} {first : Stmt} {suite : List Stmt} {np hpos : Pos} {hds : List ExceptHandler} {l : List Cla} (slot : X.N[i]? = some n) (loc : X.env.kindOf n = some .local) (nm : Names X x c)
      (run : ∀ (a : Addr) (o : Obj) (cls : Value) (d : Option Addr) (pn : List (Addr × Obj)), Zc cls d o → (∃ vs, o.data = .fields vs) → PSs (X.suite a ((a, o) :: pn)) (first :: suite) (ts a cls d)) (rest : Clas X hds l) :
      Clas X (.ExceptHandler (some (.Name x np)) (some n) (first :: suite) hpos :: hds) ((c, i, ts) :: l)
  | consN {x : Str} {c : Value} {i : Nat} {ts : Addr → Value → Option Addr → TS} {first : Stmt} {suite : List Stmt} {np hpos : Pos} {hds : List ExceptHandler} {l : List Cla} (far : X.N.length ≤ i) (nm : Names X x c)
      (run : ∀ (a : Addr) (o : Obj) (cls : Value) (d : Option Addr) (pn : List (Addr × Obj)), Zc cls d o → (∃ vs, o.data = .fields vs) → PSs (X.suite a ((a, o) :: pn)) (first :: suite) (ts a cls d)) (rest : Clas X hds l) :
      Clas X (.ExceptHandler (some (.Name x np)) none (first :: suite) hpos :: hds) ((c, i, ts) :: l)
section
variable {X : Cx} {body : List Stmt} {h1 : ExceptHandler} {hds : List ExceptHandler} {l : List Cla} {pos : Pos} {tb : WX → TS} {W0 : WX}
/-- what the clauses do with an exception that has landed -/
theorem run_clauses {pins : List (Addr × Obj)} {σ : L2.St} {H : Hp} {D : Ends} {a : Addr} {B : Heap} {cls : Value} {d : Option Addr} {sI s : Shared} {g : Heap} (stk : X.stack = X.env :: X.outer) (fr : X.env.frame = some X.env.locals) (nd : X.N.Nodup) (tk : Takes X W0) (good : X.Ok)
    (J : L2.Inv X pins σ H sI) (nb : ∀ b o, sI.heap.get? b = some o → b ∉ frs X.stack → B.get? b = some o) (fl : HandSPX.FlyingZ B (X.env :: X.outer) a (Zc cls d) g) (up : sI.heap.UpToSlots g) (os : s.os = sI.os) (ag : AllBare s.gens) (na : H a = none) :
    ∀ {hds : List ExceptHandler} {l : List Cla}, Clas X hds l → wTry X.K W0 D l cls d σ H → wpAny (model X.prog X.w) X.A (handleBy (.ref a) X.env hds) (SP X pins D) X.xe { s with heap := g } := by
  have frames : X.A.frames = some (X.env :: X.outer) := by rw [good.frames, stk]
  have inv : ∀ {g' : Heap}, HandSPX.FlyingZ B (X.env :: X.outer) a (Zc cls d) g' → sI.heap.UpToSlots g' → L2.Inv X pins σ H { s with heap := g' } := fun q u => J.landed nb q.1 u os ag
  have off : ∀ {g' : Heap}, HandSPX.FlyingZ B (X.env :: X.outer) a (Zc cls d) g' → ∃ o vs, g'.get? a = some o ∧ Zc cls d o ∧ o.data = .fields vs ∧ a ≠ X.env.locals ∧ a ∉ X.fs := fun {g'} q => by
    obtain ⟨o, vs, e1, e2, e3⟩ := q.there
    have far : a ∉ frs (X.env :: X.outer) := fun hm => by
      obtain ⟨_, o', e4, e5⟩ := q.2.2.1.mem hm
      rw [e1] at e4
      cases e4
      exact e5 _ e3
    refine ⟨o, vs, e1, e2, e3, fun z => far (List.mem_filterMap.mpr ⟨X.env, .head _, by rw [fr, z]⟩), fun hm => ?_⟩
    obtain ⟨x, hx, q⟩ := List.mem_filterMap.mp hm
    exact far (List.mem_filterMap.mpr ⟨x, .tail _ hx, q⟩)
  obtain ⟨o, vs, e1, e2, e3, n1, n2⟩ := off fl
  have suit := (inv fl up).suite e1 e3 na n1 n2
  intro hds l K
  induction K with
  | nil =>
    intro w
    refine wpAny_handleBy_nil ?_
    obtain ⟨k1, k2, k3, o', vs', t, ot, ts', he, hz, hd, hv, hr⟩ := id fl
    have on : wpAny (model X.prog X.w) X.A (setFlight (.ref a) X.env.frame) (fun _ s' => wpAny (model X.prog X.w) X.A (throw (.ref a) : Sem Flow) (SP X pins D) X.xe s') X.xe { s with heap := g } := by
      rw [fr]
      exact HandSPX.setFlight_upZ fl fun g' held up' => wpAny_throw (tk _ _ ⟨a, B, sI, pins, σ, H, cls, d, rfl, J, nb, up.trans up', .inr (.inr (by rw [stk]; exact held)), na, os, ag, w⟩)
    unfold PySem.passOn
    refine wpAny_bind (wpAny_field he hd hv ?_)
    rw [if_neg (by simp : ¬ ((Value.ref t == Value.none) = true))]
    first
      | exact wpAny_bind on
      | exact wpAny_bind (wpAny_pure (wpAny_bind on))
  | @cons x n c i ts first suite np hpos hds2 l2 slot loc nm run rest ih =>
    intro w
    obtain ⟨hit, hx, yes, no⟩ := w
    refine wpAny_handleBy_cons (codeAny_handlers_test ?_) (fun z => nomatch z)
    have ty : PySem.W.Looks (model X.prog X.w) g (typeOf (.ref a)) cls := fun _ _ _ _ k q => wpAny_typeOf_ref (k _ _ e1) (by rw [e2.1]; exact q)
    have got : ∀ {Q E : Value → Shared → Prop}, Q c { s with heap := g } → wpAny (model X.prog X.w) (X.A.mark (some (.ref a))) (eval (.Name x np) X.env) Q E { s with heap := g } := fun {Q E} q => by
      obtain ⟨gl, db, m | ⟨m, v, nn⟩⟩ := nm
      · exact ld_glob (X := X.suite a ((a, o) :: (X.pn ++ pins))) suit gl m q db
      · exact ld_blt (X := X.suite a ((a, o) :: (X.pn ++ pins))) suit gl m v q nn db
    refine got ((PySem.W.exm_one (M := model X.prog X.w) (inv fl up).kIn ty hx).here ?_)
    cases hit with
    | false => exact ih (no rfl)
    | true =>
      refine codeAny_handlers_suite_as (HandSPX.lands_againZ fl fun g2 fl2 up2 => ?_)
      obtain ⟨o2, vs2, f1, f2, f3, m1, m2⟩ := off fl2
      have suit2 := (inv fl2 (up.trans up2)).suite f1 f3 na m1 m2
      refine store_ok (v := .ref a) (X := X.suite a ((a, o2) :: (X.pn ++ pins))) suit2 nd slot (Or.inl loc) rfl (fun s5 S5 => ?_) (.inr loc)
      have gone : ∀ {σ6 : L2.St} {H6 : Hp} {s6 : Shared} {Q : Shared → Prop}, L2.Inv (X.suite a ((a, o2) :: (X.pn ++ pins))) [] σ6 H6 s6 → (∀ s7, L2.Inv X pins (σ6.set i none) H6 s7 → Q s7) →
          wpAny (model X.prog X.w) X.A (do bindName X.env n .none; unbindBehindTheSuite X.env n hpos) (fun _ s7 => Q s7) X.xe s6 := fun S6 q => gone_ok (S6.unsuite good) nd slot loc q
      refine wpAny_mono ((run a o2 cls d (X.pn ++ pins) f2 ⟨_, f3⟩).run [] s5 _ H _ S5 (yes rfl a na)) (fun fl6 s6 sp => ?_) (fun _ _ z => z.elim)
      match fl6, sp with
      | .next, ⟨_, _, S6, q6⟩ => exact gone S6 fun _ J7 => ⟨_, _, J7, q6⟩
      | .brk, ⟨_, _, S6, q6⟩ => exact gone S6 fun _ J7 => ⟨_, _, J7, q6⟩
      | .cont, ⟨_, _, S6, q6⟩ => exact gone S6 fun _ J7 => ⟨_, _, J7, q6⟩
      | .ret _, ⟨_, _, _, S6, r6, q6⟩ => exact gone S6 fun _ J7 => ⟨_, _, _, J7, r6, q6⟩
  | @consN x c i ts first suite np hpos hds2 l2 far nm run rest ih =>
    intro w
    obtain ⟨hit, hx, yes, no⟩ := w
    refine wpAny_handleBy_cons (codeAny_handlers_test ?_) (fun z => nomatch z)
    have ty : PySem.W.Looks (model X.prog X.w) g (typeOf (.ref a)) cls := fun _ _ _ _ k q => wpAny_typeOf_ref (k _ _ e1) (by rw [e2.1]; exact q)
    have got : ∀ {Q E : Value → Shared → Prop}, Q c { s with heap := g } → wpAny (model X.prog X.w) (X.A.mark (some (.ref a))) (eval (.Name x np) X.env) Q E { s with heap := g } := fun {Q E} q => by
      obtain ⟨gl, db, m | ⟨m, v, nn⟩⟩ := nm
      · exact ld_glob (X := X.suite a ((a, o) :: (X.pn ++ pins))) suit gl m q db
      · exact ld_blt (X := X.suite a ((a, o) :: (X.pn ++ pins))) suit gl m v q nn db
    refine got ((PySem.W.exm_one (M := model X.prog X.w) (inv fl up).kIn ty hx).here ?_)
    cases hit with
    | false => exact ih (no rfl)
    | true =>
      refine codeAny_handlers_suite (HandSPX.lands_againZ fl fun g2 fl2 up2 => ?_)
      obtain ⟨o2, vs2, f1, f2, f3, m1, m2⟩ := off fl2
      have suit2 := (inv fl2 (up.trans up2)).suite f1 f3 na m1 m2
      have keep : ∀ {τ : L2.St} {u : Option V}, τ.length = X.N.length → τ.set i u = τ := fun {τ u} e => List.set_eq_of_length_le (by rw [e]; exact far)
      have y1 := yes rfl a na
      rw [keep J.len] at y1
      refine wpAny_mono ((run a o2 cls d (X.pn ++ pins) f2 ⟨_, f3⟩).run [] _ _ H _ suit2 y1) (fun fl6 s6 sp => ?_) (fun _ _ z => z.elim)
      match fl6, sp with
      | .next, ⟨σ6, _, S6, q6⟩ => exact ⟨_, _, S6.unsuite good, by have q6 : D.nx (σ6.set i none) _ := q6; rw [keep S6.len] at q6; exact q6⟩
      | .brk, ⟨σ6, _, S6, q6⟩ => exact ⟨_, _, S6.unsuite good, by have q6 : D.bk (σ6.set i none) _ := q6; rw [keep S6.len] at q6; exact q6⟩
      | .cont, ⟨σ6, _, S6, q6⟩ => exact ⟨_, _, S6.unsuite good, by have q6 : D.ct (σ6.set i none) _ := q6; rw [keep S6.len] at q6; exact q6⟩
      | .ret _, ⟨_, _, _, S6, r6, q6⟩ => exact ⟨_, _, _, S6.unsuite good, r6, q6⟩
theorem ps_tryA (stk : X.stack = X.env :: X.outer) (fr : X.env.frame = some X.env.locals) (nd : X.N.Nodup) (tk : Takes X W0)
    (hb : ∀ (W : WX) (pn : List (Addr × Obj)) (xe : Value → Shared → Prop), Takes (X.tr pn xe) W → PSs (X.tr pn xe) body (tb W))
    (hh : Clas X (h1 :: hds) l) : PS X (.Try body (h1 :: hds) [] [] pos) (fun D σ H => tb (wTry X.K W0 D l) D σ H) := by
  refine ⟨fun pins s σ H D I h => ?_⟩
  have good := I.ok
  have frames : X.A.frames = some (X.env :: X.outer) := by rw [good.frames, stk]
  have caught : ∀ e s', XE (X.tr (X.pn ++ pins) fun _ _ => False) (wTry X.K W0 D l) e s' → wpAny (model X.prog X.w) X.A (noteFrame e X.env) (fun _ s₂ => wpAny (model X.prog X.w) X.A (setFlight e none) (fun _ s₃ =>
      wpAny (model X.prog X.w) X.A (handleBy e X.env (h1 :: hds)) (SP X pins D) X.xe s₃) X.xe s₂) X.xe s' := by
    rintro _ s' ⟨a, B, sI, pins', σ', H', cls, d, rfl, J, nb, up, sky, na, os, ag, w⟩
    have J' : L2.Inv X pins σ' H' sI := J.ofTry good
    have sky' : Sky B (X.env :: X.outer) a (Zc cls d) X.env.locals s'.heap := stk ▸ sky
    exact Sky.land Zc.steady frames fr sky' fun g fl up' => run_clauses stk fr nd tk good J' nb fl (up.trans up') os ag na hh w
  refine wpAny_Try_except (wpAny_mono ((hb (wTry X.K W0 D l) (X.pn ++ pins) (fun e s' => wpAny (model X.prog X.w) X.A (noteFrame e X.env) (fun _ s₂ => wpAny (model X.prog X.w) X.A (setFlight e none) (fun _ s₃ =>
    wpAny (model X.prog X.w) X.A (handleBy e X.env (h1 :: hds)) (SP X pins D) X.xe s₃) X.xe s₂) X.xe s') (fun e s' x => caught e s' ?_)).run [] s σ H D (I.toTry _) h) (fun f s1 sp => ?_) (fun _ _ z => z))
  · obtain ⟨a, B, sI, pins', σ', H', cls, d, eq, J, more⟩ := x
    exact ⟨a, B, sI, pins', σ', H', cls, d, eq, ⟨J.ok.ofTry.toTry _ _, J.os, J.bare, J.base, J.loc, J.cell, J.free, J.freeC, J.pin, J.hok, J.len⟩, more⟩
  · match f, sp with
    | .next, ⟨_, _, J, q⟩ => exact wpAny_execs_nil ⟨_, _, J.ofTry good, q⟩
    | .brk, ⟨_, _, J, q⟩ => exact ⟨_, _, J.ofTry good, q⟩
    | .cont, ⟨_, _, J, q⟩ => exact ⟨_, _, J.ofTry good, q⟩
    | .ret _, ⟨_, _, _, J, r, q⟩ => exact ⟨_, _, _, J.ofTry good, r, q⟩
end
end Dl
set_option Elab.async false
set_option maxRecDepth 100000
set_option linter.all false
set_option autoImplicit false
namespace Dl
open PySem L2
variable [TabF]
/-! ### try: NAME = f(..), and clauses `except C as e: NAME = e.field` -/
section
variable {X : Cx} {Δ : Dx}
theorem Ok.drop {am : Addr} {F : Hp} {σ : L2.St} {H : Hp} {c : Cf} (k : Ok Δ am F σ H c) (i : Nat) (o : Option V) : Ok Δ am F (σ.set i o) H ⟨c.env.set i none, c.g⟩ where
  fh := k.fh
  f0 := k.f0
  fr := k.fr
  tb := k.tb
  pr := k.pr
  al := k.al
  gn := k.gn
  len := by
    show (σ.set i o).length = (c.env.set i none).length
    rw [List.length_set, List.length_set]
    exact k.len
  sv := fun j r e => by
    have e : (c.env.set i none)[j]? = some (some r) := e
    by_cases h : i = j
    · subst h
      rw [List.getElem?_set] at e
      simp only [if_true] at e
      split at e <;> cases e
    · rw [List.getElem?_set_ne h] at e
      rw [List.getElem?_set_ne h]
      exact k.sv j r e
  di := fun a b xs ys n e1 e2 m1 m2 => by
    have e1 : (c.env.set i none)[a]? = some (some xs) := e1
    have e2 : (c.env.set i none)[b]? = some (some ys) := e2
    have key : ∀ {j : Nat} {r : Rv}, (c.env.set i none)[j]? = some (some r) → i ≠ j ∧ c.env[j]? = some (some r) := fun {j r} e => by
      by_cases h : i = j
      · subst h
        rw [List.getElem?_set] at e
        simp only [if_true] at e
        split at e <;> cases e
      · rw [List.getElem?_set_ne h] at e
        exact ⟨h, e⟩
    obtain ⟨n1, e1⟩ := key e1
    obtain ⟨n2, e2⟩ := key e2
    rw [List.getElem?_set_ne n1, List.getElem?_set_ne n2]
    exact k.di a b xs ys n e1 e2 m1 m2
theorem takes_no : Takes X (fun _ _ _ _ => False) := fun _ _ h => by
  obtain ⟨_, _, _, _, _, _, _, _, _, _, _, _, _, _, _, _, w⟩ := h
  exact w.elim
end
/-! ### what a def wants to know of the classes that it raises and catches -/
structure XKit (P : Program) (w : World) (K : PySem.W.Frag) (mg : Str → Option Value) (base : Heap) (x fl : Str) (C : Addr) : Prop where
  g : mg x = some (.ref C)
  c : XCls K C
  na : PySem.W.findIn K (.ref C) fl = some none
  ini : ∃ (fI : Addr) (fd : FuncData) (ps : List Str), PySem.W.findIn K (.ref C) "__init__" = some (some (.ref fI)) ∧ PySem.W.typeIn K (.ref fI) = some (.type "function") ∧ FnOk P w K mg base CX0 1 fI fd ps (spIni C fl) ∧ Binds K fd ps []
theorem xkit_of {P : Program} {w : World} {K : PySem.W.Frag} {mg : Str → Option Value} {base : Heap} {x fl : Str} {C fI : Addr} {fd : FuncData} {ps : List Str} (g : mg x = some (.ref C)) (c : xcB K C = true) (na : PySem.W.findIn K (.ref C) fl = some none) (m : Meth K C "__init__" fI)
    (ok : OexC K C → FnOk P w K mg base CX0 1 fI fd ps (spIni C fl)) (b : Binds K fd ps []) : XKit P w K mg base x fl C :=
  ⟨g, xc_of c, na, fI, fd, ps, m.at_, by have h := m.fn; unfold PySem.W.isFn at h; exact beq_iff_eq.mp h, ok (xc_of c).o, b⟩
section
variable {X : Cx} {Δ : Dx} {e : Expr} {fr : WA} {pos : Pos}
theorem ds_raiseK {x fl : Str} {C : Addr} {p pos2 : Pos} (kit : XKit X.prog X.w X.K X.mg X.base x fl C) (hc : X.calm = true) (tk : Takes X (WD X.mg Δ)) (hr : RoomG 2 X.A) (hg : Gl X x) (ha : PA X [e] (tA Δ fr))
    (hdb : (x == ("__debug__" : Str)) = false := by decide) (he : starEach [e] X.env = (false, eval e X.env) :: starEach [] X.env := by rfl) (hpl : (backTo pos (starEach [] X.env)).any (·.1) = false := by rfl) :
    PS X (.Raise (some (.Call (.Name x p) [e] [] pos)) none pos2) (tS Δ (sRaise x fl fr)) := by
  obtain ⟨fI, fd, ps, h1, h2, h3, h4⟩ := kit.ini
  exact ds_raise hc tk kit.c h1 h2 h3 h4 hr hg kit.g ha hdb he hpl
theorem names_of {x fl : Str} {C : Addr} (kit : XKit X.prog X.w X.K X.mg X.base x fl C) (hg : Gl X x) (hdb : (x == ("__debug__" : Str)) = false := by decide) : Names X x (.ref C) := ⟨hg, hdb, .inl kit.g⟩
end
end Dl
set_option Elab.async false
set_option maxRecDepth 100000
set_option linter.all false
set_option autoImplicit false
namespace Dl
open PySem L2
variable [TabF]
/-! ### x, y, z = [..], d, [..]: the lists stay the names' own -/
def rd (r : Rv) (k : Px → Prop) : Prop := match r with
  | .d y => k y
  | _ => False
end Dl
set_option Elab.async false
set_option maxRecDepth 100000
set_option linter.all false
set_option autoImplicit false
namespace Dl
open PySem L2
variable [TabF]
/-! ### range(i, j, -1) -/
def dnX (hi : Int) : Nat → List Px
  | 0 => []
  | n + 1 => .int hi :: dnX (hi - 1) n
def iRg3 (f : WA) : WI := fun c P X => f c (fun rs c1 => match rs with
  | [.d (.int i), .d (.int j), .d (.int k)] => k = -1 ∧ smI i ∧ smI j ∧ P (dnX i (i - j).toNat) c1
  | _ => False) X
section
open PySem.Spec PyProof.Rows
variable {X : Cx} {Δ : Dx} {a b e : Expr} {fa fb : WE} {pos p2 : Pos}
/-! ### xs[::-1], a list -/
def revLD (x : Px) (k : Rv → Prop) : Prop := match x with
  | .list xs => k (.own xs.reverse)
  | _ => False
def eRevL (fa : WE) : WE := fun c P X => fa c (fun r1 c1 => asD r1 fun x => revLD x fun r => P r c1) X
theorem revLD_l {xs : List Px} {k : Rv → Prop} : revLD (.list xs) k = k (.own xs.reverse) := rfl
/-- name[i] op= e, over ints -/
def itM (xs : List Px) (k : Int) (f : Int → Prop) : Prop := k < 0 ∧ -(xs.length : Int) ≤ k ∧ match xs[(k + (xs.length : Int)).toNat]? with
  | some (.int z) => f z
  | _ => False
def sSetIM (i : Nat) (o : Int → Int → Int) (fi fe : WE) : WS := fun c P X => isOwn c i ∧ fi c (fun r c1 => asD r fun x => match x with
  | .int k => ownD c1 i fun xs => itM xs k fun z => fe c1 (fun r2 c2 => asD r2 fun y => match y with
    | .int d => ownD c2 i fun ys => (match ixN ys.length k with
      | some j => P (.nx (putE c2 i (.own (ys.set j (.int (o z d))))))
      | none => False)
    | _ => False) X
  | _ => False) X
theorem sSetIM_eq {i : Nat} {o : Int → Int → Int} {fi fe : WE} {c : Cf} {P : Fl → Prop} {XX : XP} : sSetIM i o fi fe c P XX = (isOwn c i ∧ fi c (fun r c1 => asI r fun k => ownD c1 i fun xs => itM xs k fun z => fe c1 (fun r2 c2 => asI r2 fun d => ownD c2 i fun ys => ∃ j, ixN ys.length k = some j ∧ P (.nx (putE c2 i (.own (ys.set j (.int (o z d))))))) XX) XX) := by
  have hI : ∀ (r : Rv) (g : Int → Prop), (asD r fun x => match x with
      | .int k => g k
      | _ => False) = asI r g := fun r g => by
    cases r with
    | d x => cases x <;> rfl
    | own xs => rfl
    | gen => rfl
    | scr ns => rfl
    | dic D => rfl
  unfold sSetIM
  congr 2
  funext r c1
  refine (hI r _).trans ?_
  congr 1
  funext k
  congr 1
  funext xs
  congr 1
  funext z
  congr 1
  funext r2 c2
  refine (hI r2 _).trans ?_
  congr 1
  funext d
  congr 1
  funext ys
  apply propext
  constructor
  · intro h
    split at h
    · rename_i j ej
      exact ⟨j, ej, h⟩
    · exact h.elim
  · rintro ⟨j, ej, h⟩
    rw [ej]
    exact h
end
/-! ### zip of two tuples -/
def iZpT (f : WA) : WI := fun c P X => f c (fun rs c1 => match rs with
  | [.d (.tuple xs), .d (.tuple ys)] => P (zipX xs ys) c1
  | _ => False) X
end Dl
set_option Elab.async false
set_option maxRecDepth 100000
set_option linter.all false
set_option autoImplicit false
namespace Dl
open PySem PySem.Spec PyProof.Rows L2
variable [TabF]
/-! ### dicts with int keys that a name holds -/
def lookD (kvs : List (Int × Px)) (k : Int) : Option Px := (kvs.find? fun p => decide (p.1 = k)).map (·.2)
def putD (kvs : List (Int × Px)) (k : Int) (y : Px) : List (Int × Px) :=
  if (kvs.any fun p => decide (p.1 = k)) = true then kvs.map (fun p => if p.1 = k then (p.1, y) else p) else kvs ++ [(k, y)]
theorem RpK.length {F : Hp} : ∀ {ws : List (Key × V)} {kvs : List (Int × Px)}, RpK F ws kvs → ws.length = kvs.length
  | _, _, .nil => rfl
  | _, _, .cons _ b => congrArg (· + 1) (RpK.length b)
theorem RpK.look {F : Hp} {k : Int} : ∀ {ws : List (Key × V)} {kvs : List (Int × Px)}, RpK F ws kvs → (∀ y, lookD kvs k = some y → ∃ v, valV ws (.inl k : Key) = some v ∧ Rp F v y) ∧ (lookD kvs k = none → valV ws (.inl k : Key) = none)
  | _, _, .nil => ⟨fun y h => (nomatch h), fun _ => rfl⟩
  | _, _, .cons (k := j) (v := v) (d := d) (ws := ws) (kvs := kvs) a b => by
    by_cases e : j = k
    · subst e
      have h1 : lookD ((j, d) :: kvs) j = some d := by simp [lookD]
      have h2 : valV (((Sum.inl j : Key), v) :: ws) (Sum.inl j : Key) = some v := valV_pos rfl
      exact ⟨fun y h => ⟨v, h2, by rw [h1] at h; cases h; exact a⟩, fun h => by rw [h1] at h; cases h⟩
    · have h1 : lookD ((j, d) :: kvs) k = lookD kvs k := by simp [lookD, e]
      have h2 : valV (((Sum.inl j : Key), v) :: ws) (Sum.inl k : Key) = valV ws (Sum.inl k : Key) := valV_neg fun z => e (Sum.inl.inj z)
      rw [h1, h2]
      exact b.look
theorem RpK.any {F : Hp} {k : Int} : ∀ {ws : List (Key × V)} {kvs : List (Int × Px)}, RpK F ws kvs → (ws.any fun p => decide (p.1 = (Sum.inl k : Key))) = kvs.any fun p => decide (p.1 = k)
  | _, _, .nil => rfl
  | _, _, .cons (k := j) _ b => by
    rw [List.any_cons, List.any_cons, b.any]
    congr 1
    by_cases e : j = k
    · subst e; simp
    · simp [e]
theorem RpK.append {F : Hp} {k : Int} {v : V} {y : Px} (r : Rp F v y) : ∀ {ws : List (Key × V)} {kvs : List (Int × Px)}, RpK F ws kvs → RpK F (ws ++ [((.inl k : Key), v)]) (kvs ++ [(k, y)])
  | _, _, .nil => .cons r .nil
  | _, _, .cons a b => .cons a (b.append r)
theorem RpK.set {F : Hp} {k : Int} {v : V} {y : Px} (r : Rp F v y) : ∀ {ws : List (Key × V)} {kvs : List (Int × Px)}, RpK F ws kvs → RpK F (ws.map fun p => if p.1 = (.inl k : Key) then (p.1, v) else p) (kvs.map fun p => if p.1 = k then (p.1, y) else p)
  | _, _, .nil => .nil
  | _, _, .cons (k := j) a b => by
    rw [List.map_cons, List.map_cons]
    by_cases e : j = k
    · subst e
      rw [if_pos rfl, if_pos rfl]
      exact .cons r (b.set r)
    · rw [if_neg (fun z => e (Sum.inl.inj z)), if_neg e]
      exact .cons a (b.set r)
theorem RpK.put {F : Hp} {k : Int} {v : V} {y : Px} {ws : List (Key × V)} {kvs : List (Int × Px)} (h : RpK F ws kvs) (r : Rp F v y) : RpK F (putK ws (.inl k : Key) v) (putD kvs k y) := by
  unfold putK putD
  rw [h.any]
  split
  · exact h.set r
  · exact h.append r
def dicD (c : Cf) (i : Nat) (k : List (Int × Px) → Prop) : Prop := match c.env[i]? with
  | some (some (.dic (.k kvs))) => k kvs
  | _ => False
def slotDc (o : Option (Option Rv)) (k : List (Int × Px) → Prop) : Prop := match o with
  | some (some (.dic (.k kvs))) => k kvs
  | _ => False
theorem dicD_eq {c : Cf} {i : Nat} {k : List (Int × Px) → Prop} : dicD c i k = slotDc c.env[i]? k := rfl
theorem slotDc_k {kvs : List (Int × Px)} {k : List (Int × Px) → Prop} : slotDc (some (some (.dic (.k kvs)))) k = k kvs := rfl
def dicR (r : Rv) (k : List (Int × Px) → Prop) : Prop := match r with
  | .dic (.k kvs) => k kvs
  | _ => False
theorem dicR_k {kvs : List (Int × Px)} {k : List (Int × Px) → Prop} : dicR (.dic (.k kvs)) k = k kvs := rfl
def hdX (xs : List Px) (k : Px → List Px → Prop) : Prop := match xs with
  | y :: ys => k y ys
  | [] => False
theorem hdX_c {y : Px} {ys : List Px} {k : Px → List Px → Prop} : hdX (y :: ys) k = k y ys := rfl
def isDic (c : Cf) (i : Nat) : Prop := dicD c i fun _ => True
section
variable {Δ : Dx} {am : Addr} {F : Hp} {σ : L2.St} {H : Hp} {c : Cf}
theorem Ok.mineD (k : Ok Δ am F σ H c) {i : Nat} {q : List (Int × Px) → Prop} (h : dicD c i q) :
    ∃ a ws kvs, q kvs ∧ c.env[i]? = some (some (.dic (.k kvs))) ∧ σ[i]? = some (some (.ref a)) ∧ H a = some (.dK ws) ∧ F a = none ∧ Δ.H0 a = none ∧ RpK F ws kvs := by
  unfold dicD at h
  split at h
  · rename_i kvs e
    obtain ⟨v, h1, a, o, e1, e2, e3, e4, ws, e5, e6⟩ := k.sv i _ e
    subst e1
    subst e5
    exact ⟨a, ws, kvs, h, e, h1, e2, e3, e4, e6⟩
  · exact h.elim
/-- an object without a name, changed -/
theorem Ok.chgO {p : Addr} {o o' : HO} (k : Ok Δ am F σ H c) (h : H p = some o) (nt' : ∀ ps, o' ≠ .tbl ps) (ho : ∃ ws, o = .dK ws) (hg : ∀ n, c.g = some n → am ≠ p) (hf : F p = none) (h0 : Δ.H0 p = none) (no : ∀ (i : Nat) (r : Rv), c.env[i]? = some (some r) → r.mu → σ[i]? ≠ some (some (.ref p))) :
    Ok Δ am F σ (upd H p o') c where
  fh := fun b o e => by rw [upd_ne (fun q => by rw [q, hf] at e; cases e)]; exact k.fh b o e
  f0 := k.f0
  fr := k.fr
  tb := by
    obtain ⟨ws, rfl⟩ := ho
    exact k.tb.dK h
  pr := fun b o e n => by rw [upd_ne (ne_of_none e h0)]; exact k.pr b o e n
  al := fun b e => ⟨(k.al b e).1.upd nt', (k.al b e).2⟩
  gn := fun n e => by
    obtain ⟨h1, h2, h3⟩ := k.gn n e
    have ne := hg n e
    obtain ⟨l, s, sp, ac, ns, h4, h5⟩ := h3
    exact ⟨h1, h2, l, s, sp, ac, ns, by rw [upd_ne ne]; exact h4, h5⟩
  len := k.len
  sv := fun i r e => by
    obtain ⟨v, h1, h2⟩ := k.sv i r e
    refine ⟨v, h1, ?_⟩
    cases r with
    | d x => exact h2
    | gen => exact h2
    | scr ns => exact h2
    | own xs =>
      obtain ⟨a, us, e1, e2, e3⟩ := h2
      subst e1
      exact ⟨a, us, rfl, by rw [upd_ne (show a ≠ p from fun z => no i _ e True.intro (by rw [h1, z]))]; exact e2, e3⟩
    | dic D =>
      obtain ⟨a, us, e1, e2, e3⟩ := h2
      subst e1
      exact ⟨a, us, rfl, by rw [upd_ne (show a ≠ p from fun z => no i _ e True.intro (by rw [h1, z]))]; exact e2, e3⟩
  di := k.di
theorem Ok.ngD {a : Addr} {D : Dic} {o : HO} (k : Ok Δ am F σ H c) (h : H a = some o) (r : DicR F D o) : ∀ n, c.g = some n → am ≠ a := fun n e => ((k.gn n e).2.2.neD h r).symm
theorem Ok.mutateD (k : Ok Δ am F σ H c) {i : Nat} {a : Addr} {ws us : List (Key × V)} {kvs kvs' : List (Int × Px)} (e : c.env[i]? = some (some (.dic (.k kvs)))) (h1 : σ[i]? = some (some (.ref a))) (h2 : H a = some (.dK ws)) (h3 : F a = none) (h4 : Δ.H0 a = none) (r0 : RpK F ws kvs) (r : RpK F us kvs') :
    Ok Δ am F σ (upd H a (.dK us)) (putE c i (.dic (.k kvs'))) := by
  have no : ∀ (j : Nat) (zs : Rv), j ≠ i → c.env[j]? = some (some zs) → zs.mu → σ[j]? ≠ some (some (.ref a)) := fun j zs n p mu z => k.di j i zs _ n p e mu True.intro (z.trans h1.symm)
  have k1 : Ok Δ am F σ H { c with env := c.env.set i none } := ⟨k.fh, k.f0, k.fr, k.tb, k.pr, k.al, k.gn, by simpa using k.len, fun j r e => by
      rw [env_get] at e
      split at e
      · cases e
      · exact k.sv j r e, fun j l ys zs n p q => by
      rw [env_get] at p q
      split at p
      · cases p
      · split at q
        · cases q
        · exact k.di j l ys zs n p q⟩
  have hi : i < c.env.length := (List.getElem?_eq_some_iff.mp e).1
  have no' : ∀ (j : Nat) (zs : Rv), (c.env.set i none)[j]? = some (some zs) → zs.mu → σ[j]? ≠ some (some (.ref a)) := fun j zs p => by
    rw [env_get] at p
    split at p
    · cases p
    · rename_i q
      exact no j zs (fun z => q ⟨z, hi⟩) p
  have k2 := (k1.chgO (o' := .dK us) h2 dK_ok.1 ⟨_, rfl⟩ (fun n e => k.ngD (D := .k kvs) h2 ⟨ws, rfl, r0⟩ n e) h3 h4 no').put (r := .dic (.k kvs')) (v := .ref a) ⟨⟨a, _, rfl, upd_same, h3, h4, us, rfl, r⟩, fun _ j zs p => no' j zs p⟩ i
  rw [set_self h1] at k2
  have : putE c i (.dic (.k kvs')) = { c with env := (c.env.set i none).set i (some (.dic (.k kvs'))) } := by
    unfold putE
    rw [List.set_set]
  rw [this]
  exact k2
end
section
variable {X : Cx} {Δ : Dx} {a b e e1 e2 : Expr} {fa fb f1 f2 : WE} {pos : Pos} {x : Str} {p p2 : Pos}
/-- {k: v} -/
def eDisp1 (f1 f2 : WE) : WE := fun c P X => f1 c (fun r1 c1 => asI r1 fun i => f2 c1 (fun r2 c2 => asD r2 fun y => P (.dic (.k [(i, y)])) c2) X) X
theorem asI_of {r : Rv} {k : Int → Prop} (h : asI r k) : ∃ i, r = .d (.int i) ∧ k i := by
  unfold asI at h
  split at h
  · exact ⟨_, rfl, h⟩
  · exact h.elim
theorem de_disp1 (h1 : ∀ Δ' : Dx, Δ'.K = Δ.K → PE X e1 (tE Δ' f1)) (h2 : ∀ Δ' : Dx, Δ'.K = Δ.K → PE X e2 (tE Δ' f2)) : PE X (.Dict [some e1] [e2] pos) (tE Δ (eDisp1 f1 f2)) := by
  let t1 : TE := fun σ H Q => ∃ Δ' : Dx, Δ'.K = Δ.K ∧ tE Δ' f1 σ H Q
  let t2 : TE := fun σ H Q => ∃ Δ' : Dx, Δ'.K = Δ.K ∧ tE Δ' f2 σ H Q
  have g1 : PE X e1 t1 := ⟨fun pins s σ H Q I ⟨Δ', e, h⟩ => (h1 Δ' e).run pins s σ H Q I h⟩
  have g2 : PE X e2 t2 := ⟨fun pins s σ H Q I ⟨Δ', e, h⟩ => (h2 Δ' e).run pins s σ H Q I h⟩
  refine (pe_disp (pps_cons g1 g2 pps_nil |> fun h => h) rfl rfl (fun z => nomatch z) (show 1 ≤ 15 by decide)).imp fun σ H Q ⟨am, F, c, P, XX, ok, hf, kq, kx⟩ => ?_
  intro d hd
  have h0 : Δ.H0 d = none := ok.new hd
  have fd : F d = none := ok.fh.nn hd
  have f00 : Δ.F0 d = none := ok.f0.nn fd
  have na : Δ.a0 ≠ some d := fun z => (ok.al d z).2 h0
  have no : ∀ (i : Nat) (r : Rv), c.env[i]? = some (some r) → r.mu → σ[i]? ≠ some (some (.ref d)) := fun i xs e mu z => by
    obtain ⟨v, w1, s1⟩ := ok.sv i _ e
    obtain ⟨a, vs, w2, w3, _⟩ := s1.at mu
    subst w2
    rw [z] at w1
    cases w1
    rw [hd] at w3; cases w3
  have oh := (ok.alloc hd (.dK [])).holdO (p := d) (o := .dK []) upd_same dK_ok.1 (fun n e => (ok.ngen e hd).symm) fd h0 no
  have kxh : ∀ {G : Hp}, Le F G → KX (Δ.hold d (.dK [])) am G XX := fun {G} lg x g F' H' h l fn => kx x g F' H' h (lg.trans l) (fn.unhold h0 na)
  refine ⟨Δ.hold d (.dK []), rfl, am, F, c, _, XX, oh, hf, fun r1 c1 F1 v1 H1 p1 l1 o1 s1 => ?_, kxh (Le.refl F)⟩
  obtain ⟨i, rfl, p1⟩ := asI_of p1
  have w1 := s1.1
  cases w1
  refine ⟨Δ.hold d (.dK []), rfl, am, F1, c1, _, XX, o1, p1, fun r2 c2 F2 v2 H2 p2 l2 o2 s2 => ?_, kxh l1⟩
  obtain ⟨y, F3, hy, l3, o3, ry⟩ := s2.data o2 p2
  obtain ⟨o5, hd5, fd5, no5⟩ := o3.unhold h0 f00 na
  refine ⟨hd5, [((.inl i : Key), v2)], rfl, (by show 1 ≤ 15; decide), ?_⟩
  have em : mergeK [] [((.inl i : Key), v2)] = [((.inl i : Key), v2)] := by
    show putK [] (.inl i : Key) v2 = _
    exact putK_new _ rfl
  rw [em]
  have ok6 := o5.chgO (o' := .dK [((.inl i : Key), v2)]) hd5 dK_ok.1 ⟨_, rfl⟩ (o5.ngD (D := .k []) hd5 ⟨[], rfl, .nil⟩) fd5 h0 no5
  exact kq (.dic (.k [(i, y)])) c2 F3 (.ref d) _ hy ((l1.trans l2).trans l3) ok6 ⟨⟨d, _, rfl, upd_same, fd5, h0, _, rfl, .cons ry .nil⟩, fun _ j r' e mu => no5 j r' e mu⟩
/-- d[k], a name's dict -/
def eDIx (i : Nat) (fb : WE) : WE := fun c P X => isDic c i ∧ fb c (fun r c1 => asI r fun k => dicD c1 i fun kvs => ∃ y, lookD kvs k = some y ∧ P (.d y) c1) X
theorem de_dix (i : Nat) (hu : X.A.units + 64 < cLine) (hb : PE X b (tE Δ fb)) (hs : NoSl b := by intros; rfl) (hN : X.N[i]? = some x := by rfl)
    (hv : Vis X.env.scope x := by first | exact Or.inl rfl | exact Or.inr (Or.inl rfl) | exact Or.inr (Or.inr rfl)) (hd : (x == ("__debug__" : Str)) = false := by decide)
    (hcd : (x == ("__classdict__" : Str)) = false := by decide) : PE X (.Subscript (.Name x p) b pos) (tE Δ (eDIx i fb)) := by
  refine (pe_dget (by omega) (pv i hN hv hd hcd) hb hs).imp fun σ H Q ⟨am, F, c, P, XX, ok, ⟨ho, hf⟩, kq, kx⟩ => ?_
  obtain ⟨a, ws, kvs, _, e0, g1, _⟩ := ok.mineD ho
  refine ⟨_, g1, am, F, c, _, XX, ok, hf, fun r c1 F1 v1 H1 p1 l1 o1 s1 => ?_, kx⟩
  obtain ⟨k, rfl, p1⟩ := asI_of p1
  have w1 := s1.1
  cases w1
  obtain ⟨a', us, kvs', q, e1, k1, k2, k3, k4, k5⟩ := o1.mineD p1
  rw [g1] at k1
  cases k1
  obtain ⟨y, hy, hp⟩ := q
  obtain ⟨v, hv, rv⟩ := k5.look.1 y hy
  refine ⟨a, v, rfl, ?_, kq (.d y) c1 F1 v H1 hp l1 o1 (.of rv)⟩
  have g := DGet.k (k := (.inl k : Key)) k2
  rw [hv] at g
  exact g
/-- k in d, k not in d -/
def eDIn (neg : Bool) (i : Nat) (fb : WE) : WE := fun c P X => isDic c i ∧ fb c (fun r c1 => asI r fun k => dicD c1 i fun kvs => P (.d (.bool (if neg then !(lookD kvs k).isSome else (lookD kvs k).isSome))) c1) X
theorem din_some {am : Addr} {F : Hp} {kvs : List (Int × Px)} {ws : List (Key × V)} {k : Int} (r : RpK F ws kvs) : (valV ws (.inl k : Key)).isSome = (lookD kvs k).isSome := by
  cases h : lookD kvs k with
  | none =>
    rw [r.look.2 h]
    rfl
  | some y =>
    obtain ⟨v, hv, _⟩ := r.look.1 y h
    rw [hv]
    rfl
section
variable (i : Nat) (hu : X.A.units + 64 < cLine) (hb : PE X b (tE Δ fb)) (hN : X.N[i]? = some x)
    (hv : Vis X.env.scope x) (hd : (x == ("__debug__" : Str)) = false)
    (hcd : (x == ("__classdict__" : Str)) = false)
include hu hb hN hv hd hcd
theorem dn_in : PC X .NotIn b (.Name x p) (fun σ H Q => tE Δ (eDIn true i fb) σ H Q) := by
  refine ⟨fun pins s σ H Q I h => (pc_dnotin (by omega) hb (pv i hN hv hd hcd)).run pins s σ H Q I ?_⟩
  obtain ⟨am, F, c, P, XX, ok, ⟨ho, hf⟩, kq, kx⟩ := h
  refine ⟨am, F, c, _, XX, ok, hf, fun r c1 F1 v1 H1 p1 l1 o1 s1 => ?_, kx⟩
  obtain ⟨k, rfl, p1⟩ := asI_of p1
  have w1 := s1.1
  cases w1
  obtain ⟨a', us, kvs', q, e1, k1, k2, k3, k4, k5⟩ := o1.mineD p1
  refine ⟨_, k1, a', valV us (.inl k : Key), rfl, DGet.k (k := (.inl k : Key)) k2, ?_⟩
  rw [din_some (am := am) k5]
  exact kq _ c1 F1 _ H1 q l1 o1 (.of (.bl _))
end
theorem dt_dnin (i : Nat) (hu : X.A.units + 64 < cLine) (hb : PE X b (tE Δ fb)) (hN : X.N[i]? = some x := by rfl)
    (hv : Vis X.env.scope x := by first | exact Or.inl rfl | exact Or.inr (Or.inl rfl) | exact Or.inr (Or.inr rfl)) (hd : (x == ("__debug__" : Str)) = false := by decide)
    (hcd : (x == ("__classdict__" : Str)) = false := by decide) (hm : behindInMarks .NotIn (.Name x p) = false := by first | exact nobehind _ (by decide) (by decide) | rfl) : PT X (.Compare b [.NotIn] [.Name x p] pos) (tT Δ (wB (eDIn true i fb))) :=
  (pt_cmp (dn_in i hu hb hN hv hd hcd) hm).imp fun σ H Q h => tB_of _ _ (fun _ _ _ h => h) σ H Q h
/-- d[k] = v, a name's dict -/
def sDctP (i : Nat) (fv fk : WE) : WS := fun c P X => fv c (fun r c1 => asD r fun y => isDic c1 i ∧ fk c1 (fun r2 c2 => asI r2 fun k => dicD c2 i fun kvs => kvs.length < 1000000 ∧ P (.nx (putE c2 i (.dic (.k (putD kvs k y)))))) X) X
theorem ds_dput (i : Nat) {q2 : Pos} (hu : X.A.units + 64 < cLine) (hv' : PE X a (tE Δ fa)) (hb : PE X b (tE Δ fb)) (hN : X.N[i]? = some x := by rfl)
    (hv : Vis X.env.scope x := by first | exact Or.inl rfl | exact Or.inr (Or.inl rfl) | exact Or.inr (Or.inr rfl)) (hd : (x == ("__debug__" : Str)) = false := by decide)
    (hcd : (x == ("__classdict__" : Str)) = false := by decide) (hs : swapsWith a (some (.Subscript (.Name x p) b q2)) pos.line X.env = pure false := by rfl) : PS X (.Assign [.Subscript (.Name x p) b q2] a pos) (tS Δ (sDctP i fa fb)) := by
  refine (ps_dput (by omega) (pv i hN hv hd hcd) hb hv' hs).imp fun D σ H ⟨am, F, c, P, XX, ok, hf, kf, kx⟩ => ?_
  refine ⟨am, F, c, _, XX, ok, hf, fun r c1 F1 v1 H1 p1 l1 o1 s1 => ?_, kx am⟩
  obtain ⟨y, F2, ⟨ho, hy⟩, l2, o2, ry⟩ := s1.data o1 p1
  obtain ⟨a0, ws, kvs, _, e0, g1, _⟩ := o2.mineD ho
  refine ⟨_, g1, am, F2, c1, _, XX, o2, hy, fun r2 c2 F3 v2 H3 p3 l3 o3 s3 => ?_, (kx am).le (l1.trans l2)⟩
  obtain ⟨k, rfl, p3⟩ := asI_of p3
  have w1 := s3.1
  cases w1
  obtain ⟨a', us, kvs', q, e1, k1, k2, k3, k4, k5⟩ := o3.mineD p3
  rw [g1] at k1
  cases k1
  exact ⟨a0, _, rfl, DPut.k (k := (.inl k : Key)) k2 (Nat.lt_of_lt_of_le (show us.length < 1000000 by rw [k5.length]; exact q.1) (line_of (Nat.le_refl _))), kf.1 _ am F3 σ _ q.2 ((l1.trans l2).trans l3) (o3.mutateD e1 g1 k2 k3 k4 k5 (k5.put (ry.mono l3)))⟩
/-- return d, a name's dict -/
def sRetD (i : Nat) : WS := fun c P _ => dicD c i fun kvs => P (.rt (.dic (.k kvs)) c.g)
theorem ds_retD (i : Nat) (hN : X.N[i]? = some x := by rfl)
    (hv : Vis X.env.scope x := by first | exact Or.inl rfl | exact Or.inr (Or.inl rfl) | exact Or.inr (Or.inr rfl)) (hd : (x == ("__debug__" : Str)) = false := by decide)
    (hcd : (x == ("__classdict__" : Str)) = false := by decide) : PS X (.Return (some (.Name x p)) pos) (tS Δ (sRetD i)) := by
  refine (ps_ret (pv i hN hv hd hcd)).imp fun D σ H ⟨am, F, c, P, XX, ok, hf, kf, kx⟩ => ?_
  obtain ⟨a, ws, kvs, q, e0, g1, g2, g3, g4, g5⟩ := ok.mineD hf
  exact ⟨_, g1, kf.2.2.2 _ _ am F H _ q (Le.refl F) ok.fin ⟨a, _, rfl, g2, g3, g4, ws, rfl, g5⟩⟩
/-- f(..)[k], a def that returns a dict -/
def eDIxC (fa fb : WE) : WE := fun c P X => fa c (fun r c1 => dicR r fun kvs => fb c1 (fun r2 c2 => asI r2 fun k => ∃ y, lookD kvs k = some y ∧ P (.d y) c2) X) X
/-- xs.pop(0), a name's own list -/
def ePop0 (i : Nat) : WE := fun c P _ => ownD c i fun xs => hdX xs fun y ys => P (.d y) (putE c i (.own ys))
theorem eDIn_t {i : Nat} {fb : WE} {c : Cf} {P : Rv → Cf → Prop} {XX : XP} : eDIn true i fb c P XX = (isDic c i ∧ fb c (fun r c1 => asI r fun k => dicD c1 i fun kvs => P (.d (.bool (!(lookD kvs k).isSome))) c1) XX) := rfl
theorem eDIn_f {i : Nat} {fb : WE} {c : Cf} {P : Rv → Cf → Prop} {XX : XP} : eDIn false i fb c P XX = (isDic c i ∧ fb c (fun r c1 => asI r fun k => dicD c1 i fun kvs => P (.d (.bool (lookD kvs k).isSome)) c1) XX) := rfl
theorem de_pop0 (i : Nat) {k0 : Nat} {p0 : Pos} (hN : X.N[i]? = some x := by rfl)
    (hv : Vis X.env.scope x := by first | exact Or.inl rfl | exact Or.inr (Or.inl rfl) | exact Or.inr (Or.inr rfl)) (hd : (x == ("__debug__" : Str)) = false := by decide)
    (hcd : (x == ("__classdict__" : Str)) = false := by decide) (hst : starEach (Expr.Constant (.int 0) k0 p0 :: []) X.env = (false, eval (.Constant (.int 0) k0 p0) X.env) :: starEach [] X.env := by rfl) (hln : (p2.endLine == pos.line) = true := by rfl)
    (hfw : ((backTo pos (starEach [Expr.Constant (.int 0) k0 p0] X.env)).all (fun x => !x.1) && (backToKw pos (keywordEach [] X.env)).all (fun x => x.1.isSome) && decide ([Expr.Constant (.int 0) k0 p0].length + ([] : List Keyword).length + (if ([] : List Keyword).isEmpty then 0 else 1) < 30)) = true := by rfl) : PE X (.Call (.Attribute (.Name x p) "pop" p2) [.Constant (.int 0) k0 p0] [] pos) (tE Δ (ePop0 i)) := by
  refine (pe_bm PySem.F.plainAttrs_list PySem.F.slot_list_pop PySem.F.type_list_pop mt_popAt (pv i hN hv hd hcd) (pa_cons (pe_int (i := 0)) pa_nil hst) rfl hfw hln hst).imp fun σ H Q ⟨am, F, c, P, XX, ok, hf, kq, kx⟩ => ?_
  obtain ⟨a, vs, xs, q, e0, h1, h2, h3, h4, h5⟩ := ok.mine hf
  cases h5 with
  | nil => exact q.elim
  | @cons v vs y ys rv r2 =>
    refine ⟨_, h1, Or.inl ⟨rfl, _, SqL.of h2⟩, ?_⟩
    refine ⟨a, v :: vs, 0, 0, v, rfl, rfl, h2, by decide, by decide, ?_, rfl, kq (.d y) _ F v _ q (Le.refl F) (ok.mutate e0 h1 h2 h3 h4 r2) (.of rv)⟩
    simp [seqIndex?]
end
end Dl
set_option Elab.async false
set_option maxRecDepth 100000
set_option linter.all false
set_option autoImplicit false
namespace Dl
open PySem L2
variable [TabF]
/-! ### comprehensions whose elements are drawn -/
inductive All2 {α β : Type} (G : α → β → Prop) : List α → List β → Prop
  | nil : All2 G [] []
  | cons {a : α} {b : β} {l : List α} {m : List β} : G a b → All2 G l m → All2 G (a :: l) (b :: m)
theorem All2.length {α β : Type} {G : α → β → Prop} : ∀ {l : List α} {m : List β}, All2 G l m → l.length = m.length
  | _, _, .nil => rfl
  | _, _, .cons _ b => congrArg (· + 1) b.length
theorem All2.snd {α β : Type} {G : α → β → Prop} {H : β → Prop} (h : ∀ a b, G a b → H b) : ∀ {l : List α} {m : List β}, All2 G l m → ∀ b ∈ m, H b
  | _, _, .nil => fun b hb => (nomatch hb)
  | _, _, .cons x y => fun b hb => by
    rcases List.mem_cons.mp hb with rfl | hb
    · exact h _ _ x
    · exact y.snd h b hb
theorem All2.map {α β γ : Type} {G : α → β → Prop} {f : α → γ} {k : β → γ} (h : ∀ a b, G a b → f a = k b) : ∀ {l : List α} {m : List β}, All2 G l m → l.map f = m.map k
  | _, _, .nil => rfl
  | _, _, .cons x y => by rw [List.map_cons, List.map_cons, h _ _ x, y.map h]
section
variable {g : WG} {t : WT} {f : WE} {vs : List Nat} {env : List (Option Rv)} {X : XP} {P : Rv → Cf → Prop}
theorem lcW_drw {α β : Type} (e : α → Px) (e2 : β → Px) (G : α → β → Prop) (d top : Nat) : ∀ (l : List α) (acc : List Px) (n : Nat),
    (∀ x ∈ l, ∀ (n : Nat) (R : Px → Option Nat → Prop) (S : Option Nat → Prop), n + d ≤ top → (∀ (b : β) (m : Nat), G x b → m ≤ n + d → R (e2 b) (some m)) → Turn1 g t f vs env X (e x) (some n) R S) →
    n + d * l.length ≤ top → acc.length + l.length ≤ 1000000 → (∀ (bs : List β) (m : Nat), All2 G l bs → m ≤ n + d * l.length → P (.own (acc ++ bs.map e2)) ⟨env, some m⟩) → lcW g t f vs env X P (l.map e) acc (some n)
  | [], acc, n, _, _, _, q => by
    have := q [] n .nil (by simp)
    simp only [List.map_nil, List.append_nil] at this
    exact this
  | x :: xs, acc, n, ht, hn, hl, q => by
    simp only [List.length_cons] at hl hn
    have e1 : d * (xs.length + 1) = d * xs.length + d := Nat.mul_succ _ _
    refine ht x List.mem_cons_self n (fun y g' => acc.length < 1000000 ∧ lcW g t f vs env X P (xs.map e) (acc ++ [y]) g') (fun g' => lcW g t f vs env X P (xs.map e) acc g') (by rw [e1] at hn; omega) (fun b m hb hm => ⟨by omega, ?_⟩)
    refine lcW_drw e e2 G d top xs (acc ++ [e2 b]) m (fun z hz => ht z (List.mem_cons_of_mem _ hz)) (by rw [e1] at hn; omega) (by simp only [List.length_append, List.length_cons, List.length_nil]; omega) fun bs m2 h1 h2 => ?_
    rw [List.append_assoc]
    exact q (b :: bs) m2 (.cons hb h1) (by simp only [List.length_cons]; rw [e1]; omega)
end
/-! ### [..] * k -/
end Dl
set_option Elab.async false
set_option linter.all false
set_option autoImplicit false
set_option maxRecDepth 100000
set_option maxHeartbeats 4000000
/-! zip of three lists of one length. New objects stand at n (three iterators), n + 3 (their tuple), n + 4 (the tuple kept), n + 5 (zip). -/
namespace Z3
open PySem PySem.F PyProof.Rows
open PySem.Sem (wp)
abbrev Tri (h : Heap) (T : Addr) (a b c : Value) : Prop := h.get? T = some { cls := .type "tuple", data := .seq #[a, b, c] }
section
variable {prog : Program} {w : World} {A : Around} {E : Value → Shared → Prop} {s : Shared}
/-- how the heap stands at turn k -/
structure St (h : Heap) (n l1 l2 l3 k : Nat) (f0 : Value) : Prop where
  z : IsZip h (n + 5) (n + 3) (n + 4) f0
  ti : Tri h (n + 3) (.ref n) (.ref (n + 1)) (.ref (n + 2))
  to : ∃ a b c, Tri h (n + 4) a b c
  h1 : h.IsListIter n l1 k
  h2 : h.IsListIter (n + 1) l2 k
  h3 : h.IsListIter (n + 2) l3 k
end
end Z3
namespace L2
open PySem PySem.Spec PyProof.Rows
end L2
namespace Dl
open PySem L2
variable [TabF]
def zip3X : List Px → List Px → List Px → List Px
  | x :: xs, y :: ys, z :: zs => .tuple [x, y, z] :: zip3X xs ys zs
  | _, _, _ => []
/-- zip of three lists of one length -/
def iZp3 (f : WA) : WI := fun c P X => f c (fun rs c1 => match rs with
  | [.d (.list xs), .d (.list ys), .d (.list zs)] => ys.length = xs.length ∧ zs.length = xs.length ∧ P (zip3X xs ys zs) c1
  | _ => False) X
end Dl
set_option Elab.async false
set_option maxRecDepth 100000
set_option linter.all false
set_option autoImplicit false
namespace Dl
open PySem L2
variable [TabF]
/-! ### try: NAME = f(..) if c else g(..), and clauses `except C as e: NAME = ('word', e.field)` -/
/-- a part of the tuple that a clause gives -/
inductive Part
  | st (s : Str)
  | fl (f : Str)
def partsV (x : Xn) : List Part → Option (List Px)
  | [] => some []
  | .st s :: r => (partsV x r).map (.str s :: ·)
  | .fl f :: r => match x.fields.lookup f, partsV x r with
    | some p, some l => some (p :: l)
    | _, _ => none
def tParts (a : Addr) (cls : Value) (d : Option Addr) (C : Addr) (ie : Nat) : List Part → TA
  | [] => tNil
  | .st s :: r => tCons (tC (.str s)) (tParts a cls d C ie r)
  | .fl f :: r => tCons (tXf a cls d C f (tVar ie)) (tParts a cls d C ie r)
end Dl
set_option Elab.async false
set_option maxRecDepth 100000
set_option linter.all false
set_option autoImplicit false
namespace Dl
open PySem L2
variable [TabF]
/-! ### repr of lists -/
theorem ok_list {ts : List Str} (h : ∀ t ∈ ts, PyData.strOk t = true) : PyData.strOk (listText ts) = true := by
  rw [listText_eq_join, ok_app, ok_app, ok_join h]
  have h1 : PyData.strOk (("[" : String) : Str) = true := strOk_of "["
  have h2 : PyData.strOk (("]" : String) : Str) = true := strOk_of "]"
  rw [h1, h2]
  rfl
theorem Sho.lst {e b n : Nat} {xs : List Px} (h : ∀ x ∈ xs, Sho e b x) (hl : xs.length ≤ n) : Sho (e + 1) (n * b + 2 * n + 3) (.list xs) := by
  obtain ⟨h1, h2, h3, h4, h5, h6⟩ := sho_all h
  refine ⟨by simpa [PyData.showable] using h1, by simpa [PyData.hasDict] using h2, ?_, ?_, by simp only [PyData.shown]; exact ok_list h6⟩
  · simp only [PyData.depth]
    omega
  · have t := listText_len_le (PyData.shownAll xs)
    have m : xs.length * b ≤ n * b := Nat.mul_le_mul_right b hl
    simp only [PyData.shown]
    omega
section
variable {X : Cx} {Δ : Dx}
theorem cr_repr_lst (hg : X.A.guards = some []) (hu : X.A.units + 64 < cLine) : CallR X (.builtin "repr") (fun vs H Q => ∃ v xs, vs = [v] ∧ Dp X.K H v (.list xs) ∧ Sho 40 1000000 (.list xs) ∧ Q (.str (PyData.shown (.list xs))) H) := by
  intro pins s σ H vs us Q I r h
  obtain ⟨v, xs, rfl, hd, hs, q⟩ := h
  cases r with
  | cons r rr =>
    cases rr
    obtain ⟨as, rd⟩ := Dp.reads I _ _ _ hd r
    have hd' := hd
    cases hd' with
    | lst e1 e2 =>
      cases r
      refine repr_of_reads' rd hs.sh (fun z => by rw [hs.nd] at z; cases z) hg (by have := hs.dp; omega) (fun _ _ e => e) (fun h' u tk k => ?_) (Nat.le_trans hs.ln (by rw [sizeLine_eq]; decide))
      exact ⟨.str _, H, I.kept (t' := tk) k, ⟨_, rfl⟩, q⟩
def reprM : CD := fun rs P => match rs with
  | [.d .none] => P (.d (.str "None"))
  | [.d (.bool b)] => P (.d (.str (rb b)))
  | [.d (.int i)] => i.natAbs.log2 < 1920 ∧ P (.d (.str (ri i)))
  | [.d (.tuple xs)] => Sho 40 1000000 (.tuple xs) ∧ P (.d (.str (PyData.shown (.tuple xs))))
  | [.d (.list xs)] => Sho 40 1000000 (.list xs) ∧ P (.d (.str (PyData.shown (.list xs))))
  | _ => False
theorem cl_reprM {k : Nat} (hr : RoomG k X.A) (hK : Δ.K = X.K) (hk : X.K = TabF.K := by first | rfl | assumption) : ClD X Δ (.builtin "repr") reprM :=
  ⟨_, CallR.or (CallR.or (CallR.or (CallR.or cr_repr_bool SkE.call_repr_int) (cr_repr_tup hr.gd hr.units)) cr_repr_non) (cr_repr_lst hr.gd hr.units), fun am F σ H c vs rs P Q ok rx ho k => by
    unfold reprM at ho
    split at ho
    · cases rx with
      | d r1 r2 =>
        cases r1
        cases r2
        exact .inl (.inr ⟨rfl, k _ F _ H ho (Le.refl F) ok (.of (.str _))⟩)
    · cases rx with
      | d r1 r2 =>
        cases r1
        cases r2
        exact .inl (.inl (.inl (.inl ⟨_, rfl, k _ F _ H ho (Le.refl F) ok (.of (.str _))⟩)))
    · cases rx with
      | d r1 r2 =>
        cases r1
        cases r2
        exact .inl (.inl (.inl (.inr ⟨_, rfl, ho.1, k _ F _ H ho.2 (Le.refl F) ok (.of (.str _))⟩)))
    · cases rx with
      | d r1 r2 =>
        cases r2
        exact .inl (.inl (.inr ⟨_, _, rfl, r1.dp hk ok.fh ho.1.nd, ho.1, k _ F _ H ho.2 (Le.refl F) ok (.of (.str _))⟩))
    · cases rx with
      | d r1 r2 =>
        cases r2
        exact .inr ⟨_, _, rfl, r1.dp hk ok.fh ho.1.nd, ho.1, k _ F _ H ho.2 (Le.refl F) ok (.of (.str _))⟩
    · exact ho.elim⟩
end
theorem reprM_n {P : Rv → Prop} : reprM [.d .none] P = P (.d (.str "None")) := rfl
theorem reprM_b {b : Bool} {P : Rv → Prop} : reprM [.d (.bool b)] P = P (.d (.str (rb b))) := rfl
theorem reprM_i {i : Int} {P : Rv → Prop} : reprM [.d (.int i)] P = (i.natAbs.log2 < 1920 ∧ P (.d (.str (ri i)))) := rfl
theorem reprM_t {xs : List Px} {P : Rv → Prop} : reprM [.d (.tuple xs)] P = (Sho 40 1000000 (.tuple xs) ∧ P (.d (.str (PyData.shown (.tuple xs))))) := rfl
theorem reprM_l {xs : List Px} {P : Rv → Prop} : reprM [.d (.list xs)] P = (Sho 40 1000000 (.list xs) ∧ P (.d (.str (PyData.shown (.list xs))))) := rfl
end Dl
set_option Elab.async false
set_option maxRecDepth 100000
set_option linter.all false
set_option autoImplicit false
set_option maxHeartbeats 1000000
namespace Dl
open PySem PySem.Spec PyProof.Rows L2 LamX
variable [TabF]
/-! ### a lambda without parameters, handed to a def that calls it where no repr is under way -/
section
variable {X : Cx} {pins : List (Addr × Obj)} {σ : L2.St} {H : Hp} {s : Shared}
/-- the def's call of what it got -/
theorem actG {cx : CXT} {E0' E : XK} {Ng : List Str} {qg a : Str} {sg scope : Scope} {g f cA : Addr} {cdg pm ctv : Value} {params : Arguments} {body : Expr} {k : Nat} {pn : List (Addr × Obj)} {xe : Value → Shared → Prop} {W : WX} {tb : TE} {p1 p2 : Pos}
    (I : Inv X pins σ H s) (L : LamS X.env.scope scope) (stands : s.heap.get? f = some (PySem.W.kla_obj "<lambda>" (X.env.qual ++ "<lambda>") params body scope (cloFrom X.env.cells scope.names []) pm cA ctv)) (un1 : H f = none) (un2 : f ∉ frs X.stack)
    (none_bound : bindArgs (PySem.W.kla_fn "<lambda>" (X.env.qual ++ "<lambda>") params body scope (cloFrom X.env.cells scope.names []) pm (.ref cA) ctv) ⟨[], []⟩ = pure [])
    (tk : Takes ((cxOf cx X.prog X.w X.K X.mg X.base Ng qg sg g cdg X.A X.stack s H E0').tr pn xe) W) (room : RoomG (k + 1) (X.A.deeper (envOfC qg sg s.heap.objs.size g cdg)))
    (hb : ∀ (B : Around) (out : List Env) (s2 : Shared) (H2 : Hp), RoomG k (B.deeper (lamEnv X scope s2.heap.objs.size f cA)) → PE (lamCx X B out s2 H2 E scope f cA) body tb)
    (at0 : Ng[0]? = some a) (vis : Vis sg a) (d1 : (a == ("__debug__" : Str)) = false) (d2 : (a == ("__classdict__" : Str)) = false) :
    PE ((cxOf cx X.prog X.w X.K X.mg X.base Ng qg sg g cdg X.A X.stack s H E0').tr pn xe) (.Call (.Name a p1) [] [] p2)
      (fun τ G Q => (∀ cls d G', E cls d G' → W cls d τ G') ∧ τ[0]? = some (some (.ref f)) ∧ G cA = some (CodeO cA (X.env.qual ++ "<lambda>")) ∧ tb σ G Q) := by
  constructor
  rintro pins' s' τ G Q J ⟨hW, slot, code, want⟩
  refine wpAny_Call_Name_kw (thn ((pe_var (pos := p1) (i := 0) at0 vis d1 d2).run pins' s' τ G (fun v G1 => v = .ref f ∧ G1 = G) J ⟨_, slot, rfl, rfl⟩) fun u s1 got => ?_)
  obtain ⟨v, G1, J1, rel, rfl, rfl⟩ := got
  have eu : u = .ref f := rel
  subst eu
  have fobj := J1.base.keep f _ stands un1 un2 fun z => nomatch (show f ∈ ([] : List Addr) from z)
  refine PySem.W.callWith_F0 ⟨_, _, _, _, fobj⟩ ?_
  obtain ⟨⟨oc, vs, t, c1, c2, c3⟩, _, _⟩ := J1.hok cA _ code
  have run : codeAny (model X.prog X.w) (X.A.deeper (envOfC qg sg s.heap.objs.size g cdg)) (.call (.ref f) ⟨[], []⟩) (CR (L2.CX X.prog X.w) (envOfC qg sg s.heap.objs.size g cdg :: X.stack) X.prog X.w G1 s1 Q E) s1 := by
    refine PySem.W.kla_callFunE room.depth fobj rfl L.co L.gen rfl ⟨cA, oc, vs, t, rfl, c1, c2, c3⟩ ?_
    rw [none_bound]
    refine wpAny_pure (wpAny_newFunctionEnv (fun y hy => (L.own y hy).2) (fun y hy => nomatch hy) (fun h1 hns hsb => ⟨J1.nolimit.fresh _ hsb, ?_⟩) L.kind)
    have keep1 : ∀ b o, s1.heap.get? b = some o → h1.get? b = some o := fun b o e => hsb.extBut b o (Nat.ne_of_lt (Heap.lt_size e)) (Heap.get?_push_of_some _ e)
    have start1 := lam_start2 (E := E) (f := f) (c' := cA) (tk := s1.toks + ([] : List (Str × Value)).length) I L J1.env0 room.hd (show Un (frs X.stack) [] H G1 s.heap s1.heap from J1.base) hns keep1
    refine PySem.W.kla_codeExpr (A := X.A.deeper (envOfC qg sg s.heap.objs.size g cdg)) (wpAny_mono ((hb _ _ s1 G1 (room.deeper _)).run [] _ _ G1 Q start1 want) (fun v2 s2 got => ?_) fun _ _ got => got)
    obtain ⟨w2, G2, J2, r2, q2⟩ := got
    exact ⟨w2, G2, J2.os, J2.bare, J2.base, J2.hok, r2, q2⟩
  refine wpAny_call (codeAny_mono run fun res s2 got => ?_)
  match res, got with
  | .error er, got => exact tk er s2 (XE.of_call J1 (fun _ _ _ z => hW _ _ _ z) got)
  | .ok (.ret u), got => exact J1.after got
/-- what a def makes of a lambda: its call a() is read by tl, where its exceptions are wished for with the slots -/
def GivesG (X : Cx) (Ng : List Str) (x a q : Str) (sg : Scope) (g : Addr) (cdg : Value) (bg : List Stmt) (TT : (XK → Hp → VK → Prop) → Hp → VK → Prop) : Prop :=
  ∀ (f cA : Addr) (s : Shared) (H : Hp) (Q : VK) (tl : XK → Hp → VK → Prop), (let Y := cxOf C8.CX0 X.prog X.w X.K X.mg X.base Ng x sg g cdg X.A X.stack s H C8.E0
    (∀ (W : WX) (E : XK) (pn : List (Addr × Obj)) (xe : Value → Shared → Prop) (p1 p2 : Pos), Takes (Y.tr pn xe) W →
      PE (Y.tr pn xe) (.Call (.Name a p1) [] [] p2) (fun τ G Q => (∀ cls d G', E cls d G' → W cls d τ G') ∧ τ[0]? = some (some (.ref f)) ∧ G cA = some (CodeO cA q) ∧ tl E G Q)) →
    H cA = some (CodeO cA q) → TT tl H Q → ∃ t, PSs Y.nox bg t ∧ t { nx := fun _ H' => Q .non H', rt := Q } (L2.start Ng [.ref f]) H)
/-- the call of the def, with the lambda -/
theorem lamcallG {T : List (Addr × Str)} {TT : (XK → Hp → VK → Prop) → Hp → VK → Prop} {x a : Str} {g c P : Addr} {k : Nat} {pg params : Arguments} {bg : List Stmt} {sg scope : Scope} {dV kV doc pm cdv ct oc : Value} {an od : Option Addr} {osl : Array (Option Value)} {Ng : List Str}
    {body : Expr} {t : XK → TE} {p lpos pos : Pos} (hg : Gl X x) (hm : X.mg x = some (.ref g)) (hk : PySem.W.keepIn X.K (.ref g) = true) (lk : X.K.lookup g = some ⟨oc, od, .func (PySem.W.fnOf x x pg bg sg dV kV doc pm an cdv ct), osl⟩)
    (hcg : PySem.W.codeIn X.K cdv x = true) (hb : L2.Binds X.K (PySem.W.fnOf x x pg bg sg dV kV doc pm an cdv ct) [a] []) (Sg : FnScope Ng [a] sg) (hNg : Ng[0]? = some a) (hva : Vis sg a) (hG : GivesG X Ng x a (X.env.qual ++ "<lambda>") sg g cdv bg TT)
    (TB : TabB X.base X.mg c P) (hcode : X.env.code = .ref c) (inT : (P, X.env.qual ++ "<lambda>") ∈ T) (one : ∀ p ∈ T, p.1 = P → p.2 = X.env.qual ++ "<lambda>") (room : RoomG (k + 2) X.A) (L : LamS X.env.scope scope) (hdef : defaultsOf params X.env = ([], []))
    (none_bound : ∀ (q : Str) (cl : List (Str × Addr)) (pm cv ctv : Value), bindArgs (PySem.W.kla_fn "<lambda>" q params body scope cl pm cv ctv) ⟨[], []⟩ = pure [])
    (hbody : ∀ (B : Around) (out : List Env) (s : Shared) (H : Hp) (E : XK) (f cA : Addr), RoomG k (B.deeper (lamEnv X scope s.heap.objs.size f cA)) → PE (lamCx X B out s H E scope f cA) body (t E))
    (hdb : (x == ("__debug__" : Str)) = false) (d1 : (a == ("__debug__" : Str)) = false) (d2 : (a == ("__classdict__" : Str)) = false) :
    PE X (.Call (.Name x p) [.Lambda params body scope lpos] [] pos) (tLam T TT t) := by
  constructor
  rintro pins s σ H Q I ⟨tabs, want⟩
  refine wpAny_Call_Name_kw (ld_glob I hg hm (PySem.W.callWith_K (h₀ := X.base) I.ok.mod.kin hk ?_ (by rfl) (by rfl)) hdb)
  show wpAny _ _ (spliced ((false, eval (.Lambda params body scope lpos) X.env) :: backTo pos (starEach [] X.env))) _ _ s
  refine Calls.spliced_cons (lam_make2 I TB hcode inT one tabs hdef (L.has I.ok) fun f cA pm' ctv H1 s1 I1 grown tabs1 stands un1 un2 code => ?_)
  refine Calls.spliced_nil ⟨I1.kIn, wpAny_call (codeAny_mono (R := CR C8.CX0 X.stack X.prog X.w H1 s1 Q C8.E0) ?_ fun res s2 got => ?_)⟩
  · refine run_ofS (N := Ng) (ps := [a]) (us := [.ref f]) (vs := [.ref f]) lk hcg Sg room.toRoom I1.env0 (hb s1 [.ref f] I1.kIn rfl) (.cons rfl .nil) rfl fun _ => ?_
    obtain ⟨t', ht', hq'⟩ := hG f cA s1 H1 Q (fun E H' Q' => t E σ H' Q') (fun W E pn xe p1 p2 tk => actG I1 L stands un1 un2 (none_bound _ _ _ _ _) tk (room.deeper _) (fun B out s H r2 => hbody B out s H E f cA r2) hNg hva d1 d2) code (want H1 grown tabs1)
    exact ⟨t', ht'.nox, hq'⟩
  · match res, got with
    | .error e, got => exact (show False from got).elim
    | .ok (.ret u), got => exact I1.after got
end
end Dl
set_option Elab.async false
set_option maxRecDepth 100000
set_option linter.all false
set_option autoImplicit false
set_option maxHeartbeats 1000000
namespace Dl
open PySem PySem.Spec PyProof.Rows L2 LamX
variable [TabF]
/-! ### a def that tells what the lambda gives, or how it is refused -/
/-- what a clause tells: a tuple of words and fields, or one field -/
inductive Out
  | tup (ps : List Part)
  | fld (f : Str)
  | non
structure HndO where
  cls : Str
  ie : Nat
  out : Out
def Out.val (x : Xn) : Out → Option Px
  | .tup ps => (partsV x ps).map .tuple
  | .fld f => x.fields.lookup f
  | .non => some .none
def heardX : List HndO → Xn → (Px → Prop) → Prop
  | [], _, _ => False
  | h :: r, x, k => if x.cls = h.cls then (∃ d, h.out.val x = some d ∧ k d) else heardX r x k
/-- what a lambda sees: what may change is not seen -/
def dropO : Option Rv → Option Rv
  | some (.own _) => none
  | some (.dic _) => none
  | o => o
def Cf.lam (c : Cf) : Cf := ⟨c.env.map dropO, none⟩
def wrapR : Bool → Px → Rv
  | true, d => .d (.tuple [.str "told", d])
  | false, d => .own [d]
/-- x(lambda: body) -/
def eHeard (wrap : Bool) (fb : WE) (ns : List Str) (hs : List HndO) : WE := fun c P _ => fb c.lam (fun r _ => asD r fun d => P (wrapR wrap d) c) fun x _ => x.cls ∈ ns ∧ heardX hs x fun d => P (.d d) c
/-! #### of the heap -/
def wrapQ : Bool → VK → VK
  | true, Q => fun v G => ∀ p, G p = none → Q (.ref p) (upd G p (.tup [.str "told", v]))
  | false, Q => fun v G => ∀ p, G p = none → Q (.ref p) (upd G p (.lst [v]))
def vOut (fs : List (Str × V)) : List Part → Option (List V)
  | [] => some []
  | .st s :: r => (vOut fs r).map (.str s :: ·)
  | .fl f :: r => match fs.lookup f, vOut fs r with
    | some v, some l => some (v :: l)
    | _, _ => none
def outQ (fs : List (Str × V)) (H : Hp) (Q : VK) : Out → Prop
  | .tup ps => ∃ vs, vOut fs ps = some vs ∧ vs.length ≤ 1000 ∧ ∀ p, H p = none → Q (.ref p) (upd H p (.tup vs))
  | .fld f => ∃ v, fs.lookup f = some v ∧ Q v H
  | .non => Q .non H
def hQ (K : PySem.W.Frag) : List (Addr × HndO) → Value → Option Addr → Hp → VK → Prop
  | [], _, _, _, _ => False
  | h :: r, cls, d, H, Q => ∃ hit, PySem.W.exmOne K cls (.ref h.1) = some hit ∧ (hit = true → cls = .ref h.1 ∧ ∃ dd fs, d = some dd ∧ H dd = some (.xd fs) ∧ outQ fs H Q h.2.out) ∧ (hit = false → hQ K r cls d H Q)
def TTh (K : PySem.W.Frag) (wrap : Bool) (hs : List (Addr × HndO)) : (XK → Hp → VK → Prop) → Hp → VK → Prop := fun tl H Q => ∃ Ech : XK, tl Ech H (wrapQ wrap Q) ∧ ∀ cls d H', Ech cls d H' → hQ K hs cls d H' Q
theorem parts_runV {a dd C : Addr} {cls : Value} {ie : Nat} {fs : List (Str × V)} {H : Hp} {σ : L2.St} (hv : σ[ie]? = some (some (.ref a))) (hc : cls = .ref C) (hd : H dd = some (.xd fs)) :
    ∀ (ps : List Part) (vs : List V), vOut fs ps = some vs → ∀ Q : List V → Hp → Prop, Q vs H → tParts a cls (some dd) C ie ps σ H Q
  | [], vs, e, Q, q => by
    cases e
    exact q
  | .st s :: r, vs, e, Q, q => by
    simp only [vOut] at e
    cases er : vOut fs r with
    | none => rw [er] at e; cases e
    | some l =>
      rw [er] at e
      cases e
      exact parts_runV hv hc hd r l er _ q
  | .fl f :: r, vs, e, Q, q => by
    simp only [vOut] at e
    cases ef : fs.lookup f with
    | none => rw [ef] at e; cases e
    | some v =>
      cases er : vOut fs r with
      | none => rw [ef, er] at e; cases e
      | some l =>
        rw [ef, er] at e
        cases e
        exact ⟨.ref a, hv, rfl, hc, dd, fs, v, rfl, hd, ef, parts_runV hv hc hd r l er _ q⟩
section
variable {X : Cx} {Δ : Dx} {am : Addr} {F : Hp} {σ : L2.St} {H H1 : Hp} {c : Cf}
theorem Ok.grown (k : Ok Δ am F σ H c) (e : ExtN H H1) (t : Tabs Δ.T H1) : Ok Δ am F σ H1 c where
  fh := fun a o h => e a o (k.fh a o h) fun ps z => k.tb.2.1 a ps (z ▸ h)
  f0 := k.f0
  fr := k.fr
  tb := ⟨t, k.tb.2⟩
  pr := fun a o h n => e a o (k.pr a o h n) fun ps z => k.tb.2.2 a ps (z ▸ h)
  al := fun a h => by
    obtain ⟨⟨o, h1, h2⟩, h3⟩ := k.al a h
    exact ⟨⟨o, e a o h1 h2, h2⟩, h3⟩
  gn := fun n h => by
    obtain ⟨h1, h2, left, sd, sp, ac, ns, h3, h4⟩ := k.gn n h
    exact ⟨h1, h2, left, sd, sp, ac, ns, e _ _ h3 dK_ok.1, h4⟩
  len := k.len
  sv := fun i r h => by
    obtain ⟨v, h1, h2⟩ := k.sv i r h
    refine ⟨v, h1, ?_⟩
    cases r with
    | d x => exact h2
    | gen => exact h2
    | scr ns => exact h2
    | own xs =>
      obtain ⟨a, vs, e1, e2, e3⟩ := h2
      exact ⟨a, vs, e1, e _ _ e2 lst_ok.1, e3⟩
    | dic D =>
      obtain ⟨a, o, e1, e2, e3, e4, e5⟩ := h2
      exact ⟨a, o, e1, e _ _ e2 e5.ntbl, e3, e4, e5⟩
  di := k.di
/-- what the lambda's body is run over -/
def dxL (K : PySem.W.Frag) (mg : Str → Option Value) (am : Addr) (F H : Hp) (E : XK) : Dx := { dx0 K am none F H with XE := fun y _ _ F' H' => ∀ cls d, XR mg F' H' y cls d → E cls d H' }
theorem lam_get {o : Option Rv} {r : Rv} (h : dropO o = some r) : o = some r ∧ ¬ r.mu := by
  unfold dropO at h
  split at h
  · cases h
  · cases h
  · rename_i n1 n2
    subst h
    refine ⟨rfl, fun z => ?_⟩
    cases r with
    | own xs => exact n1 xs rfl
    | dic D => exact n2 D rfl
    | d x => exact z
    | gen => exact z
    | scr ns => exact z
theorem Ok.lam (k : Ok Δ am F σ H c) (mg : Str → Option Value) (E : XK) : Ok (dxL Δ.K mg am F H E) am F σ H c.lam where
  fh := k.fh
  f0 := Le.refl F
  fr := fun a h => .inl h
  tb := ⟨k.tb.1, k.tb.2.1, unT_not H⟩
  pr := fun a o h _ => unT_of h
  al := fun a h => nomatch h
  gn := fun n h => nomatch h
  len := by
    show σ.length = (c.env.map dropO).length
    rw [List.length_map]
    exact k.len
  sv := fun i r h => by
    have h : (c.env.map dropO)[i]? = some (some r) := h
    rw [List.getElem?_map] at h
    cases q : c.env[i]? with
    | none => rw [q] at h; cases h
    | some o =>
      rw [q] at h
      obtain ⟨rfl, nm⟩ := lam_get (Option.some.inj h)
      obtain ⟨v, h1, h2⟩ := k.sv i r q
      refine ⟨v, h1, ?_⟩
      cases r with
      | d x => exact h2
      | gen => exact h2
      | scr ns => exact h2
      | own xs => exact absurd True.intro nm
      | dic D => exact absurd True.intro nm
  di := fun i j r r' n e1 e2 m1 m2 => by
    have e1 : (c.env.map dropO)[i]? = some (some r) := e1
    rw [List.getElem?_map] at e1
    cases q : c.env[i]? with
    | none => rw [q] at e1; cases e1
    | some o =>
      rw [q] at e1
      exact absurd m1 (lam_get (Option.some.inj e1)).2
theorem val_out {x : Xn} {fs : List (Str × V)} (flds : ∀ f p, x.fields.lookup f = some p → ∃ v, fs.lookup f = some v ∧ Rp F v p) : ∀ (ps : List Part) (l : List Px), partsV x ps = some l → ∃ vs, vOut fs ps = some vs ∧ RpA F vs l ∧ vs.length = ps.length
  | [], l, e => by
    cases e
    exact ⟨[], rfl, .nil, rfl⟩
  | .st s :: r, l, e => by
    simp only [partsV] at e
    cases er : partsV x r with
    | none => rw [er] at e; cases e
    | some l' =>
      rw [er] at e
      cases e
      obtain ⟨vs, h1, h2, h3⟩ := val_out flds r l' er
      exact ⟨.str s :: vs, by simp only [vOut, h1]; rfl, .cons (.str s) h2, by simp [h3]⟩
  | .fl f :: r, l, e => by
    simp only [partsV] at e
    cases ef : x.fields.lookup f with
    | none => rw [ef] at e; cases e
    | some p =>
      cases er : partsV x r with
      | none => rw [ef, er] at e; cases e
      | some l' =>
        rw [ef, er] at e
        cases e
        obtain ⟨v, fv, rv⟩ := flds f p ef
        obtain ⟨vs, h1, h2, h3⟩ := val_out flds r l' er
        exact ⟨v :: vs, by simp only [vOut, fv, h1], .cons rv h2, by simp [h3]⟩
def SeenO (K : PySem.W.Frag) (mg : Str → Option Value) (ns : List Str) (hs : List (Addr × HndO)) : Prop := ∀ n ∈ ns, ∃ C, mg n = some (.ref C) ∧ ∀ h ∈ hs, PySem.W.exmOne K (.ref C) (.ref h.1) = some (decide (n = h.2.cls)) ∧ (n = h.2.cls → C = h.1)
def Out.short : Out → Prop
  | .tup ps => ps.length ≤ 1000
  | .fld _ => True
  | .non => True
/-- THE RULE for x(lambda: body) -/
theorem de_heard {T : List (Addr × Str)} {e : Expr} {wrap : Bool} {fb : WE} {ns : List Str} {hs : List (Addr × HndO)} (hT : TabF.T X.K = T) (hK : Δ.K = X.K) (sn : SeenO X.K X.mg ns hs) (sh : ∀ h ∈ hs, h.2.out.short)
    (hp : PE X e (tLam T (TTh X.K wrap hs) fun E σ H Q => ∃ am F H0, tE (dxL X.K X.mg am F H0 E) fb σ H Q)) : PE X e (tE Δ (eHeard wrap fb ns (hs.map (·.2)))) := by
  refine hp.imp fun σ H Q ⟨am, F, c, P, XX, ok, hf, kq, kx⟩ => ?_
  have eT : Δ.T = T := (congrArg TabF.T hK).trans hT
  refine ⟨fun p hp => ok.tb.1 p (eT ▸ hp), fun H1 eN tabs => ?_⟩
  have ok1 := ok.grown eN (fun p hp => tabs p (eT ▸ hp))
  let Ech : XK := fun cls d H' => ∃ y F', y.cls ∈ ns ∧ heardX (hs.map (·.2)) y (fun z => P (.d z) c) ∧ Le F F' ∧ Ok Δ am F' σ H' c ∧ XR X.mg F' H' y cls d
  refine ⟨Ech, ⟨am, F, H1, ?_⟩, ?_⟩
  · rw [← hK]
    refine ⟨am, F, c.lam, _, _, ok1.lam X.mg Ech, hf, fun r c1 F1 v H2 p1 l1 o1 s1 => ?_, fun y g F' H' p1 l1 fn cls d xr => ?_⟩
    · obtain ⟨x, F2, p2, l2, o2, rv⟩ := s1.data o1 p1
      have fn := o2.fin
      have ok2 := ok1.on (l1.trans l2) (g' := c1.g) (am' := am) (H' := H2) ⟨fn.fh, fn.f0, fn.fr, fn.tb, fn.pr, fn.al, fn.gn⟩
      cases wrap with
      | true =>
        intro p hp
        obtain ⟨o3, l3, rp⟩ := ok2.tupN hp (.cons (.str "told") (.cons rv .nil))
        exact kq _ c _ _ _ p2 ((l1.trans l2).trans l3) o3 (.of rp)
      | false =>
        intro p hp
        exact kq _ c _ _ _ p2 (l1.trans l2) (ok2.alloc hp (.lst [v])) (Rs.fresh ok2 hp (.cons rv .nil)).2
    · exact ⟨y, F', p1.1, p1.2, l1, ok1.on (g' := g) (am' := am) l1 ⟨fn.fh, fn.f0, fn.fr, fn.tb, fn.pr, fn.al, fn.gn⟩, xr⟩
  · rintro cls d H' ⟨y, F', yn, hx, l1, ok2, CA, dd, fs, m1, rfl, rfl, hdd, flds⟩
    obtain ⟨C2, m2, look⟩ := sn _ yn
    cases m1.symm.trans m2
    have key : ∀ l : List (Addr × HndO), (∀ h ∈ l, h.2.out.short) → heardX (l.map (·.2)) y (fun z => P (.d z) c) → (∀ h ∈ l, PySem.W.exmOne X.K (.ref CA) (.ref h.1) = some (decide (y.cls = h.2.cls)) ∧ (y.cls = h.2.cls → CA = h.1)) → hQ X.K l (.ref CA) (some dd) H' Q := by
      intro l
      induction l with
      | nil => exact fun _ z _ => False.elim z
      | cons h r ih =>
        intro sh qt look
        obtain ⟨ex, same⟩ := look h (.head _)
        have qt : heardX (h.2 :: r.map (·.2)) y (fun z => P (.d z) c) := qt
        unfold heardX at qt
        refine ⟨_, ex, fun hit => ?_, fun no => ?_⟩
        · have e1 : y.cls = h.2.cls := of_decide_eq_true hit
          rw [if_pos e1] at qt
          obtain ⟨z, q1, q2⟩ := qt
          refine ⟨by rw [same e1], dd, fs, rfl, hdd, ?_⟩
          have sh1 := sh h (.head _)
          cases ho : h.2.out with
          | tup ps =>
            rw [ho] at q1 sh1
            cases er : partsV y ps with
            | none => simp only [Out.val, er] at q1; cases q1
            | some l2 =>
              have q1 : (partsV y ps).map PyData.tuple = some z := q1
              rw [er] at q1
              cases q1
              obtain ⟨vs, h1, h2, h3⟩ := val_out flds ps l2 er
              refine ⟨vs, h1, by rw [h3]; exact sh1, fun p hp => ?_⟩
              obtain ⟨o4, l4, rp⟩ := ok2.tupN hp h2
              exact kq _ c _ _ _ q2 (l1.trans l4) o4 (.of rp)
          | fld f =>
            rw [ho] at q1
            obtain ⟨v, fv, rv⟩ := flds f z q1
            exact ⟨v, fv, kq _ c _ _ _ q2 l1 ok2 (.of rv)⟩
          | non =>
            rw [ho] at q1
            cases q1
            exact kq _ c _ _ _ q2 l1 ok2 (.of .non)
        · have e1 : ¬ y.cls = h.2.cls := of_decide_eq_false no
          rw [if_neg e1] at qt
          exact ih (fun x hx => sh x (.tail _ hx)) qt fun h' m => look h' (.tail _ m)
    exact key hs sh hx look
/-- the lambda's body, read over what it sees -/
theorem lam_body {B : Around} {out : List Env} {s : Shared} {H : Hp} {E : XK} {scope : Scope} {f cA : Addr} {body : Expr} {fb : WE} {K : PySem.W.Frag} (hK : X.K = K)
    (h : ∀ Δ' : Dx, Δ'.K = K → Takes (lamCx X B out s H E scope f cA) (WD X.mg Δ') → PE (lamCx X B out s H E scope f cA) body (tE Δ' fb)) :
    PE (lamCx X B out s H E scope f cA) body fun σ H Q => ∃ am F H0, tE (dxL X.K X.mg am F H0 E) fb σ H Q :=
  ⟨fun pins s' σ H' Q I ⟨am, F, H0, z⟩ => (h (dxL X.K X.mg am F H0 E) hK ((takes_of (X := lamCx X B out s H E scope f cA) (E := E) rfl rfl rfl rfl).imp fun cls d σ H ⟨y, g', am', F', fn, xr, ex⟩ => ex cls d xr)).run pins s' σ H' Q I z⟩
end
end Dl
set_option Elab.async false
set_option maxRecDepth 100000
set_option linter.all false
set_option autoImplicit false
set_option maxHeartbeats 1000000
namespace Dl
open PySem PySem.Spec PyProof.Rows L2 LamX
variable [TabF]
/-! ### the end of a law whose defs hand lambdas on -/
def emptyT : Obj := { cls := .none, data := .fields #[] }
/-- the script's list and the empty tables: nothing else is tracked -/
def OnlyT (ts : List Addr) (H : Hp) : Prop := (∀ b ∈ ts, H b = some (.tbl #[])) ∧ ∀ b, H b = none ∨ b ∈ ts ∨ ∃ o xs, H b = some (.frz o (.lst xs))
theorem law_callXT {P : Program} {w : World} {K : PySem.W.Frag} {mg mb : Str → Option Value} {CX : CXT} {k : Nat} {fa a : Addr} {cs : List (Addr × Addr)} {fd : FuncData} {x : Str} {sp : Sp} {s : Shared} {vs : List Value} {ns : List Int}
    (kin : K.In s.heap) (hmg : s.heap.Ns mainGlobals mg) (hmb : s.heap.Ns builtinsNs mb) (boot : ∀ x : Str, x ≠ "__name__" → mb x = bootBuiltins x) (lim : s.heap.NoLimit) (gens : s.gens = #[])
    (tabs : ∀ p ∈ cs, s.heap.get? p.2 = some emptyT) (outK : ∀ p ∈ cs, K.lookup p.2 = none) (codes : ∀ p ∈ cs, PySem.W.CodeHd s.heap p.1 p.2)
    (hbm : ∃ (bm : Addr) (ob : Obj), mg "__builtins__" = some (.ref bm) ∧ bm ≠ builtinsNs ∧ s.heap.get? bm = some ob ∧ ob.cls = .type "module" ∧ ob.dict = some builtinsNs ∧ ob.data = .plain)
    (ha : s.heap.get? a = some { cls := .type "list", data := .seq vs.toArray }) (hi : IntsAre vs ns) (hl : ns.length ≤ sizeLine) (hr : RoomG k callerA)
    (F : ∀ base : Heap, K.In base → base.Ns mainGlobals mg → (∀ p ∈ cs, TabB base mg p.1 p.2) → FnG P w K mg base CX k fa fd [x] sp) (bind : ∀ (s : Shared) (u : Value), BindsTo s fd ⟨[u], []⟩ [(x, u)])
    (hsp : ∀ H : Hp, OnlyT (cs.map (·.2)) H → SqL K H a (ns.map V.int) → sp [.ref a] H (fun v _ => v = .bl true) fun _ _ _ => False)
    (hCX : ∀ H e s', CX [] H s (fun _ _ _ => False) e s' → False) :
    codeAny (model P w) callerA (.call (.ref fa) ⟨[.ref a], []⟩) (fun r s' => r = .ok (.ret (.bool true)) ∧ OldK s.heap s'.heap ∧ s'.os = s.os ∧ AllBare s'.gens) s := by
  let ts := cs.map (·.2)
  let L : Obj := { cls := .type "list", data := .seq vs.toArray }
  have tab_at : ∀ b ∈ ts, s.heap.get? b = some emptyT ∧ K.lookup b = none := fun b hb => by
    obtain ⟨p, hp, rfl⟩ := List.mem_map.mp hb
    exact ⟨tabs p hp, outK p hp⟩
  have a_no : a ∉ ts := fun z => by
    have e := (tab_at a z).1
    rw [ha] at e
    have e2 : Data.seq vs.toArray _ = Data.fields #[] := congrArg Obj.data (Option.some.inj e)
    cases e2
  let H : Hp := fun b => if b ∈ ts then some (.tbl #[]) else if b = a ∧ K.lookup a = none then some (.frz L (.lst (ns.map V.int))) else none
  have at_t : ∀ b ∈ ts, H b = some (.tbl #[]) := fun b hb => if_pos hb
  have hH : ∀ b u, H b = some u → (b ∈ ts ∧ u = .tbl #[]) ∨ (b = a ∧ K.lookup a = none ∧ u = .frz L (.lst (ns.map V.int))) := fun b u z => by
    by_cases q0 : b ∈ ts
    · exact .inl ⟨q0, (Option.some.inj ((if_pos q0).symm.trans z)).symm⟩
    · have z := (if_neg q0).symm.trans z
      by_cases q : b = a ∧ K.lookup a = none
      · exact .inr ⟨q.1, q.2, (Option.some.inj ((if_pos q).symm.trans z)).symm⟩
      · cases (if_neg q).symm.trans z
  have only : OnlyT ts H := ⟨at_t, fun b => by
    cases q : H b with
    | none => exact .inl rfl
    | some u =>
      rcases hH b u q with z | z
      · exact .inr (.inl z.1)
      · exact .inr (.inr ⟨_, _, congrArg some z.2.2⟩)⟩
  have rv := vals_ints hi
  have hsz : (ns.map V.int).length ≤ sizeLine := by rw [List.length_map]; exact hl
  have sq : SqL K H a (ns.map V.int) := by
    cases q : K.lookup a with
    | none => exact .inl (.inr ⟨L, (if_neg a_no).trans (if_pos ⟨rfl, q⟩)⟩)
    | some o =>
      have e := kin a o q
      rw [ha] at e
      cases e
      exact .inr ⟨_, vs.toArray, _, q, rfl, rfl, rfl, by rw [List.size_toArray, hi.length]; exact hl, by simpa using rv⟩
  have hok : HOk P w H s.heap := fun b u z => by
    rcases hH b u z with ⟨h1, rfl⟩ | ⟨rfl, _, rfl⟩
    · exact (tab_at b h1).1
    · exact ⟨ha, hsz, vs, _, rv, ha⟩
  have base_of : ∀ {b : Addr} {o : Obj}, s.heap.get? b = some o → H b = none → (hidT s.heap H).get? b = some o := fun e n => hidT_get e n
  have other : ∀ {b : Addr} {o : Obj}, s.heap.get? b = some o → (∀ vs n, o.data ≠ .seq vs n) → o.data ≠ .fields #[] → H b = none := fun {b o} e d d2 => by
    cases q : H b with
    | none => rfl
    | some u =>
      rcases hH b u q with ⟨h1, _⟩ | ⟨rfl, _, _⟩
      · rw [(tab_at b h1).1] at e
        cases e
        exact absurd rfl d2
      · rw [ha] at e
        cases e
        exact absurd rfl (d _ _)
  have ns_of : ∀ {b : Addr} {m : Str → Option Value}, s.heap.Ns b m → (hidT s.heap H).Ns b m := fun {b m} ⟨o, es, ep, e, d, r⟩ => ⟨o, es, ep, base_of e (other e (fun vs n z => (by rw [d] at z; cases z)) fun z => (by rw [d] at z; cases z)), d, r⟩
  have kb : K.In (hidT s.heap H) := fun b o e => base_of (kin b o e) (by
    cases q : H b with
    | none => rfl
    | some u =>
      rcases hH b u q with ⟨h1, _⟩ | ⟨rfl, z, _⟩
      · rw [(tab_at b h1).2] at e
        cases e
      · rw [z] at e
        cases e)
  have TB : ∀ p ∈ cs, TabB (hidT s.heap H) mg p.1 p.2 := fun p hp => by
    have tp := tabs p hp
    have gP : mainGlobals ≠ p.2 := fun z => by
      obtain ⟨o, es, ep, e, d, _⟩ := hmg
      rw [z, tp] at e
      cases e
      cases d
    refine ⟨?_, ?_, gP⟩
    · obtain ⟨o, us, file, tf, flags, tg, inF, text, tt, e1, r1, r2, r3, rest⟩ := codes p hp
      exact ⟨o, us, file, tf, flags, tg, inF, text, tt, base_of e1 (other e1 (fun vs n z => by rw [r2] at z; cases z) fun z => by rw [r2] at z; cases z; simp at r3), r1, r2, r3, rest⟩
    · obtain ⟨bm, ob, b1, b2, b3, b4, b5, b6⟩ := hbm
      have n1 : bm ≠ mainGlobals := fun q => by
        obtain ⟨o, es, ep, e, d, _⟩ := hmg
        rw [q, e] at b3
        cases b3
        rw [d] at b6
        cases b6
      have n2 : bm ≠ p.2 := fun q => by
        rw [q, tp] at b3
        cases b3
        cases b6
      exact ⟨bm, ob, b1, b2, n1, n2, base_of b3 (other b3 (fun vs n z => by rw [b6] at z; cases z) fun z => by rw [b6] at z; cases z), b4, b5, b6⟩
  have e0 : Env0 P w K mg (hidT s.heap H) callerA [] s H :=
    ⟨rfl, ⟨kb, ns_of hmg, ⟨mb, ns_of hmb, boot⟩, let ⟨mc, h1, h2⟩ := lim; ⟨mc, ns_of h1, h2⟩⟩, fun b o e => of_hidT e, Nat.le_of_eq (hidT_size _ _), trivial, fun b hb => (by cases hb), hok, .of_eq gens⟩
  refine codeAny_mono ((F _ kb (ns_of hmg) TB).run (us := [.ref a]) (vs := [.ref a]) hr e0 (bind s (.ref a)) (.cons rfl .nil) (hsp H only sq)) fun r s' got => ?_
  match r, got with
  | .error e, got => exact (hCX H e s' got).elim
  | .ok (.ret u), ⟨v, H', os, bare, un, hok', ru, qv⟩ =>
    have qv : v = .bl true := qv
    subst qv
    obtain rfl : u = Value.bool true := ru
    have stay : ∀ b o, b ∉ ts → s.heap.get? b = some o → s'.heap.get? b = some o := fun b o nb e => by
      cases q : H b with
      | none => exact un.keep b o e q (fun z => by cases z) (fun z => by cases z)
      | some u =>
        rcases hH b u q with ⟨h1, _⟩ | ⟨rfl, _, rfl⟩
        · exact absurd h1 nb
        · obtain ⟨e2, _⟩ := hok' b _ (un.frzs b L _ q)
          rw [ha] at e
          cases e
          exact e2
    have more : ∀ b ∈ ts, ∃ l : Array Value, s'.heap.get? b = some { cls := .none, data := .fields l } := fun b hb => by
      obtain ⟨l, z⟩ := un.tbls b #[] (at_t b hb)
      exact ⟨_, hok' b _ z⟩
    refine ⟨rfl, ⟨fun b o e => ?_, fun b o e => ?_⟩, os, bare⟩
    · by_cases hb : b ∈ ts
      · obtain ⟨l, hm⟩ := more b hb
        obtain ⟨p, hp, rfl⟩ := List.mem_map.mp hb
        have tp := tabs p hp
        rw [e] at tp
        cases tp
        exact .inr (.inl ⟨((codes p hp).tab (tabs p hp)).isCodeTable, rfl, #[], l, rfl, by rw [Array.empty_append]; exact hm⟩)
      · exact .inl (stay b o hb e)
    · by_cases hb : b ∈ ts
      · obtain ⟨l, hm⟩ := more b hb
        exact ⟨_, hm⟩
      · exact ⟨o, stay b o hb e⟩
theorem walkXT {l : PySem.W.OpenLaw} {n k : Nat} {q : Program} {loose : List Str} {XP : (Str → Option Value) → Heap → Prop} {YP : World → Heap → Prop} {d : DefRec} {CX : CXT} {x : Str}
    (h1 : l.most = some n) (h2 : n ≤ sizeLine) (h3 : d.params.defaults = []) (hr : RoomG k callerA)
    (F : ∀ (w : World) (mg : Str → Option Value) (fa : Addr) (h : Heap), YP w h → h.Ns mainGlobals mg → mg d.name = some (.ref fa) →
      ∃ (K : PySem.W.Frag) (fd : FuncData) (sp : Sp) (cs : List (Addr × Addr)), K.In h ∧ (∀ (s : Shared) (u : Value), BindsTo s fd ⟨[u], []⟩ [(x, u)]) ∧ (∀ p ∈ cs, h.get? p.2 = some emptyT) ∧ (∀ p ∈ cs, K.lookup p.2 = none) ∧ (∀ p ∈ cs, PySem.W.CodeHd h p.1 p.2) ∧
        (∀ (H : Hp) (a : Addr) (ns : List Int), ns.length ≤ n → OnlyT (cs.map (·.2)) H → SqL K H a (ns.map V.int) → sp [.ref a] H (fun v _ => v = .bl true) fun _ _ _ => False) ∧
        ∀ base : Heap, K.In base → base.Ns mainGlobals mg → (∀ p ∈ cs, TabB base mg p.1 p.2) → FnG l.prog w K mg base CX k fa fd [x] sp)
    (hCX : ∀ (H : Hp) (s : Shared) (e : Value) (s' : Shared), CX [] H s (fun _ _ _ => False) e s' → False) : PySem.W.WalkO q loose XP YP l.row.toRowW d [] (fun f vs => PySem.call f vs) := by
  refine Att.attach_call h1 h3 fun w s₀ s₁ mg mb fa o pm cd doc a vs ns G Y ho hd hcd hmg hobj hints hlen hg => ?_
  obtain ⟨K, fd, sp, cs, kx, bind, t1, t2, t3, want, run⟩ := F w mg fa _ Y G.T.g hmg
  exact law_callXT kx G.T.g G.T.b G.T.builtins G.T.nolimit hg t1 t2 t3 G.T.bmain hobj hints (Nat.le_trans hlen h2) hr run bind (fun H o s => want H a ns hlen o s) fun H e s' => hCX H s₁ e s'
end Dl
set_option Elab.async false
set_option maxRecDepth 100000
set_option linter.all false
set_option autoImplicit false
set_option maxHeartbeats 1000000
namespace Dl
open PySem PySem.Spec PyProof.Rows L2 LamX
variable [TabF]
/-! ### defs whose code object is known: they make lambdas -/
section
variable {P : Program} {w : World} {K : PySem.W.Frag} {mg : Str → Option Value} {base : Heap} {f : Addr} {fd : FuncData} {k : Nat}
theorem fnG_ofC {CX : CXT} {x qual : Str} {params : Arguments} {body : List Stmt} {scope : Scope} {dvs : List V} {kws : List (Str × V)} {N ps : List Str} {sp : Sp} (F : FunD K x qual params body scope dvs kws f fd) (S : FnScope N ps scope) (len : ∀ vs H Q E, sp vs H Q E → vs.length = ps.length)
    (hb : ∀ (A : Around) (outer : List Env) (s : Shared) (H : Hp) (vs : List V) (Q : VK) (E : XK), RoomG k (A.deeper (envOfC qual scope s.heap.objs.size f fd.code)) → sp vs H Q E →
      ∃ t, PSs (cxOf CX P w K mg base N qual scope f fd.code A outer s H E) body t ∧ t { nx := fun _ H' => Q .non H', rt := Q } (L2.start N vs) H) : FnG P w K mg base CX (k + 1) f fd ps sp := by
  obtain ⟨_, _, _, _, _, _, _, cdv, _, _, rfl, look, code, _, _⟩ := F.ex
  refine ⟨len, fun {A outer s H args us vs Q E} room e0 bind rel want => ?_⟩
  have stay : ∀ b o, base.get? b = some o → s.heap.get? b = some o := fun b o e => (e0.bs b o e).1
  have kin : K.In s.heap := e0.mod.kin.keeps stay
  refine codeAny_call_function room.depth (kin _ _ look) rfl S.co S.gen rfl (PySem.W.codeRec_of kin code) (bind _ _ _ _ ?_)
  refine wpAny_newFunctionEnv_cells S.kind (fun y hy => ?_) fun env he s1 x => ?_
  · rcases S.par y.1 (List.of_mem_zip hy).1 with q | q
    · exact .inl q
    · exact .inr ⟨q, PySem.W.cellsFrom_some _ _ _ (.inl q)⟩
  · subst he
    obtain ⟨t, run, ok⟩ := hb A outer s H vs Q E (room.deeper _) want
    have I : Inv (cxOf CX P w K mg base N qual scope f cdv A outer s H E) [] (L2.start N vs) H s1 := inv_start S room.hd e0 (len _ _ _ _ want) rel x
    refine ⟨(e0.mod.nolimit.keeps stay).keeps x.toInCall.keep, codeAny_func (wpAny_mono (run.run [] s1 (L2.start N vs) H _ I ok) (fun fl s' got => ?_) fun _ _ got => got)⟩
    have fin : ∀ {σ' : L2.St} {H' : Hp} {v : V} {u : Value}, Inv (cxOf CX P w K mg base N qual scope f cdv A outer s H E) [] σ' H' s' → RelV v u → Q v H' → CE outer P w H s Q u s' := fun J r q => ⟨_, _, J.os, J.bare, J.base, J.hok, r, q⟩
    cases fl with
    | ret u =>
      obtain ⟨_, _, _, J, r, q⟩ := got
      exact fin J r q
    | next =>
      obtain ⟨_, _, J, q⟩ := got
      exact fin (v := .non) (u := .none) J rfl q
    | brk => obtain ⟨_, _, _, q⟩ := got; exact q.elim
    | cont => obtain ⟨_, _, _, q⟩ := got; exact q.elim
theorem def_okC {x qual : Str} {st : Stmt} {N ps : List Str} {Pr : Cn} (nog : Bool) (F : FunD K x qual (defArgs st) (defBody st) (defScope st) [] [] f fd) (S : FnScope N ps (defScope st)) (hmg : mg x = some (.ref f)) (bi : Binds K fd ps [])
    (fw : WS) (len : ∀ rs g Q, Pr rs g Q → rs.length = ps.length) (hn : nog = true → ∀ rs g Q, Pr rs g Q → g = none) (spec : ∀ rs g Q, Pr rs g Q → fw (startC N.length rs g) (endP Q) fun _ _ => False)
    (hbody : ∀ (A : Around) (outer : List Env) (s : Shared) (H : Hp) (E : XK) (Δ : Dx), RoomG k (A.deeper (PyProof.Rows.envOfC qual (defScope st) s.heap.objs.size f fd.code)) → Δ.K = K → (nog = true → Δ.a0 = none) →
      PSs (cxOf CX0 P w K mg base N qual (defScope st) f fd.code A outer s H E).nox (defBody st) (tS Δ fw)) : CalD P w K mg base (k + 1) x Pr := by
  refine ⟨f, fd, ps, fnG_ofC F S (fun vs H Q E h => ?_) (fun A outer s H vs Q E hr h => ?_), hmg, F.kp, bi⟩
  · obtain ⟨am, G, rs, g, q, _, _, _, h3, h4, _⟩ := h
    rw [← h3.length]
    exact len rs g q h4
  · obtain ⟨am, G, rs, g, q, h1, ht, h2, h3, h4, h5⟩ := h
    refine ⟨_, PSs.nox (hbody A outer s H E (dx0 K am g G H) hr rfl (fun z => by rw [hn z rs g q h4]; rfl)), am, G, _, _, _, start_ok h1 ht h2 h3, spec rs g q h4, ⟨fun c am' F' σ' H' p l o => ?_, fun _ _ _ _ _ z => z.elim, fun _ _ _ _ _ z => z.elim, fun r g' am' F' H' v p l fn s => ?_⟩, fun _ _ _ _ _ z => z.elim⟩
    · exact h5 _ _ am' F' _ H' p l o.fin .non
    · exact h5 r g' am' F' v H' p l fn s
end
/-- what a def wants to know of its code object and the table there -/
structure LamK (K : PySem.W.Frag) (base : Heap) (mg : Str → Option Value) (x : Str) (fd : FuncData) (c P : Addr) : Prop where
  code : fd.code = .ref c
  tb : TabB base mg c P
  inT : (P, (x ++ ".<locals>.") ++ "<lambda>") ∈ TabF.T K
  one : ∀ p ∈ TabF.T K, p.1 = P → p.2 = (x ++ ".<locals>.") ++ "<lambda>"
section
variable {X : Cx} {Δ : Dx}
/-- THE RULE for x(lambda: body), x a def of the top that tells what the lambda gives -/
theorem de_lam {x a y : Str} {g c P : Addr} {k : Nat} {st : Stmt} {fd fdy : FuncData} {Ng : List Str} {params : Arguments} {body : Expr} {scope : Scope} {p lpos pos : Pos} {wrap : Bool} {fb : WE} {ns : List Str} {hs : List (Addr × HndO)}
    (lam : LamK X.K X.base X.mg y fdy c P) (hcode : X.env.code = fdy.code) (hq : X.env.qual = y ++ ".<locals>.") (F : FunD X.K x x (defArgs st) (defBody st) (defScope st) [] [] g fd) (hg : Gl X x) (hm : X.mg x = some (.ref g)) (bi : Binds X.K fd [a] []) (Sg : FnScope Ng [a] (defScope st))
    (hNg : Ng[0]? = some a) (hva : Vis (defScope st) a) (hG : ∀ cdv, GivesG X Ng x a (X.env.qual ++ "<lambda>") (defScope st) g cdv (defBody st) (TTh X.K wrap hs)) (hr : RoomG (k + 2) X.A) (hK : Δ.K = X.K) (sn : SeenO X.K X.mg ns hs) (sh : ∀ h ∈ hs, h.2.out.short)
    (L : lamSB X.env.scope scope = true) (hdef : defaultsOf params X.env = ([], []))
    (nb : ∀ (q : Str) (cl : List (Str × Addr)) (pm cv ctv : Value), bindArgs (PySem.W.kla_fn "<lambda>" q params body scope cl pm cv ctv) ⟨[], []⟩ = pure [])
    (hbody : ∀ (B : Around) (out : List Env) (s : Shared) (H : Hp) (E : XK) (f cA : Addr), RoomG k (B.deeper (lamEnv X scope s.heap.objs.size f cA)) → ∀ Δ' : Dx, Δ'.K = X.K → Takes (lamCx X B out s H E scope f cA) (WD X.mg Δ') → PE (lamCx X B out s H E scope f cA) body (tE Δ' fb))
    (hdb : (x == ("__debug__" : Str)) = false := by decide) (d1 : (a == ("__debug__" : Str)) = false := by decide) (d2 : (a == ("__classdict__" : Str)) = false := by decide) :
    PE X (.Call (.Name x p) [.Lambda params body scope lpos] [] pos) (tE Δ (eHeard wrap fb ns (hs.map (·.2)))) := by
  obtain ⟨oc, od, dV, kV, doc, pm, an, cdv, ct, osl, rfl, lk, hcd, _, _⟩ := F.ex
  exact de_heard (T := TabF.T X.K) rfl hK sn sh (lamcallG (t := fun E σ H Q => ∃ am F H0, tE (dxL X.K X.mg am F H0 E) fb σ H Q) hg hm F.kp lk hcd bi Sg hNg hva (hG cdv) lam.tb (hcode.trans lam.code) (hq ▸ lam.inT) (hq ▸ lam.one) hr (lamS_by L) hdef nb
    (fun B out s H E f cA hr2 => lam_body (X := X) rfl fun Δ' e tk => hbody B out s H E f cA hr2 Δ' e tk) hdb d1 d2)
end
/-- of the head -/
theorem lamK_of {K : PySem.W.Frag} {base : Heap} {mg : Str → Option Value} {x : Str} {params : Arguments} {body : List Stmt} {scope : Scope} {fd : FuncData} {p : He.Defn} (F : FunD K x x params body scope [] [] (He.fAd K p) fd) (tb : TabB base mg (He.cT K p).1 (He.cT K p).2)
    (inT : ((He.cT K p).2, (x ++ ".<locals>.") ++ "<lambda>") ∈ TabF.T K) (one : ∀ r ∈ TabF.T K, r.1 = (He.cT K p).2 → r.2 = (x ++ ".<locals>.") ++ "<lambda>") : LamK K base mg x fd (He.cT K p).1 (He.cT K p).2 := by
  refine ⟨?_, tb, inT, one⟩
  obtain ⟨oc, od, dV, kV, doc, pm, an, cdv, ct, osl, rfl, lk, hcd, _, _⟩ := F.ex
  obtain ⟨c, rfl⟩ := He.codeIn_ref hcd
  have := He.codeOf_eq lk (c := c) rfl
  show Value.ref c = Value.ref (He.codeOf K p)
  rw [this]
end Dl
set_option Elab.async false
set_option maxRecDepth 100000
set_option linter.all false
set_option autoImplicit false
set_option maxHeartbeats 1000000
namespace Dl
open PySem L2
variable [TabF]
/-! ### exceptions with two fields -/
def rz2 (rs : List Rv) (k : Px → Px → Prop) : Prop := match rs with
  | [.d p, .d q] => k p q
  | _ => False
theorem rz2_d {p q : Px} {k : Px → Px → Prop} : rz2 [.d p, .d q] k = k p q := rfl
def sRaise2 (x f1 f2 : Str) (fr : WA) : WS := fun c _ X => fr c (fun rs c1 => rz2 rs fun p q => X ⟨x, [(f1, p), (f2, q)]⟩ c1.g) X
/-! ### of runs -/
theorem lam_eq {l : List (Option Rv)} {g : Option Nat} : Cf.lam ⟨l, g⟩ = ⟨l.map dropO, none⟩ := rfl
theorem lamM_n : ([] : List (Option Rv)).map dropO = [] := rfl
theorem lamM_c {o : Option Rv} {l : List (Option Rv)} : (o :: l).map dropO = dropO o :: l.map dropO := rfl
theorem dropO_d {x : Px} : dropO (some (.d x)) = some (.d x) := rfl
theorem dropO_g : dropO (some .gen) = some .gen := rfl
theorem dropO_s {ns : List Int} : dropO (some (.scr ns)) = some (.scr ns) := rfl
theorem dropO_n : dropO none = none := rfl
theorem dropO_o {xs : List Px} : dropO (some (.own xs)) = none := rfl
theorem dropO_k {D : Dic} : dropO (some (.dic D)) = none := rfl
theorem wrapR_t {d : Px} : wrapR true d = .d (.tuple [.str "told", d]) := rfl
theorem wrapR_f {d : Px} : wrapR false d = .own [d] := rfl
end Dl
set_option Elab.async false
set_option maxRecDepth 100000
set_option linter.all false
set_option autoImplicit false
namespace Dl
open PySem L2
variable [TabF]
/-- the law's promise at its entry -/
theorem sp_law {K : PySem.W.Frag} {Pr : Cn} {H : Hp} {a : Addr} {ns : List Int} {E : XK} (tabs : ∀ p ∈ TabF.T K, H p.1 = some (.tbl #[])) (hS : SqL K H a (ns.map V.int)) (hP : Pr [.scr ns] none fun r _ => r = .d (.bool true)) : spD K Pr [.ref a] H (fun v _ => v = .bl true) E := by
  let F : Hp := fun b => if b = a then unT H a else none
  have e : F a = unT H a := if_pos rfl
  have sq : SqL K F a (ns.map V.int) := by
    rcases hS with (h | ⟨o, h⟩) | h
    · exact .inl (.inl (e.trans (unT_to h fun ps z => nomatch z)))
    · exact .inl (.inr ⟨o, e.trans (unT_to h fun ps z => nomatch z)⟩)
    · exact .inr h
  refine ⟨a, F, [.scr ns], none, fun r _ => r = .d (.bool true), fun b o h => ?_, ⟨fun p hp => .nil (tabs p hp), fun b ps h => ?_⟩, fun n z => (nomatch z), .scr sq .nil, hP, fun r g' am' F' v H' er l fn s => ?_⟩
  · by_cases hb : b = a
    · subst hb
      rw [e] at h
      exact unT_of h
    · have : F b = none := if_neg hb
      rw [this] at h
      cases h
  · by_cases hb : b = a
    · subst hb
      rw [e] at h
      exact unT_not H _ _ h
    · have : F b = none := if_neg hb
      rw [this] at h
      cases h
  · subst er
    cases s
    rfl
end Dl
set_option Elab.async false
set_option maxRecDepth 100000
set_option linter.all false
set_option autoImplicit false
set_option maxHeartbeats 1000000
namespace Dl
open PySem L2
variable [TabF]
/-! ### a def that may raise, called where it does not -/
theorem fn_calm {P : Program} {w : World} {K : PySem.W.Frag} {mg : Str → Option Value} {base : Heap} {k : Nat} {f : Addr} {fd : FuncData} {ps : List Str} {sp : Sp} (F : FnG P w K mg base (L2.CX P w) k f fd ps sp) :
    FnG P w K mg base CX0 k f fd ps (fun vs H Q _ => sp vs H Q fun _ _ _ => False) :=
  ⟨fun vs H Q E h => F.len vs H Q _ h, fun {A outer s H args us vs Q E} room e0 bd rel h => codeAny_mono (F.run room e0 bd rel h) fun r s' got => by
    match r, got with
    | .error e, got =>
      obtain ⟨_, _, _, _, _, _, _, _, _, _, _, _, z⟩ := (show L2.CX P w outer H s (fun _ _ _ => False) e s' from got)
      exact z.elim
    | .ok (.ret u), got => exact got
    | .ok .next, got => exact got
    | .ok .brk, got => exact got
    | .ok .cont, got => exact got⟩
section
variable {X : Cx} {Δ : Dx} {e : Expr} {es : List Expr} {fr : WA} {pos : Pos}
theorem de_callX0 {k : Nat} {x : Str} {p : Pos} {Pr : CnX} (C : CalX X.prog X.w X.K X.mg X.base k x Pr) (hX : ∀ y g am F H, Δ.XE y g am F H → False) (hK : Δ.K = X.K) (hr : RoomG k X.A) (hg : Gl X x) (ha : PA X (e :: es) (tA Δ fr)) (hdb : (x == ("__debug__" : Str)) = false := by decide)
    (he : starEach (e :: es) X.env = (false, eval e X.env) :: starEach es X.env := by rfl) (hpl : (backTo pos (starEach es X.env)).any (·.1) = false := by rfl) :
    PE X (.Call (.Name x p) (e :: es) [] pos) (tE Δ (eCallX Pr fr)) := by
  obtain ⟨f, fd, ps, h1, h2, h3, h4⟩ := C.ex
  refine (pe_callX (fn_calm h1) hr hg h2 h3 h4 pass0 ha hdb he hpl).imp fun σ H Q ⟨am, F, c, P, XX, ok, hf, kq, kx⟩ => ?_
  refine ⟨am, F, c, _, XX, ok, hf, fun rs c1 F1 vs H1 p1 l1 o1 s1 => ?_, kx⟩
  show spX X.K X.mg Pr (vs ++ []) H1 Q _
  rw [List.append_nil]
  refine ⟨am, F1, rs, none, _, _, o1.fh, o1.tbs hK, fun n z => (nomatch z), s1.to hK (fun _ => rfl), p1.2, fun r g' am' F' v H' pr l fn s => ?_, fun y g' am' F' H' cls d py l fn xr => ?_⟩
  · obtain ⟨o', s'⟩ := o1.back (g := none) (.inl rfl) l (hK ▸ fn) (hK ▸ s) pr.1
    exact kq r c1 F' v H' pr.2 (l1.trans l) o' s'
  · have fin := (o1.on l (hK ▸ fn)).fin
    exact hX _ _ _ _ _ (kx y c1.g F' H' py (l1.trans l) fin)
end
section
variable {P : Program} {w : World} {K : PySem.W.Frag} {mg : Str → Option Value} {base : Heap}
theorem def_okN {x qual : Str} {st : Stmt} {f : Addr} {fd : FuncData} {N ps : List Str} {k : Nat} {Pr : Cn} (nog : Bool) (F : FunD K x qual (defArgs st) (defBody st) (defScope st) [] [] f fd) (S : FnScope N ps (defScope st)) (hmg : mg x = some (.ref f)) (bi : Binds K fd ps [])
    (fw : WS) (len : ∀ rs g Q, Pr rs g Q → rs.length = ps.length) (hn : nog = true → ∀ rs g Q, Pr rs g Q → g = none) (spec : ∀ rs g Q, Pr rs g Q → fw (startC N.length rs g) (endP Q) fun _ _ => False)
    (hbody : ∀ (cdv : Value) (A : Around) (outer : List Env) (s : Shared) (H : Hp) (E : XK) (Δ : Dx), RoomG k (A.deeper (PyProof.Rows.envOfC qual (defScope st) s.heap.objs.size f cdv)) → Δ.K = K → (nog = true → Δ.a0 = none) → (∀ y g am F H, Δ.XE y g am F H → False) →
      PSs (cxOf CX0 P w K mg base N qual (defScope st) f cdv A outer s H E).nox (defBody st) (tS Δ fw)) : CalD P w K mg base (k + 1) x Pr := by
  refine ⟨f, fd, ps, fnG_of F S (fun vs H Q E h => ?_) (fun cdv A outer s H vs Q E hr h => ?_), hmg, F.kp, bi⟩
  · obtain ⟨am, G, rs, g, q, _, _, _, h3, h4, _⟩ := h
    rw [← h3.length]
    exact len rs g q h4
  · obtain ⟨am, G, rs, g, q, h1, ht, h2, h3, h4, h5⟩ := h
    refine ⟨_, PSs.nox (hbody cdv A outer s H E (dx0 K am g G H) hr rfl (fun z => by rw [hn z rs g q h4]; rfl) fun _ _ _ _ _ z => z), am, G, _, _, _, start_ok h1 ht h2 h3, spec rs g q h4, ⟨fun c am' F' σ' H' p l o => ?_, fun _ _ _ _ _ z => z.elim, fun _ _ _ _ _ z => z.elim, fun r g' am' F' H' v p l fn s => ?_⟩, fun _ _ _ _ _ z => z.elim⟩
    · exact h5 _ _ am' F' _ H' p l o.fin .non
    · exact h5 r g' am' F' v H' p l fn s
end
end Dl
set_option Elab.async false
set_option maxRecDepth 100000
set_option linter.all false
set_option autoImplicit false
set_option maxHeartbeats 1000000
/-! two names set at once where one of them is a cell: the pair is made and taken apart -/
namespace Dl
open PySem L2
variable [TabF]
theorem Sl.up {Δ : Dx} {am : Addr} {F H H' : Hp} {r : Rv} {v : V} (s : Sl Δ am F H r v) (l : Le H H') : Sl Δ am F H' r v := by
  cases r with
  | d x => exact s
  | gen => exact s
  | scr ns => exact s
  | own xs =>
    obtain ⟨a, vs, e1, e2, e3⟩ := s
    exact ⟨a, vs, e1, l _ _ e2, e3⟩
  | dic D =>
    obtain ⟨a, vs, e1, e2, e3⟩ := s
    exact ⟨a, vs, e1, l _ _ e2, e3⟩
end Dl
set_option Elab.async false
set_option maxRecDepth 100000
set_option linter.all false
set_option autoImplicit false
set_option maxHeartbeats 1000000
/-! tuples of ints that the module itself holds -/
namespace Dl
open PySem L2
end Dl
set_option Elab.async false
set_option maxRecDepth 100000
set_option linter.all false
set_option autoImplicit false
set_option maxHeartbeats 1000000
namespace Dl
open PySem PySem.Spec PyProof.Rows L2 LamX
variable [TabF]
/-! ### a def that returns what the lambda gives, or how it is refused, out of the try itself -/
/-- a clause's suite: return .. -/
def claR (C : Addr) (h : HndO) : Addr → Value → Option Addr → TS := match h.out with
  | .tup ps => fun a cls d => tRet (tTup (tParts a cls d C h.ie ps))
  | .fld f => fun a cls d => tRet (tXf a cls d C f (tVar h.ie))
  | .non => fun _ _ _ => tRet (tC .non)
def claLR (hs : List (Addr × HndO)) : List Cla := hs.map fun h => (.ref h.1, h.2.ie, claR h.1 h.2)
theorem wTryR_of {K : PySem.W.Frag} {D : Ends} {σ : L2.St} {Q : VK} (hD : D.rt = Q) :
    ∀ (hs : List (Addr × HndO)), (∀ h ∈ hs, h.2.ie < σ.length) → ∀ {cls : Value} {d : Option Addr} {H : Hp}, hQ K hs cls d H Q → wTry K (fun _ _ _ _ => False) D (claLR hs) cls d σ H
  | [], _, _, _, _, h => h.elim
  | h :: r, hl, cls, d, H, hq => by
    obtain ⟨hit, e1, e2, e3⟩ := hq
    refine ⟨hit, e1, fun ht a na => ?_, fun hf => wTryR_of hD r (fun x hx => hl x (.tail _ hx)) (e3 hf)⟩
    obtain ⟨rfl, dd, fs, rfl, hdd, ho⟩ := e2 ht
    have l1 := hl h (.head _)
    show claR h.1 h.2 a _ _ _ _ _
    have slot : (σ.set h.2.ie (some (V.ref a)))[h.2.ie]? = some (some (V.ref a)) := by rw [List.getElem?_set_self l1]
    have e : (endsA D h.2.ie).rt = Q := hD
    unfold claR
    cases hout : h.2.out with
    | tup ps =>
      rw [hout] at ho
      obtain ⟨vs, q1, q2, q3⟩ := ho
      show tTup (tParts a _ _ h.1 h.2.ie ps) _ _ (endsA D h.2.ie).rt
      rw [e]
      exact parts_runV slot rfl hdd ps vs q1 _ ⟨line_of (by omega), fun p hp => q3 p hp⟩
    | fld f =>
      rw [hout] at ho
      obtain ⟨v, q1, q2⟩ := ho
      show tXf a _ _ h.1 f (tVar h.2.ie) _ _ (endsA D h.2.ie).rt
      rw [e]
      exact ⟨.ref a, slot, rfl, rfl, dd, fs, v, rfl, hdd, q1, q2⟩
    | non =>
      rw [hout] at ho
      show tC .non _ _ (endsA D h.2.ie).rt
      rw [e]
      exact ho
section
variable {X : Cx}
/-- the suite return (parts) -/
theorem claR_ok {C : Addr} {cl : Str} {es : List Expr} {kk : Nat} {ie : Nat} {ps : List Part} {pt pos : Pos}
    (a : Addr) (o : Obj) (cls : Value) (d : Option Addr) (pn : List (Addr × Obj)) (hp : PA (X.suite a ((a, o) :: pn)) es (tParts a cls d C ie ps)) :
    PSs (X.suite a ((a, o) :: pn)) [.Return (some (.Tuple es kk pt)) pos] (claR C ⟨cl, ie, .tup ps⟩ a cls d) :=
  pss_one (ps_ret (X := X.suite a ((a, o) :: pn)) (pe_tup hp))
/-- the def: try: return [a()], clauses that return -/
theorem heard_ret {Ng : List Str} {x a q : Str} {sg : Scope} {g : Addr} {cdg : Value} {h1 : ExceptHandler} {hds : List ExceptHandler} {hs : List (Addr × HndO)} {p2 p3 p4 p6 p7 : Pos}
    (h0 : ∀ f : Addr, (L2.start Ng [V.ref f])[0]? = some (some (V.ref f))) (nd : Ng.Nodup) (hl : ∀ h ∈ hs, h.2.ie < Ng.length) (hNg : 1 ≤ Ng.length)
    (hh : ∀ (s : Shared) (H : Hp), Clas (cxOf C8.CX0 X.prog X.w X.K X.mg X.base Ng x sg g cdg X.A X.stack s H C8.E0).nox (h1 :: hds) (claLR hs)) :
    GivesG X Ng x a q sg g cdg [.Try [.Return (some (.List [.Call (.Name a p2) [] [] p3] p4)) p6] (h1 :: hds) [] [] p7] (TTh X.K false hs) := by
  intro f c' s H Q tl Y act hc ⟨Ech, h2, h3⟩
  have ls : (L2.start Ng [V.ref f]).length = Ng.length := by
    unfold L2.start
    simp
    omega
  refine ⟨_, pss_one (ps_tryA (X := (cxOf C8.CX0 X.prog X.w X.K X.mg X.base Ng x sg g cdg X.A X.stack s H C8.E0).nox) (l := claLR hs) (W0 := fun _ _ _ _ => False)
      (tb := fun W => tRet (tLst (tCons (fun σ H Q => ∃ E : XK, (∀ cls d H', E cls d H' → W cls d σ H') ∧ σ[0]? = some (some (.ref f)) ∧ H c' = some (CodeO c' q) ∧ tl E H Q) tNil))) rfl rfl nd takes_no (fun W pn xe tk => ?_) (hh s H)), ?_⟩
  · have act' : PE ((cxOf C8.CX0 X.prog X.w X.K X.mg X.base Ng x sg g cdg X.A X.stack s H C8.E0).nox.tr pn xe) (.Call (.Name a p2) [] [] p3) (fun σ H Q => ∃ E : XK, (∀ cls d H', E cls d H' → W cls d σ H') ∧ σ[0]? = some (some (.ref f)) ∧ H c' = some (CodeO c' q) ∧ tl E H Q) :=
      ⟨fun pins s' σ H' Q' I ⟨E, h'⟩ => (act W E pn xe p2 p3 tk).run pins s' σ H' Q' I h'⟩
    exact pss_one (ps_ret (X := (cxOf C8.CX0 X.prog X.w X.K X.mg X.base Ng x sg g cdg X.A X.stack s H C8.E0).nox.tr pn xe) (pe_lst (pa_cons act' pa_nil)))
  · refine ⟨Ech, fun cls d H' he => wTryR_of (Q := Q) rfl hs (fun h hm => by rw [ls]; exact hl h hm) (h3 cls d H' he), h0 f, hc, ?_⟩
    have h2' : tl Ech H (fun v G => ∀ p, G p = none → Q (.ref p) (upd G p (.lst [v]))) := h2
    refine cast (congrArg (tl Ech H) ?_) h2'
    funext v G
    exact propext ⟨fun hq => ⟨(by decide : 1 ≤ sizeLine), fun p hp => hq p hp⟩, fun hq p hp => hq.2 p hp⟩
end
end Dl
set_option Elab.async false
set_option maxRecDepth 100000
set_option linter.all false
set_option autoImplicit false
set_option maxHeartbeats 1000000
namespace Dl
open PySem L2 PyProof.Rows
/-! list(range(n)) -/
end Dl
set_option Elab.async false
set_option maxRecDepth 100000
set_option linter.all false
set_option autoImplicit false
set_option maxHeartbeats 4000000
/-! sorted of a tuple of ints -/
namespace L2
open PySem PySem.Spec PyProof.Rows
end L2
namespace Dl
open PySem L2
end Dl
set_option Elab.async false
set_option maxRecDepth 100000
set_option linter.all false
set_option autoImplicit false
set_option maxHeartbeats 1000000
namespace Dl
open PySem PySem.Spec PyProof.Rows L2 LamX
end Dl
set_option Elab.async false
set_option maxRecDepth 100000
set_option linter.all false
set_option autoImplicit false
namespace Dl
open PySem L2
/-! ### two names set at once where no exception leaves and the second one is a raising call -/
end Dl
set_option Elab.async false
set_option maxRecDepth 100000
set_option linter.all false
set_option autoImplicit false
set_option maxHeartbeats 1000000
namespace Dl
open PySem PySem.Spec PyProof.Rows L2 LamX
variable [TabF]
/-! ### max(xs, key=lambda a: ..) -/
theorem RoomG.in1 {k : Nat} {A : Around} (r : RoomG (k + 1) A) : RoomG k A.in1 := ⟨r.toRoom.in1, r.gd⟩
def lenAt : Px → Nat
  | .tuple [_, .tuple ws] => ws.length
  | _ => 0
def maxLL (k : Px → Prop) (ys : List Px) : Prop := ys ≠ [] ∧ (∀ y ∈ ys, ∃ x ws, y = PyData.tuple [x, .tuple ws]) ∧ ∀ (i : Nat) (y : Px), ys[i]? = some y → (∀ (j : Nat) (z : Px), ys[j]? = some z → lenAt z ≤ lenAt y ∧ (j < i → lenAt z < lenAt y)) → k y
/-- max(xs, key=lambda a: len(a[1])) -/
def eMaxL (fx : WE) : WE := fun c P X => fx c (fun r c1 => asL r (maxLL fun d => P (.d d) c1)) X
end Dl
set_option Elab.async false
set_option maxRecDepth 100000
set_option linter.all false
set_option autoImplicit false
namespace Dl
open PySem L2
variable [TabF]
/-! ### in, over any data -/
section
variable {X : Cx}
def inDD (neg : Bool) : OD := fun x y P => match y with
  | .list ys => x.canLay0 = true ∧ x.depth ≤ 60 ∧ PyData.canLayAll0 ys = true ∧ P (.d (.bool (if neg then !ys.any fun z => PyData.eqv z x else ys.any fun z => PyData.eqv z x)))
  | .tuple ys => x.canLay0 = true ∧ x.depth ≤ 60 ∧ PyData.canLayAll0 ys = true ∧ P (.d (.bool (if neg then !ys.any fun z => PyData.eqv z x else ys.any fun z => PyData.eqv z x)))
  | _ => False
end
theorem inDD_l {neg : Bool} {x : Px} {ys : List Px} {P : Rv → Prop} : inDD neg x (.list ys) P = (x.canLay0 = true ∧ x.depth ≤ 60 ∧ PyData.canLayAll0 ys = true ∧ P (.d (.bool (if neg then !ys.any fun z => PyData.eqv z x else ys.any fun z => PyData.eqv z x)))) := rfl
end Dl
set_option Elab.async false
set_option maxRecDepth 100000
set_option linter.all false
set_option autoImplicit false
set_option maxHeartbeats 1000000
namespace Dl
open PySem PySem.Spec PyProof.Rows L2
variable [TabF]
/-! ### str of an int -/
def strC : CD := fun rs P => match rs with
  | [.d (.int i)] => i.natAbs.log2 < 1920 ∧ P (.d (.str (toString i)))
  | _ => False
theorem strC_i {i : Int} {P : Rv → Prop} : strC [.d (.int i)] P = (i.natAbs.log2 < 1920 ∧ P (.d (.str (toString i)))) := rfl
end Dl
set_option Elab.async false
set_option maxRecDepth 100000
set_option linter.all false
set_option autoImplicit false
set_option maxHeartbeats 1000000
namespace Dl
open PySem PySem.Spec PyProof.Rows L2
variable [TabF]
/-! ### f(g(..)) where g makes the drawing state: the old one is seen no more -/
def dropG : Option Rv → Option Rv
  | some .gen => none
  | o => o
def Cf.nog (c : Cf) : Cf := ⟨c.env.map dropG, none⟩
theorem dropG_some {o : Option Rv} {r : Rv} (h : dropG o = some r) : o = some r ∧ r ≠ .gen := by
  cases o with
  | none => cases h
  | some x => cases x <;> first | (cases h; exact ⟨rfl, fun z => nomatch z⟩) | cases h
theorem Ok.nog {Δ : Dx} {am : Addr} {F H : Hp} {σ : L2.St} {c : Cf} (k : Ok Δ am F σ H c) : Ok Δ am F σ H c.nog where
  fh := k.fh
  f0 := k.f0
  fr := k.fr
  tb := k.tb
  pr := k.pr
  al := k.al
  gn := fun n e => nomatch e
  len := by rw [k.len]; simp [Cf.nog]
  sv := fun i r e => by
    have e : (c.env.map dropG)[i]? = some (some r) := e
    rw [List.getElem?_map] at e
    cases h : c.env[i]? with
    | none => rw [h] at e; cases e
    | some o =>
      rw [h] at e
      obtain ⟨e1, _⟩ := dropG_some (Option.some.inj e)
      rw [e1] at h
      exact k.sv i r h
  di := fun i j r r' ne e1 e2 m1 m2 => by
    have g : ∀ {i : Nat} {r : Rv}, (c.env.map dropG)[i]? = some (some r) → c.env[i]? = some (some r) := fun {i r} e => by
      rw [List.getElem?_map] at e
      cases h : c.env[i]? with
      | none => rw [h] at e; cases e
      | some o =>
        rw [h] at e
        obtain ⟨e1, _⟩ := dropG_some (Option.some.inj e)
        rw [e1]
    exact k.di i j r r' ne (g e1) (g e2) m1 m2
/-- where no drawing state is seen, it does not matter where it stands -/
theorem Ok.am {Δ : Dx} {am am' : Addr} {F H : Hp} {σ : L2.St} {c : Cf} (k : Ok Δ am F σ H c) (hno : ∀ j : Nat, c.env[j]? ≠ some (some .gen)) : Ok Δ am' F σ H { c with g := none } where
  fh := k.fh
  f0 := k.f0
  fr := k.fr
  tb := k.tb
  pr := k.pr
  al := k.al
  gn := fun n e => nomatch e
  len := k.len
  sv := fun i r e => by
    obtain ⟨v, h1, h2⟩ := k.sv i r e
    refine ⟨v, h1, ?_⟩
    cases r with
    | gen => exact absurd e (hno i)
    | d x => exact h2
    | scr ns => exact h2
    | own xs => exact h2
    | dic D => exact h2
  di := k.di
theorem Rs.am {Δ : Dx} {am am' : Addr} {F H : Hp} {σ : L2.St} {c : Cf} {r : Rv} {v : V} {g : Option Nat} (k : Rs Δ am F σ H c r v) (ng : r ≠ .gen) : Rs Δ am' F σ H { c with g := g } r v := by
  refine ⟨?_, k.2⟩
  have h2 := k.1
  cases r with
  | gen => exact absurd rfl ng
  | d x => exact h2
  | scr ns => exact h2
  | own xs => exact h2
  | dic D => exact h2
section
variable {X : Cx} {Δ : Dx} {e : Expr} {es : List Expr} {p p2 p3 pos : Pos} {fr : WA}
def eCallB (Pf Pg : Cn) (fr : WA) : WE := fun c P X => fr c.nog (fun rs c1 => Rv.gen ∉ rs ∧ (∀ j : Nat, c1.env[j]? ≠ some (some .gen)) ∧ Pg rs none fun r g' => r = .gen ∧ ∃ n, g' = some n ∧ Pf [.gen] (some n) fun r2 g2 => r2 ≠ .gen ∧ P r2 { c1 with g := none }) X
end
theorem nog_eq {env : List (Option Rv)} {g : Option Nat} : Cf.nog ⟨env, g⟩ = ⟨env.map dropG, none⟩ := rfl
theorem dropG_n : dropG none = none := rfl
theorem dropG_g : dropG (some .gen) = none := rfl
theorem dropG_d {x : Px} : dropG (some (.d x)) = some (.d x) := rfl
theorem dropG_o {xs : List Px} : dropG (some (.own xs)) = some (.own xs) := rfl
theorem dropG_s {ns : List Int} : dropG (some (.scr ns)) = some (.scr ns) := rfl
theorem dropG_k {D : Dic} : dropG (some (.dic D)) = some (.dic D) := rfl
end Dl
set_option Elab.async false
set_option maxRecDepth 100000
set_option linter.all false
set_option autoImplicit false
set_option maxHeartbeats 1000000
namespace Dl
open PySem PySem.Spec PyProof.Rows L2
variable [TabF]
/-! ### defs as values -/
def lookN (l : List (Str × Addr)) (x : Str) : Option Addr := l.lookup x
end Dl
set_option Elab.async false
set_option maxRecDepth 100000
set_option linter.all false
set_option autoImplicit false
set_option maxHeartbeats 1000000
namespace Dl
open PySem PySem.Spec PyProof.Rows L2
variable [TabF]
/-! ### xs.remove(k): a name's own list of whole numbers -/
def eRem (i : Nat) (fb : WE) : WE := fun c P X => isOwn c i ∧ fb c (fun r c1 => asI r fun k => ownD c1 i fun xs => ∃ ns : List Int, xs = ns.map .int ∧ k ∈ ns ∧ P (.d .none) (putE c1 i (.own ((ns.erase k).map .int)))) X
end Dl
set_option Elab.async false
set_option maxRecDepth 100000
set_option linter.all false
set_option autoImplicit false
set_option maxHeartbeats 1000000
namespace Dl
open PySem PySem.Spec PyProof.Rows L2
variable [TabF]
section
variable {X : Cx} {Δ : Dx} {pos : Pos}
/-- {} -/
def eDisp0 : WE := fun c P _ => P (.dic (.k [])) c
end
end Dl
set_option Elab.async false
set_option maxRecDepth 100000
set_option linter.all false
set_option autoImplicit false
set_option maxHeartbeats 1000000
namespace Dl
open PySem PySem.Spec PyProof.Rows L2
end Dl
set_option Elab.async false
set_option maxRecDepth 100000
set_option linter.all false
set_option autoImplicit false
set_option maxHeartbeats 1000000
namespace Dl
open PySem PySem.Spec PyProof.Rows L2
variable [TabF]
/-! ### dicts of words that nothing changes, as data -/
def lookW : List (Px × Px) → Str → Option Px
  | [], _ => none
  | (.str j, d) :: r, k => if j = k then some d else lookW r k
  | _ :: _, _ => none
theorem RpW.at {F : Hp} {k : Str} {y : Px} : ∀ {ws : List (Key × V)} {kvs : List (Px × Px)}, RpW F ws kvs → lookW kvs k = some y → ∃ v, valV ws (.inr k : Key) = some v ∧ Rp F v y
  | _, _, .nil, h => by cases h
  | _, _, .cons (k := j) (v := v) (d := d) (ws := ws) (kvs := kvs) a b, h => by
    unfold lookW at h
    by_cases e : j = k
    · rw [if_pos e] at h
      cases h
      exact ⟨v, valV_pos (by rw [e]), a⟩
    · rw [if_neg e] at h
      obtain ⟨v', h1, h2⟩ := RpW.at b h
      refine ⟨v', ?_, h2⟩
      rw [valV_neg (by intro z; cases z; exact e rfl)]
      exact h1
def wPairs : List Str → List Px → List (Px × Px)
  | k :: ks, x :: xs => (.str k, x) :: wPairs ks xs
  | _, _ => []
def kPairs : List Str → List V → List (Key × V)
  | k :: ks, v :: vs => ((.inr k : Key), v) :: kPairs ks vs
  | _, _ => []
theorem RpW.of {F : Hp} : ∀ {ks : List Str} {vs : List V} {xs : List Px}, RpA F vs xs → RpW F (kPairs ks vs) (wPairs ks xs)
  | [], _, _, _ => .nil
  | _ :: _, [], [], .nil => .nil
  | _ :: _, _ :: _, _ :: _, .cons a b => .cons a (RpW.of b)
section
variable {X : Cx} {Δ : Dx} {pos : Pos}
/-- {'a': x, 'b': y, ..} -/
def eDispW (ks : List Str) (fr : WA) : WE := fun c P X => fr c (fun rs c1 => asDs rs fun xs => P (.d (.dict (wPairs ks xs))) c1) X
/-- d['a'], a name's -/
def ixW (x : Px) (k : Str) (q : Px → Prop) : Prop := match x with
  | .dict (p1 :: p2 :: r) => ∃ y, lookW (p1 :: p2 :: r) k = some y ∧ q y
  | _ => False
theorem ixW_d {p1 p2 : Px × Px} {r : List (Px × Px)} {k : Str} {q : Px → Prop} : ixW (.dict (p1 :: p2 :: r)) k q = ∃ y, lookW (p1 :: p2 :: r) k = some y ∧ q y := rfl
def eIxW (i : Nat) (k : Str) : WE := fun c P _ => slotD c i fun x => ixW x k fun y => P (.d y) c
end
end Dl
set_option Elab.async false
set_option maxRecDepth 100000
set_option linter.all false
set_option autoImplicit false
namespace Dl
open PySem L2
/-! ### two names set at once where no exception leaves and the second one is a raising call -/
end Dl
set_option Elab.async false
set_option maxRecDepth 100000
set_option linter.all false
set_option autoImplicit false
namespace Dl
open PySem L2
variable [TabF]
/-! ### sum of a list or a tuple of whole numbers -/
section
variable {X : Cx} {Δ : Dx}
def rSumT (K : PySem.W.Frag) : List V → Hp → VK → Prop := fun vs H Q => ∃ (a : Addr) (ns : List Int), vs = [V.ref a] ∧ SqT K H a (ns.map V.int) ∧ Q (.int ns.sum) H
open PySem.Calls PyProof.Rows PyProof.V in
theorem cr_sumT (hc : X.calm = true) : CallR X (.builtin "sum") (rSumT X.K) := by
  intro pins s σ H vs us Q I r h
  obtain ⟨a, ns, rfl, hs, q⟩ := h
  obtain ⟨its, rv, hl, _⟩ := I.tuple hs
  rw [Vals.ref1 r]
  have hi := rv.ints
  obtain ⟨xs, hx⟩ := hi.allInts.items
  have hn := hi.numsOf
  rw [show its = its.toArray.toList from rfl, hx, nums_intItems] at hn
  rw [hx] at hl
  refine PySem.W.ktm_sumG (I.ok.hd hc) hl fun h' tk t' hk => ?_
  rw [preSum_eq, List.take_of_length_le (by simp), hn]
  exact ⟨.int _, H, I.kept hk, ⟨_, rfl⟩, q⟩
theorem di_fdiv : OpD X Δ (inplaceOp .FloorDiv) (iD (fun i j => .int (i.fdiv j)) fun i j => 0 < j ∧ CDiv2 i j) :=
  op_iD (C' := fun i j => CDiv i j ∨ CDivW i j) (opr_mono (OpR.or iop_fdiv iop_fdivW) fun x y H Q ⟨i, j, h1, h2, h3, h4⟩ => h3.elim
      (fun z => .inl ⟨i, j, h1, h2, z, by have hp : (0 : Int) < j := z.1; show Q (V.int (i / j)) H; rw [← Int.fdiv_eq_ediv_of_nonneg i (by omega)]; exact h4⟩)
      fun z => .inr ⟨i, j, h1, h2, z, by have hp : (0 : Int) < j := z.1; show Q (V.int (i / j)) H; rw [← Int.fdiv_eq_ediv_of_nonneg i (by omega)]; exact h4⟩)
    (fun i j h => by
      obtain ⟨hp, h⟩ := h
      rcases h with ⟨h1, h2⟩ | ⟨h, b, h1, h2, h3⟩
      · exact .inl ⟨hp, by omega⟩
      · exact .inr (wide_div h h1 h2 h3)) fun _ _ _ _ => .int _
def ifdivD : OD := iD (fun i j => .int (i.fdiv j)) fun i j => 0 < j ∧ CDiv2 i j
theorem di_fdiv' : OpD X Δ (inplaceOp .FloorDiv) ifdivD := di_fdiv
theorem ifdiv_i {i j : Int} {P : Rv → Prop} : ifdivD (.int i) (.int j) P = ((0 < j ∧ CDiv2 i j) ∧ P (.d (.int (i.fdiv j)))) := rfl
def sumC : CD := fun rs P => match rs with
  | [.d (.list xs)] => ∃ ns : List Int, xs = ns.map .int ∧ P (.d (.int ns.sum))
  | [.d (.tuple xs)] => ∃ ns : List Int, xs = ns.map .int ∧ P (.d (.int ns.sum))
  | _ => False
theorem sumC_l {xs : List Px} {P : Rv → Prop} : sumC [.d (.list xs)] P = ∃ ns : List Int, xs = ns.map .int ∧ P (.d (.int ns.sum)) := rfl
theorem sumC_t {xs : List Px} {P : Rv → Prop} : sumC [.d (.tuple xs)] P = ∃ ns : List Int, xs = ns.map .int ∧ P (.d (.int ns.sum)) := rfl
theorem cl_sum (hc : X.calm = true) (hk : X.K = TabF.K := by first | rfl | assumption) : ClD X Δ (.builtin "sum") sumC :=
  ⟨fun vs H Q => rSum X.K vs H Q ∨ rSumT X.K vs H Q, fun pins s σ H vs us Q I r h => h.elim (cr_sum hc pins s σ H vs us Q I r) (cr_sumT hc pins s σ H vs us Q I r), fun am F σ H c vs rs P Q ok rx ho k => by
    unfold sumC at ho
    split at ho
    · obtain ⟨ns, rfl, h⟩ := ho
      cases rx with
      | d r s =>
        cases s
        cases r with
        | lst e r1 =>
          have := r1.ints
          subst this
          exact .inl ⟨_, ns, rfl, SqL.of (ok.fh _ _ e), k _ F _ H h (Le.refl F) ok (.of (.int _))⟩
    · obtain ⟨ns, rfl, h⟩ := ho
      cases rx with
      | d r s =>
        cases s
        cases r with
        | tup e r1 =>
          have := r1.ints
          subst this
          exact .inr ⟨_, ns, rfl, e.sq hk ok.fh, k _ F _ H h (Le.refl F) ok (.of (.int _))⟩
    · exact ho.elim⟩
end
end Dl
set_option Elab.async false
set_option maxRecDepth 100000
set_option linter.all false
set_option autoImplicit false
namespace Dl
/-! ### x < y over data: whole numbers, and tuples whose places are such -/
mutual
def ltP : Px → Px → Bool
  | .int a, .int b => decide (a < b)
  | .tuple xs, .tuple ys => Ob.lexAt (PySem.SeqAt.pairEq xs ys) (pairLt xs ys) (decide (xs.length < ys.length)) 0 (min xs.length ys.length)
  | _, _ => false
def pairLt : List Px → List Px → Nat → Bool
  | x :: _, y :: _, 0 => ltP x y
  | _ :: xs, _ :: ys, j + 1 => pairLt xs ys j
  | _, _, _ => false
end
mutual
/-- of one kind, place for place -/
def cmpP : Px → Px → Bool
  | .int _, .int _ => true
  | .tuple xs, .tuple ys => cmpA xs ys
  | _, _ => false
def cmpA : List Px → List Px → Bool
  | x :: xs, y :: ys => cmpP x y && cmpA xs ys
  | _, _ => true
end
end Dl
namespace Dl
open PySem PySem.Spec PySem.SeqAt PyProof.Rows
mutual
theorem rcLt_reads : ∀ (da db : PyData) (A : Around) (s : Shared) (a b : Value) (as bs : List Addr), Reads s.heap a da as → Reads s.heap b db bs → da.canLay0 = true → db.canLay0 = true → cmpP da db = true →
    A.units + min da.depth db.depth < cLine → Ob.RcOp .Lt A s a b (ltP da db)
  | .int x, .int y, A, s, _, _, _, _, ra, rb, _, _, _, hu => by
    cases ra
    cases rb
    exact Ob.RcOp.lt_int _ _ _ _
  | .tuple xs, .tuple ys, A, s, _, _, _, _, ra, rb, ha, hb, hc, hu => by
    have ha : PyData.canLayAll0 xs = true := by simpa [PyData.canLay0] using ha
    have hb : PyData.canLayAll0 ys = true := by simpa [PyData.canLay0] using hb
    have hc : cmpA xs ys = true := hc
    cases ra with
    | @tuple l o vs n _ _ h1 h2 h3 h4 =>
      cases rb with
      | @tuple l' o' vs' n' _ _ k1 k2 k3 k4 =>
        have hl : s.heap.IsTuple l vs := ⟨_, h1, h2, _, h3⟩
        have hl' : s.heap.IsTuple l' vs' := ⟨_, k1, k2, _, k3⟩
        have n1 : vs.size = xs.length := by simpa using ReadsAll.length _ _ _ h4
        have n2 : vs'.size = ys.length := by simpa using ReadsAll.length _ _ _ k4
        have R := Ob.RcOp.tuples_lt (A := A) (s := s) (e := pairEq xs ys) (r := pairLt xs ys) hl hl' (room_here hu) (fun j j1 j2 => by
          have := eqAt_readsAll xs ys A.in1 s vs.toList vs'.toList _ _ h4 k4 ha hb (room_in hu) j (by simpa using j1) (by simpa using j2)
          simpa using this) (fun j j1 j2 _ => by
          have := rcLt_readsAll xs ys A.in1 s vs.toList vs'.toList _ _ h4 k4 ha hb hc (room_in hu) j (by simpa using j1) (by simpa using j2)
          simpa using this)
        rw [n1, n2] at R
        show Ob.RcOp .Lt A s (.ref l) (.ref l') (Ob.lexAt (pairEq xs ys) (pairLt xs ys) (decide (xs.length < ys.length)) 0 (min xs.length ys.length))
        exact R
  | .none, _, _, _, _, _, _, _, _, _, _, _, h, _ => by cases h
  | .bool _, _, _, _, _, _, _, _, _, _, _, _, h, _ => by cases h
  | .str _, _, _, _, _, _, _, _, _, _, _, _, h, _ => by cases h
  | .list _, _, _, _, _, _, _, _, _, _, _, _, h, _ => by cases h
  | .dict _, _, _, _, _, _, _, _, _, _, _, _, h, _ => by cases h
  | .int _, .none, _, _, _, _, _, _, _, _, _, _, h, _ => by cases h
  | .int _, .bool _, _, _, _, _, _, _, _, _, _, _, h, _ => by cases h
  | .int _, .str _, _, _, _, _, _, _, _, _, _, _, h, _ => by cases h
  | .int _, .list _, _, _, _, _, _, _, _, _, _, _, h, _ => by cases h
  | .int _, .dict _, _, _, _, _, _, _, _, _, _, _, h, _ => by cases h
  | .int _, .tuple _, _, _, _, _, _, _, _, _, _, _, h, _ => by cases h
  | .tuple _, .none, _, _, _, _, _, _, _, _, _, _, h, _ => by cases h
  | .tuple _, .bool _, _, _, _, _, _, _, _, _, _, _, h, _ => by cases h
  | .tuple _, .str _, _, _, _, _, _, _, _, _, _, _, h, _ => by cases h
  | .tuple _, .list _, _, _, _, _, _, _, _, _, _, _, h, _ => by cases h
  | .tuple _, .dict _, _, _, _, _, _, _, _, _, _, _, h, _ => by cases h
  | .tuple _, .int _, _, _, _, _, _, _, _, _, _, _, h, _ => by cases h
theorem rcLt_readsAll : ∀ (xs ys : List PyData) (A : Around) (s : Shared) (vs ws : List Value) (as bs : List Addr), ReadsAll s.heap vs xs as → ReadsAll s.heap ws ys bs → PyData.canLayAll0 xs = true → PyData.canLayAll0 ys = true → cmpA xs ys = true →
    A.units + min (PyData.depthAll xs) (PyData.depthAll ys) < cLine → ∀ j (h1 : j < vs.length) (h2 : j < ws.length), Ob.RcOp .Lt A s vs[j] ws[j] (pairLt xs ys j)
  | [], _, _, _, _, _, _, _, ra, _, _, _, _, _, j, h1, _ => by cases ra; exact absurd h1 (Nat.not_lt_zero _)
  | _ :: _, [], _, _, _, _, _, _, _, rb, _, _, _, _, j, _, h2 => by cases rb; exact absurd h2 (Nat.not_lt_zero _)
  | x :: xs, y :: ys, A, s, _, _, _, _, ra, rb, ha, hb, hc, hu, j, h1, h2 => by
    have ha' : x.canLay0 = true ∧ PyData.canLayAll0 xs = true := by simpa [PyData.canLayAll0] using ha
    have hb' : y.canLay0 = true ∧ PyData.canLayAll0 ys = true := by simpa [PyData.canLayAll0] using hb
    have hc' : cmpP x y = true ∧ cmpA xs ys = true := by simpa [cmpA] using hc
    cases ra with
    | cons r rs =>
      cases rb with
      | cons r' rs' =>
        cases j with
        | zero => exact rcLt_reads x y A s _ _ _ _ r r' ha'.1 hb'.1 hc'.1 (room_head hu)
        | succ j => exact rcLt_readsAll xs ys A s _ _ _ _ rs rs' ha'.2 hb'.2 hc'.2 (room_tail hu) j (Nat.lt_of_succ_lt_succ h1) (Nat.lt_of_succ_lt_succ h2)
end
end Dl
namespace Dl
open PySem L2
variable [TabF]
section
variable {X : Cx} {Δ : Dx}
def rLtP (K : PySem.W.Frag) : R2 := fun x y H Q => ∃ d e, Dp K H x d ∧ Dp K H y e ∧ d.canLay0 = true ∧ e.canLay0 = true ∧ cmpP d e = true ∧ d.depth ≤ 60 ∧ Q (.bl (ltP d e)) H
theorem op_ltP (hu : X.A.units + 64 < cLine) : OpR X (compareOp .Lt) (rLtP X.K) := by
  intro pins s σ H x y v u Q I rx ry h
  obtain ⟨d, e, hd, he, cd, ce, hc, hl, q⟩ := h
  obtain ⟨as, r1⟩ := Dp.reads I d x v hd rx
  obtain ⟨bs, r2⟩ := Dp.reads I e y u he ry
  have R := rcLt_reads d e X.A s v u as bs r1 r2 cd ce hc (by omega)
  exact R X.prog X.w X.xe (EP X pins σ Q) ⟨.bl _, H, I, rfl, q⟩
def ltTD : OD := fun x y P => x.canLay0 = true ∧ y.canLay0 = true ∧ cmpP x y = true ∧ x.depth ≤ 60 ∧ P (.d (.bool (ltP x y)))
theorem sc_ltT (hu : X.A.units + 64 < cLine) (hk : X.K = TabF.K := by first | rfl | assumption) : ScD X (compareOp .Lt) ltTD :=
  ⟨_, op_ltP hu, fun G H vx vy x y P Q l rx ry ho k => ⟨x, y, rx.dp hk l (lay_nd ho.1), ry.dp hk l (lay_nd ho.2.1), ho.1, ho.2.1, ho.2.2.1, ho.2.2.2.1, k _ _ ho.2.2.2.2 fun F => .bl _⟩⟩
end
end Dl
set_option Elab.async false
set_option maxRecDepth 100000
set_option linter.all false
set_option autoImplicit false
namespace Dl
open PySem L2
variable [TabF]
/-! ### list(f(..)), a def that returns a dict: its keys -/
section
variable {X : Cx} {Δ : Dx} {fb : WE} {e : Expr} {x : Str} {p pos : Pos}
def eLstK (fb : WE) : WE := fun c P X => fb c (fun r c1 => dicR r fun kvs => P (.own (kvs.map fun kv => .int kv.1)) c1) X
theorem RpK.keysA {F : Hp} {ws : List (Key × V)} {kvs : List (Int × Px)} (r : RpK F ws kvs) : RpA F (ws.map fun kv => (L2.kV kv.1 : V)) (kvs.map fun kv => .int kv.1) := by
  induction r with
  | nil => exact .nil
  | cons a b ih => exact .cons (.int _) ih
theorem de_lstK (hc : X.calm = true) (hg : Gl X x) (hm : X.mg x = none) (hv : bootBuiltins x = some (.type "list")) (ha : PE X e (tE Δ fb)) (hn : x ≠ "__name__" := by decide) (hdb : (x == ("__debug__" : Str)) = false := by decide)
    (he : starEach (e :: []) X.env = (false, eval e X.env) :: starEach [] X.env := by rfl) (hpl : (backTo pos (starEach [] X.env)).any (·.1) = false := by rfl) : PE X (.Call (.Name x p) [e] [] pos) (tE Δ (eLstK fb)) := by
  refine (pe_callTy (call_list_dK hc) hg hm hv (pa_cons ha pa_nil he) hn hdb he hpl).imp fun σ H Q ⟨am, F, c, P, XX, ok, hf, kq, kx⟩ => ?_
  refine ⟨am, F, c, _, XX, ok, hf, fun r1 c1 F1 v1 H1 p1 l1 o1 s1 => ?_, kx⟩
  dsimp only at p1
  unfold dicR at p1
  split at p1
  · obtain ⟨ad, o, q1, q2, q3, q4, ws, q5, q6⟩ := s1.1
    subst q1
    subst q5
    refine ⟨ad, ws, rfl, q2, fun q hq => ?_⟩
    obtain ⟨o', rs⟩ := Rs.fresh o1 hq q6.keysA
    exact kq _ c1 F1 _ _ p1 l1 o' rs
  · exact p1.elim
end
end Dl
set_option Elab.async false
set_option maxRecDepth 100000
set_option linter.all false
set_option autoImplicit false
namespace Dl
open PySem L2
variable [TabF]
/-! ### comprehensions whose body calls what may raise, in a def where it does not -/
section
variable {X : Cx} {Δ : Dx} {a b e : Expr} {fa fb fc : WE} {pos : Pos} {es : List Expr} {fr : WA} {st : Stmt} {rest sa sb : List Stmt} {ws wt : WS}
theorem nx_of {Δ Δ' : Dx} (e : Δ'.XE = Δ.XE) (h : ∀ y g am F H, Δ.XE y g am F H → False) : ∀ y g am F H, Δ'.XE y g am F H → False := fun y g am F H z => h y g am F H (e ▸ z)
theorem lc_ofX {it : WI} {g : WG} {t : WT} {f : WE} {ws vs0 : List Nat} {tg' : TG} {tt' : TT} {te' : TE} (hg : ∀ Δ' : Dx, Δ'.K = Δ.K → Δ'.XE = Δ.XE → ∀ v σ H Q, tG Δ' ws g v σ H Q → tg' v σ H Q) (ht : ∀ Δ' : Dx, Δ'.K = Δ.K → Δ'.XE = Δ.XE → ∀ σ H Q, tT Δ' t σ H Q → tt' σ H Q)
    (he : ∀ Δ' : Dx, Δ'.K = Δ.K → Δ'.XE = Δ.XE → ∀ σ H Q, tE Δ' f σ H Q → te' σ H Q) (hws : ∀ i ∈ ws, i ∈ vs0) (σ : St) (H : Hp) (Q : VK) (h : tE Δ (eLc it g t f vs0) σ H Q) : tLc (tI Δ it) tg' tt' te' vs0 σ H Q := by
  obtain ⟨am, F, c, P, XX, ok, hf, kq, kx⟩ := h
  refine ⟨am, F, c, _, XX, ok, hf, fun xs c1 F1 H1 J p1 l1 o1 wk => ?_, kx⟩
  intro D hD
  obtain ⟨nw, p1⟩ := p1
  refine lc_it wk (fun i H => ∃ F' acc vs gs, Le F1 F' ∧ Ok Δ am F' σ H ⟨c1.env, gs⟩ ∧ H D = some (.lst vs) ∧ F' D = none ∧ RpA F' vs acc ∧
    (∀ (i : Nat) (r : Rv), c1.env[i]? = some (some r) → r.mu → σ[i]? ≠ some (some (.ref D))) ∧ lcW g t f vs0 c1.env XX P (xs.drop i) acc gs) ?_ ?_ ?_ ?_
  · obtain ⟨o2, r2⟩ := Rs.fresh o1 hD (vs := []) (xs := []) .nil
    refine ⟨F1, [], [], c1.g, Le.refl F1, o2, upd_same, o1.fh.nn hD, .nil, fun i ys e mu => r2.2 True.intro i ys e mu, p1⟩
  · rintro i H' _ ⟨F', acc, vs, gs, l2, o2, _⟩
    exact l2.trans o2.fh
  · rintro i v H2 H3 hi ⟨F', acc, vs, gs, l2, o2, hd, fd, ra, no, hw⟩ ⟨x, hx, hy⟩
    have h0 : Δ.H0 D = none := o1.new hD
    have hdrop : xs.drop i = x :: xs.drop (i + 1) := by
      rw [List.drop_eq_getElem_cons hi]
      rw [List.getElem?_eq_getElem hi] at hx
      cases hx
      rfl
    rw [hdrop] at hw
    obtain ⟨F3, l3, o3, hd3, fd3, rx⟩ : ∃ F3, Le F' F3 ∧ Ok Δ am F3 σ H3 ⟨c1.env, gs⟩ ∧ H3 D = some (.lst vs) ∧ F3 D = none ∧ Rp F3 v x := by
      rcases hy with ⟨rfl, rx⟩ | ⟨T, us, ds, rfl, hT, rfl, rfl, rx⟩
      · exact ⟨F', Le.refl F', o2, hd, fd, rx.mono l2⟩
      · obtain ⟨o3, l3, rp⟩ := o2.tupN hT (rx.mono l2)
        have ne : D ≠ T := ne_of_none hd hT
        exact ⟨_, l3, o3, by rw [upd_ne ne]; exact hd, by rw [upd_ne ne]; exact fd, rp⟩
    have f00 : Δ.F0 D = none := o3.f0.nn fd3
    have na : Δ.a0 ≠ some D := fun z => (o3.al D z).2 h0
    have oh := o3.hold hd3 fd3 h0 no
    refine hg (Δ.hold D (.lst vs)) rfl rfl _ _ _ _ ⟨am, F3, _, .d x, _, oh.wiped vs0, .of rx, hw, fun c2 F4 σ4 H4 p4 l4 o4 t4 => ?_⟩
    obtain ⟨e4, p4⟩ := p4
    refine ⟨?_, ?_⟩
    · rw [wipe_tch t4 hws]
      exact wipe_idem σ _
    have kxh : ∀ {G : Hp}, Le F G → KX (Δ.hold D (.lst vs)) am G XX := fun {G} lg x g F' H' h l fn => kx x g F' H' h (lg.trans l) (fn.unhold h0 na)
    have lF3 : Le F F3 := (l1.trans l2).trans l3
    refine ht (Δ.hold D (.lst vs)) rfl rfl _ _ _ ⟨am, F4, c2, _, XX, o4, p4, fun b c3 F5 H5 p5 l5 o5 => ?_, kxh (lF3.trans l4)⟩
    obtain ⟨e5, p5⟩ := p5
    cases b with
    | true =>
      rw [if_pos rfl] at p5 ⊢
      refine he (Δ.hold D (.lst vs)) rfl rfl _ _ _ ⟨am, F5, c3, _, XX, o5, p5, fun r c6 F6 v6 H6 p6 l6 o6 s6 => ?_, kxh ((lF3.trans l4).trans l5)⟩
      obtain ⟨e6, p6⟩ := p6
      obtain ⟨y, F7, hy, l7, o7, rp7⟩ := s6.data o6 p6
      obtain ⟨o8, hd8, fd8, no8⟩ := o7.unhold h0 f00 na
      obtain ⟨c6e, c6g⟩ := c6
      have e6 : c6e = c2.env := e6
      subst e6
      have ll : Le F' F7 := (((l3.trans l4).trans l5).trans l6).trans l7
      have o9 := o2.unwipe o8 ll t4 hws e4 nw
      refine ⟨vs, hd8, Nat.lt_of_lt_of_le (show vs.length < 1000000 by rw [ra.length]; exact hy.1) (line_of (Nat.le_refl _)), F7, acc ++ [y], vs ++ [v6], c6g, l2.trans ll, o9.chg hd8 fd8 h0 no, upd_same, fd8, (ra.mono ll).append (.one rp7), no, hy.2⟩
    | false =>
      rw [if_neg Bool.false_ne_true] at p5 ⊢
      obtain ⟨o8, hd8, fd8, no8⟩ := o5.unhold h0 f00 na
      obtain ⟨c3e, c3g⟩ := c3
      have e5 : c3e = c2.env := e5
      subst e5
      have ll : Le F' F5 := (l3.trans l4).trans l5
      have o9 := o2.unwipe o8 ll t4 hws e4 nw
      exact ⟨F5, acc, vs, c3g, l2.trans ll, o9, hd8, fd8, ra.mono ll, no, p5⟩
  · rintro H2 ⟨F', acc, vs, gs, l2, o2, hd, fd, ra, no, hw⟩
    rw [List.drop_length] at hw
    exact kq (.own acc) ⟨c1.env, gs⟩ F' (.ref D) H2 hw (l1.trans l2) o2 ⟨⟨D, vs, rfl, hd, fd, o1.new hD, ra⟩, fun _ i ys e mu => no i ys e mu⟩
theorem de_lcX {elt tg iter : Expr} {ifs : List Expr} {scope : Scope} {own : List (Str × Nat)} {it : WI} {g : WG} {t : WT} {f : WE} {ws : List Nat} (hc : X.calm = true) (hN : X.N.Nodup) (hi : PI X tg iter (tI Δ it)) (bok : BlkOk X.N X.env.scope scope own)
    (hg : ∀ (s : Shared) (H : Hp) (C : Addr) (cl : List (Str × Addr)) (fp : List Addr) (Δ' : Dx), Δ'.K = Δ.K → Δ'.XE = Δ.XE → PG (X.blk s H scope (compEnvC scope cl C X.env) fp) tg (tG Δ' ws g))
    (ht : ∀ (s : Shared) (H : Hp) (C : Addr) (cl : List (Str × Addr)) (fp : List Addr) (Δ' : Dx), Δ'.K = Δ.K → Δ'.XE = Δ.XE → PTs (X.blk s H scope (compEnvC scope cl C X.env) fp) ifs (tT Δ' t))
    (he : ∀ (s : Shared) (H : Hp) (C : Addr) (cl : List (Str × Addr)) (fp : List Addr) (Δ' : Dx), Δ'.K = Δ.K → Δ'.XE = Δ.XE → PE (X.blk s H scope (compEnvC scope cl C X.env) fp) elt (tE Δ' f))
    (hws : ∀ i ∈ ws, i ∈ own.map (·.2) := by decide) (hs : ∀ x, foldedSetIterable iter X.env x = pure x := by intro _; rfl) :
    PE X (.ListComp elt [⟨tg, iter, ifs, 0⟩] scope pos) (tE Δ (eLc it g t f (own.map (·.2)))) := by
  let tg' : TG := fun v σ H Q => ∃ Δ' : Dx, Δ'.K = Δ.K ∧ Δ'.XE = Δ.XE ∧ tG Δ' ws g v σ H Q
  let tt' : TT := fun σ H Q => ∃ Δ' : Dx, Δ'.K = Δ.K ∧ Δ'.XE = Δ.XE ∧ tT Δ' t σ H Q
  let te' : TE := fun σ H Q => ∃ Δ' : Dx, Δ'.K = Δ.K ∧ Δ'.XE = Δ.XE ∧ tE Δ' f σ H Q
  exact (pe_lc (g := tg') (tt := tt') (te := te') hc hN hi bok (fun s H C cl fp => ⟨fun pins s' σ H' v u Q I r ⟨Δ', e, ex, h⟩ => (hg s H C cl fp Δ' e ex).run pins s' σ H' v u Q I r h⟩)
    (fun s H C cl fp => ⟨fun pins s' σ H' Q I ⟨Δ', e, ex, h⟩ => (ht s H C cl fp Δ' e ex).run pins s' σ H' Q I h⟩) (fun s H C cl fp => ⟨fun pins s' σ H' Q I ⟨Δ', e, ex, h⟩ => (he s H C cl fp Δ' e ex).run pins s' σ H' Q I h⟩) hs).imp
    fun σ H Q h => lc_ofX (fun Δ' e ex v σ H Q h => ⟨Δ', e, ex, h⟩) (fun Δ' e ex σ H Q h => ⟨Δ', e, ex, h⟩) (fun Δ' e ex σ H Q h => ⟨Δ', e, ex, h⟩) hws σ H Q h
/-- name = [..] on one row, the name a local -/
theorem ds_setLcX (i : Nat) {y : Str} {py spos : Pos} {elt tg iter : Expr} {ifs : List Expr} {scope : Scope} {own : List (Str × Nat)} {it : WI} {g : WG} {t : WT} {f : WE} {ws : List Nat} (hc : X.calm = true) (hy : X.N[i]? = some y) (hyl : X.env.scope.names.lookup y = some .local) (hsw : swapsWith (.ListComp elt [⟨tg, iter, ifs, 0⟩] scope pos) (some (.Name y py)) spos.line X.env = pure true) (hN : X.N.Nodup) (hi : PI X tg iter (tI Δ it)) (bok : BlkOk X.N X.env.scope scope own)
    (hg : ∀ (s : Shared) (H : Hp) (C : Addr) (cl : List (Str × Addr)) (fp : List Addr) (Δ' : Dx), Δ'.K = Δ.K → Δ'.XE = Δ.XE → PG (X.blk s H scope (compEnvC scope cl C X.env) fp) tg (tG Δ' ws g))
    (ht : ∀ (s : Shared) (H : Hp) (C : Addr) (cl : List (Str × Addr)) (fp : List Addr) (Δ' : Dx), Δ'.K = Δ.K → Δ'.XE = Δ.XE → PTs (X.blk s H scope (compEnvC scope cl C X.env) fp) ifs (tT Δ' t))
    (he : ∀ (s : Shared) (H : Hp) (C : Addr) (cl : List (Str × Addr)) (fp : List Addr) (Δ' : Dx), Δ'.K = Δ.K → Δ'.XE = Δ.XE → PE (X.blk s H scope (compEnvC scope cl C X.env) fp) elt (tE Δ' f))
    (hws : ∀ i ∈ ws, i ∈ own.map (·.2) := by decide) (hs : ∀ x, foldedSetIterable iter X.env x = pure x := by intro _; rfl) :
    PS X (.Assign [.Name y py] (.ListComp elt [⟨tg, iter, ifs, 0⟩] scope pos) spos) (tS Δ (sAsg (eLc it g t f (own.map (·.2))) (gN i))) := by
  let tg' : TG := fun v σ H Q => ∃ Δ' : Dx, Δ'.K = Δ.K ∧ Δ'.XE = Δ.XE ∧ tG Δ' ws g v σ H Q
  let tt' : TT := fun σ H Q => ∃ Δ' : Dx, Δ'.K = Δ.K ∧ Δ'.XE = Δ.XE ∧ tT Δ' t σ H Q
  let te' : TE := fun σ H Q => ∃ Δ' : Dx, Δ'.K = Δ.K ∧ Δ'.XE = Δ.XE ∧ tE Δ' f σ H Q
  exact (ps_setLc (g := tg') (tt := tt') (te := te') hc hN hy hyl hsw hi bok (fun s H C cl fp => ⟨fun pins s' σ H' v u Q I r ⟨Δ', e, ex, h⟩ => (hg s H C cl fp Δ' e ex).run pins s' σ H' v u Q I r h⟩)
    (fun s H C cl fp => ⟨fun pins s' σ H' Q I ⟨Δ', e, ex, h⟩ => (ht s H C cl fp Δ' e ex).run pins s' σ H' Q I h⟩) (fun s H C cl fp => ⟨fun pins s' σ H' Q I ⟨Δ', e, ex, h⟩ => (he s H C cl fp Δ' e ex).run pins s' σ H' Q I h⟩) hs).imp
    fun D σ H h => asg_of (us := [i]) (fun σ H Q h => lc_ofX (fun Δ' e ex v σ H Q h => ⟨Δ', e, ex, h⟩) (fun Δ' e ex σ H Q h => ⟨Δ', e, ex, h⟩) (fun Δ' e ex σ H Q h => ⟨Δ', e, ex, h⟩) hws σ H Q h) (fun v σ H Q ⟨am, F, c, r, P, ok, s, h, kq⟩ => kq _ F _ H h.2 (Le.refl F) (ok.put s i) (.one σ i _)) D σ H h
end
end Dl
set_option Elab.async false
set_option maxRecDepth 100000
set_option linter.all false
set_option autoImplicit false
set_option maxHeartbeats 4000000
open PySem L2 Dl
local macro_rules | `(tactic| simp -dsimp only [rR_, $xs,*]) => `(tactic| simp -dsimp only [$xs,*, eLstK, eRem, eDisp0, eDispW, eIxW, wPairs, ↓ixW_d, eMaxL, ↓inDD_l, ↓sumC_l, ↓sumC_t, ↓ifdiv_i, sSeq, sAsg, sRet, sIf, sExp, ↓sFor_eq, sPar2, sPar3, ↓sSetI_eq, eRevT, ↓revD_t, eRevL, ↓revLD_l, eDisp1, eDIx, ↓eDIn_t, ↓eDIn_f, sDctP, sRetD, eDIxC, ePop0, ↓dicD_eq, ↓slotDc_k, ↓dicR_k, ↓hdX_c, isDic, ↓sSetIA_eq, ↓sSetIM_eq, sUnp2, ↓sAug_eq, ↓slotA_d, ↓sSetG_eq, sRetG, sGL, sGP, sNil, sBrk, sCnt, sNo, ↓eName_eq, ↓slotE_d, ↓slotE_gen, ↓slotE_scr, ↓slotE_own, eC, eOp, eUn, eSc, eScL, eScR, eCh, eAnd, eOr, eNot, eIf, eTup, eLst, eCB, eIx, eIxN, eSl, eSlN, eSlS, eAddN, eLenN, eApp, eExt, ePop, ↓eCallP_eq, ↓eCallG_eq, eIsi, eGL, eGS, eGC, eGP, aNil, aCons, ↓wB_eq, wTru, wTruN, wAnd, wOr, wNot, wYes, gN, ↓gT_d, ↓gL_own, ↓gL_d, ↓gsC, ↓gsN, oNone, ↓oSome_eq, ↓asI_i, iLst, iTpl, iRg1, iRg2, iRg3, iEnm, iEnmT, iZp, iZpT, iZp3, iScr, ↓eLc_eq, hasD, ↓slotD_eq, ↓slotK_d, ↓slotK_own, ↓ownD_eq, ↓slotO_own, isOwn, scrD, putE, asDs, ↓asD_d, ↓asD_own, ↓argR_d, ↓argR_own, ↓argR_gen, ↓argR_scr, ↓asL_own, ↓asL_d, ↓asT_d, ↓asB_d, ↓sub_i, ↓iadd_i, ↓strC_i, ↓mul_i, ↓fdiv_i, ↓fdivB_i, ↓mod_i, ↓pow_i, ↓lt_i, ↓le_i, ↓gt_i, ↓ge_i, ↓add_i, ↓add_l, ↓add_t, ↓cat_i, ↓cat_l, ↓cat_t, ↓neg_i, ↓eqf_i, ↓eqt_i, ↓lenC_l, ↓lenC_t, ↓absC_i, ↓intC_i, ↓tupC_l, ↓tupC_t, ↓max2C_i, ↓min2C_i, ↓lenC_s, ↓reprC_b, ↓reprA_b, ↓reprA_i, ↓reprA_t, ↓reprC_i, ↓reprN_n, ↓reprN_b, ↓reprN_i, ↓reprN_t, ↓gcdC_i, ↓isBD_f, ↓isBD_t, ↓eqf_rb, ↓eqt_rb, ↓eqt_ri, ↓slD_t, ↓max3C_i, ↓ixt0, ↓ixt1, ↓ixt2, ↓ixt3, ↓ixl0, ↓ixl1, ↓ixtl, ↓ixll, truD, lenD, startC, endP, List.map_cons, List.map_nil, List.length_cons, List.length_nil, List.cons_append, List.nil_append, List.getElem?_cons_zero, List.getElem?_cons_succ, List.set_cons_zero, List.set_cons_succ, List.replicate_succ, List.replicate_zero, Nat.reduceSub, Nat.reduceAdd, Nat.reduceLT, Option.isSome_some, true_and, and_true, ne_eq, not_false_eq_true, reduceCtorEq, if_true, if_false, Bool.false_eq_true, decide_eq_true_eq, List.mem_cons, List.not_mem_nil, or_self, or_false, false_or, ↓reprM_n, ↓reprM_b, ↓reprM_i, ↓reprM_t, ↓reprM_l, eHeard, ↓lam_eq, ↓lamM_n, ↓lamM_c, ↓dropO_d, ↓dropO_g, ↓dropO_s, ↓dropO_n, ↓dropO_o, ↓dropO_k, ↓wrapR_t, ↓wrapR_f, sRaise2, ↓rz2_d, eCallB, ↓nog_eq, ↓dropG_n, ↓dropG_g, ↓dropG_d, ↓dropG_o, ↓dropG_s, ↓dropG_k])
local macro_rules | `(tactic| simp -dsimp only [rR_]) => `(tactic| simp -dsimp only [eLstK, eRem, eDisp0, eDispW, eIxW, wPairs, ↓ixW_d, eMaxL, ↓inDD_l, ↓sumC_l, ↓sumC_t, ↓ifdiv_i, sSeq, sAsg, sRet, sIf, sExp, ↓sFor_eq, sPar2, sPar3, ↓sSetI_eq, eRevT, ↓revD_t, eRevL, ↓revLD_l, eDisp1, eDIx, ↓eDIn_t, ↓eDIn_f, sDctP, sRetD, eDIxC, ePop0, ↓dicD_eq, ↓slotDc_k, ↓dicR_k, ↓hdX_c, isDic, ↓sSetIA_eq, ↓sSetIM_eq, sUnp2, ↓sAug_eq, ↓slotA_d, ↓sSetG_eq, sRetG, sGL, sGP, sNil, sBrk, sCnt, sNo, ↓eName_eq, ↓slotE_d, ↓slotE_gen, ↓slotE_scr, ↓slotE_own, eC, eOp, eUn, eSc, eScL, eScR, eCh, eAnd, eOr, eNot, eIf, eTup, eLst, eCB, eIx, eIxN, eSl, eSlN, eSlS, eAddN, eLenN, eApp, eExt, ePop, ↓eCallP_eq, ↓eCallG_eq, eIsi, eGL, eGS, eGC, eGP, aNil, aCons, ↓wB_eq, wTru, wTruN, wAnd, wOr, wNot, wYes, gN, ↓gT_d, ↓gL_own, ↓gL_d, ↓gsC, ↓gsN, oNone, ↓oSome_eq, ↓asI_i, iLst, iTpl, iRg1, iRg2, iRg3, iEnm, iEnmT, iZp, iZpT, iZp3, iScr, ↓eLc_eq, hasD, ↓slotD_eq, ↓slotK_d, ↓slotK_own, ↓ownD_eq, ↓slotO_own, isOwn, scrD, putE, asDs, ↓asD_d, ↓asD_own, ↓argR_d, ↓argR_own, ↓argR_gen, ↓argR_scr, ↓asL_own, ↓asL_d, ↓asT_d, ↓asB_d, ↓sub_i, ↓iadd_i, ↓strC_i, ↓mul_i, ↓fdiv_i, ↓fdivB_i, ↓mod_i, ↓pow_i, ↓lt_i, ↓le_i, ↓gt_i, ↓ge_i, ↓add_i, ↓add_l, ↓add_t, ↓cat_i, ↓cat_l, ↓cat_t, ↓neg_i, ↓eqf_i, ↓eqt_i, ↓lenC_l, ↓lenC_t, ↓absC_i, ↓intC_i, ↓tupC_l, ↓tupC_t, ↓max2C_i, ↓min2C_i, ↓lenC_s, ↓reprC_b, ↓reprA_b, ↓reprA_i, ↓reprA_t, ↓reprC_i, ↓reprN_n, ↓reprN_b, ↓reprN_i, ↓reprN_t, ↓gcdC_i, ↓isBD_f, ↓isBD_t, ↓eqf_rb, ↓eqt_rb, ↓eqt_ri, ↓slD_t, ↓max3C_i, ↓ixt0, ↓ixt1, ↓ixt2, ↓ixt3, ↓ixl0, ↓ixl1, ↓ixtl, ↓ixll, truD, lenD, startC, endP, List.map_cons, List.map_nil, List.length_cons, List.length_nil, List.cons_append, List.nil_append, List.getElem?_cons_zero, List.getElem?_cons_succ, List.set_cons_zero, List.set_cons_succ, List.replicate_succ, List.replicate_zero, Nat.reduceSub, Nat.reduceAdd, Nat.reduceLT, Option.isSome_some, true_and, and_true, ne_eq, not_false_eq_true, reduceCtorEq, if_true, if_false, Bool.false_eq_true, decide_eq_true_eq, List.mem_cons, List.not_mem_nil, or_self, or_false, false_or, ↓reprM_n, ↓reprM_b, ↓reprM_i, ↓reprM_t, ↓reprM_l, eHeard, ↓lam_eq, ↓lamM_n, ↓lamM_c, ↓dropO_d, ↓dropO_g, ↓dropO_s, ↓dropO_n, ↓dropO_o, ↓dropO_k, ↓wrapR_t, ↓wrapR_f, sRaise2, ↓rz2_d, eCallB, ↓nog_eq, ↓dropG_n, ↓dropG_g, ↓dropG_d, ↓dropG_o, ↓dropG_s, ↓dropG_k])
local macro_rules | `(tactic| simp only [rR_, $xs,*]) => `(tactic| simp only [$xs,*, eLstK, eRem, eDisp0, eDispW, eIxW, wPairs, ↓ixW_d, eMaxL, ↓inDD_l, ↓sumC_l, ↓sumC_t, ↓ifdiv_i, sSeq, sAsg, sRet, sIf, sExp, ↓sFor_eq, sPar2, sPar3, ↓sSetI_eq, eRevT, ↓revD_t, eRevL, ↓revLD_l, eDisp1, eDIx, ↓eDIn_t, ↓eDIn_f, sDctP, sRetD, eDIxC, ePop0, ↓dicD_eq, ↓slotDc_k, ↓dicR_k, ↓hdX_c, isDic, ↓sSetIA_eq, ↓sSetIM_eq, sUnp2, ↓sAug_eq, ↓slotA_d, ↓sSetG_eq, sRetG, sGL, sGP, sNil, sBrk, sCnt, sNo, ↓eName_eq, ↓slotE_d, ↓slotE_gen, ↓slotE_scr, ↓slotE_own, eC, eOp, eUn, eSc, eScL, eScR, eCh, eAnd, eOr, eNot, eIf, eTup, eLst, eCB, eIx, eIxN, eSl, eSlN, eSlS, eAddN, eLenN, eApp, eExt, ePop, ↓eCallP_eq, ↓eCallG_eq, eIsi, eGL, eGS, eGC, eGP, aNil, aCons, ↓wB_eq, wTru, wTruN, wAnd, wOr, wNot, wYes, gN, ↓gT_d, ↓gL_own, ↓gL_d, ↓gsC, ↓gsN, oNone, ↓oSome_eq, ↓asI_i, iLst, iTpl, iRg1, iRg2, iRg3, iEnm, iEnmT, iZp, iZpT, iZp3, iScr, ↓eLc_eq, hasD, ↓slotD_eq, ↓slotK_d, ↓slotK_own, ↓ownD_eq, ↓slotO_own, isOwn, scrD, putE, asDs, ↓asD_d, ↓asD_own, ↓argR_d, ↓argR_own, ↓argR_gen, ↓argR_scr, ↓asL_own, ↓asL_d, ↓asT_d, ↓asB_d, ↓sub_i, ↓iadd_i, ↓strC_i, ↓mul_i, ↓fdiv_i, ↓fdivB_i, ↓mod_i, ↓pow_i, ↓lt_i, ↓le_i, ↓gt_i, ↓ge_i, ↓add_i, ↓add_l, ↓add_t, ↓cat_i, ↓cat_l, ↓cat_t, ↓neg_i, ↓eqf_i, ↓eqt_i, ↓lenC_l, ↓lenC_t, ↓absC_i, ↓intC_i, ↓tupC_l, ↓tupC_t, ↓max2C_i, ↓min2C_i, ↓lenC_s, ↓reprC_b, ↓reprA_b, ↓reprA_i, ↓reprA_t, ↓reprC_i, ↓reprN_n, ↓reprN_b, ↓reprN_i, ↓reprN_t, ↓gcdC_i, ↓isBD_f, ↓isBD_t, ↓eqf_rb, ↓eqt_rb, ↓eqt_ri, ↓slD_t, ↓max3C_i, ↓ixt0, ↓ixt1, ↓ixt2, ↓ixt3, ↓ixl0, ↓ixl1, ↓ixtl, ↓ixll, truD, lenD, startC, endP, List.map_cons, List.map_nil, List.length_cons, List.length_nil, List.cons_append, List.nil_append, List.getElem?_cons_zero, List.getElem?_cons_succ, List.set_cons_zero, List.set_cons_succ, List.replicate_succ, List.replicate_zero, Nat.reduceSub, Nat.reduceAdd, Nat.reduceLT, Option.isSome_some, true_and, and_true, ne_eq, not_false_eq_true, reduceCtorEq, if_true, if_false, Bool.false_eq_true, decide_eq_true_eq, List.mem_cons, List.not_mem_nil, or_self, or_false, false_or, ↓reprM_n, ↓reprM_b, ↓reprM_i, ↓reprM_t, ↓reprM_l, eHeard, ↓lam_eq, ↓lamM_n, ↓lamM_c, ↓dropO_d, ↓dropO_g, ↓dropO_s, ↓dropO_n, ↓dropO_o, ↓dropO_k, ↓wrapR_t, ↓wrapR_f, sRaise2, ↓rz2_d, eCallB, ↓nog_eq, ↓dropG_n, ↓dropG_g, ↓dropG_d, ↓dropG_o, ↓dropG_s, ↓dropG_k])
local macro_rules | `(tactic| simp only [rR_]) => `(tactic| simp only [eLstK, eRem, eDisp0, eDispW, eIxW, wPairs, ↓ixW_d, eMaxL, ↓inDD_l, ↓sumC_l, ↓sumC_t, ↓ifdiv_i, sSeq, sAsg, sRet, sIf, sExp, ↓sFor_eq, sPar2, sPar3, ↓sSetI_eq, eRevT, ↓revD_t, eRevL, ↓revLD_l, eDisp1, eDIx, ↓eDIn_t, ↓eDIn_f, sDctP, sRetD, eDIxC, ePop0, ↓dicD_eq, ↓slotDc_k, ↓dicR_k, ↓hdX_c, isDic, ↓sSetIA_eq, ↓sSetIM_eq, sUnp2, ↓sAug_eq, ↓slotA_d, ↓sSetG_eq, sRetG, sGL, sGP, sNil, sBrk, sCnt, sNo, ↓eName_eq, ↓slotE_d, ↓slotE_gen, ↓slotE_scr, ↓slotE_own, eC, eOp, eUn, eSc, eScL, eScR, eCh, eAnd, eOr, eNot, eIf, eTup, eLst, eCB, eIx, eIxN, eSl, eSlN, eSlS, eAddN, eLenN, eApp, eExt, ePop, ↓eCallP_eq, ↓eCallG_eq, eIsi, eGL, eGS, eGC, eGP, aNil, aCons, ↓wB_eq, wTru, wTruN, wAnd, wOr, wNot, wYes, gN, ↓gT_d, ↓gL_own, ↓gL_d, ↓gsC, ↓gsN, oNone, ↓oSome_eq, ↓asI_i, iLst, iTpl, iRg1, iRg2, iRg3, iEnm, iEnmT, iZp, iZpT, iZp3, iScr, ↓eLc_eq, hasD, ↓slotD_eq, ↓slotK_d, ↓slotK_own, ↓ownD_eq, ↓slotO_own, isOwn, scrD, putE, asDs, ↓asD_d, ↓asD_own, ↓argR_d, ↓argR_own, ↓argR_gen, ↓argR_scr, ↓asL_own, ↓asL_d, ↓asT_d, ↓asB_d, ↓sub_i, ↓iadd_i, ↓strC_i, ↓mul_i, ↓fdiv_i, ↓fdivB_i, ↓mod_i, ↓pow_i, ↓lt_i, ↓le_i, ↓gt_i, ↓ge_i, ↓add_i, ↓add_l, ↓add_t, ↓cat_i, ↓cat_l, ↓cat_t, ↓neg_i, ↓eqf_i, ↓eqt_i, ↓lenC_l, ↓lenC_t, ↓absC_i, ↓intC_i, ↓tupC_l, ↓tupC_t, ↓max2C_i, ↓min2C_i, ↓lenC_s, ↓reprC_b, ↓reprA_b, ↓reprA_i, ↓reprA_t, ↓reprC_i, ↓reprN_n, ↓reprN_b, ↓reprN_i, ↓reprN_t, ↓gcdC_i, ↓isBD_f, ↓isBD_t, ↓eqf_rb, ↓eqt_rb, ↓eqt_ri, ↓slD_t, ↓max3C_i, ↓ixt0, ↓ixt1, ↓ixt2, ↓ixt3, ↓ixl0, ↓ixl1, ↓ixtl, ↓ixll, truD, lenD, startC, endP, List.map_cons, List.map_nil, List.length_cons, List.length_nil, List.cons_append, List.nil_append, List.getElem?_cons_zero, List.getElem?_cons_succ, List.set_cons_zero, List.set_cons_succ, List.replicate_succ, List.replicate_zero, Nat.reduceSub, Nat.reduceAdd, Nat.reduceLT, Option.isSome_some, true_and, and_true, ne_eq, not_false_eq_true, reduceCtorEq, if_true, if_false, Bool.false_eq_true, decide_eq_true_eq, List.mem_cons, List.not_mem_nil, or_self, or_false, false_or, ↓reprM_n, ↓reprM_b, ↓reprM_i, ↓reprM_t, ↓reprM_l, eHeard, ↓lam_eq, ↓lamM_n, ↓lamM_c, ↓dropO_d, ↓dropO_g, ↓dropO_s, ↓dropO_n, ↓dropO_o, ↓dropO_k, ↓wrapR_t, ↓wrapR_f, sRaise2, ↓rz2_d, eCallB, ↓nog_eq, ↓dropG_n, ↓dropG_g, ↓dropG_d, ↓dropG_o, ↓dropG_s, ↓dropG_k])
local macro_rules | `(tactic| simp -dsimp only [rQ_, $xs,*]) => `(tactic| simp -dsimp only [$xs,*, eLstK, eRem, eDisp0, eDispW, eIxW, wPairs, ixW_d, eMaxL, inDD_l, sumC_l, sumC_t, ifdiv_i, sSeq, sAsg, sRet, sIf, sExp, sFor_eq, sPar2, sPar3, sSetI_eq, eRevT, revD_t, eRevL, revLD_l, eDisp1, eDIx, eDIn_t, eDIn_f, sDctP, sRetD, eDIxC, ePop0, dicD_eq, slotDc_k, dicR_k, hdX_c, isDic, sSetIA_eq, sSetIM_eq, sUnp2, sAug_eq, slotA_d, sSetG_eq, sRetG, sGL, sGP, sNil, sBrk, sCnt, sNo, eName_eq, slotE_d, slotE_gen, slotE_scr, slotE_own, eC, eOp, eUn, eSc, eScL, eScR, eCh, eAnd, eOr, eNot, eIf, eTup, eLst, eCB, eIx, eIxN, eSl, eSlN, eSlS, eAddN, eLenN, eApp, eExt, ePop, eCallP_eq, eCallG_eq, eIsi, eGL, eGS, eGC, eGP, aNil, aCons, wB_eq, wTru, wTruN, wAnd, wOr, wNot, wYes, gN, gT_d, gL_own, gL_d, gsC, gsN, oNone, oSome_eq, asI_i, iLst, iTpl, iRg1, iRg2, iRg3, iEnm, iEnmT, iZp, iZpT, iZp3, iScr, eLc_eq, hasD, slotD_eq, slotK_d, slotK_own, ownD_eq, slotO_own, isOwn, scrD, putE, asDs, asD_d, asD_own, argR_d, argR_own, argR_gen, argR_scr, asL_own, asL_d, asT_d, asB_d, sub_i, iadd_i, strC_i, mul_i, fdiv_i, fdivB_i, mod_i, pow_i, lt_i, le_i, gt_i, ge_i, add_i, add_l, add_t, cat_i, cat_l, cat_t, neg_i, eqf_i, eqt_i, lenC_l, lenC_t, absC_i, intC_i, tupC_l, tupC_t, max2C_i, min2C_i, lenC_s, reprC_b, reprA_b, reprA_i, reprA_t, reprC_i, reprN_n, reprN_b, reprN_i, reprN_t, gcdC_i, isBD_f, isBD_t, eqf_rb, eqt_rb, eqt_ri, slD_t, max3C_i, ixt0, ixt1, ixt2, ixt3, ixl0, ixl1, ixtl, ixll, truD, lenD, startC, endP, List.map_cons, List.map_nil, List.length_cons, List.length_nil, List.cons_append, List.nil_append, List.getElem?_cons_zero, List.getElem?_cons_succ, List.set_cons_zero, List.set_cons_succ, List.replicate_succ, List.replicate_zero, Nat.reduceSub, Nat.reduceAdd, Nat.reduceLT, Option.isSome_some, true_and, and_true, ne_eq, not_false_eq_true, reduceCtorEq, if_true, if_false, Bool.false_eq_true, decide_eq_true_eq, List.mem_cons, List.not_mem_nil, or_self, or_false, false_or, reprM_n, reprM_b, reprM_i, reprM_t, reprM_l, eHeard, lam_eq, lamM_n, lamM_c, dropO_d, dropO_g, dropO_s, dropO_n, dropO_o, dropO_k, wrapR_t, wrapR_f, sRaise2, rz2_d, eCallB, nog_eq, dropG_n, dropG_g, dropG_d, dropG_o, dropG_s, dropG_k])
local macro_rules | `(tactic| simp -dsimp only [rQ_]) => `(tactic| simp -dsimp only [eLstK, eRem, eDisp0, eDispW, eIxW, wPairs, ixW_d, eMaxL, inDD_l, sumC_l, sumC_t, ifdiv_i, sSeq, sAsg, sRet, sIf, sExp, sFor_eq, sPar2, sPar3, sSetI_eq, eRevT, revD_t, eRevL, revLD_l, eDisp1, eDIx, eDIn_t, eDIn_f, sDctP, sRetD, eDIxC, ePop0, dicD_eq, slotDc_k, dicR_k, hdX_c, isDic, sSetIA_eq, sSetIM_eq, sUnp2, sAug_eq, slotA_d, sSetG_eq, sRetG, sGL, sGP, sNil, sBrk, sCnt, sNo, eName_eq, slotE_d, slotE_gen, slotE_scr, slotE_own, eC, eOp, eUn, eSc, eScL, eScR, eCh, eAnd, eOr, eNot, eIf, eTup, eLst, eCB, eIx, eIxN, eSl, eSlN, eSlS, eAddN, eLenN, eApp, eExt, ePop, eCallP_eq, eCallG_eq, eIsi, eGL, eGS, eGC, eGP, aNil, aCons, wB_eq, wTru, wTruN, wAnd, wOr, wNot, wYes, gN, gT_d, gL_own, gL_d, gsC, gsN, oNone, oSome_eq, asI_i, iLst, iTpl, iRg1, iRg2, iRg3, iEnm, iEnmT, iZp, iZpT, iZp3, iScr, eLc_eq, hasD, slotD_eq, slotK_d, slotK_own, ownD_eq, slotO_own, isOwn, scrD, putE, asDs, asD_d, asD_own, argR_d, argR_own, argR_gen, argR_scr, asL_own, asL_d, asT_d, asB_d, sub_i, iadd_i, strC_i, mul_i, fdiv_i, fdivB_i, mod_i, pow_i, lt_i, le_i, gt_i, ge_i, add_i, add_l, add_t, cat_i, cat_l, cat_t, neg_i, eqf_i, eqt_i, lenC_l, lenC_t, absC_i, intC_i, tupC_l, tupC_t, max2C_i, min2C_i, lenC_s, reprC_b, reprA_b, reprA_i, reprA_t, reprC_i, reprN_n, reprN_b, reprN_i, reprN_t, gcdC_i, isBD_f, isBD_t, eqf_rb, eqt_rb, eqt_ri, slD_t, max3C_i, ixt0, ixt1, ixt2, ixt3, ixl0, ixl1, ixtl, ixll, truD, lenD, startC, endP, List.map_cons, List.map_nil, List.length_cons, List.length_nil, List.cons_append, List.nil_append, List.getElem?_cons_zero, List.getElem?_cons_succ, List.set_cons_zero, List.set_cons_succ, List.replicate_succ, List.replicate_zero, Nat.reduceSub, Nat.reduceAdd, Nat.reduceLT, Option.isSome_some, true_and, and_true, ne_eq, not_false_eq_true, reduceCtorEq, if_true, if_false, Bool.false_eq_true, decide_eq_true_eq, List.mem_cons, List.not_mem_nil, or_self, or_false, false_or, reprM_n, reprM_b, reprM_i, reprM_t, reprM_l, eHeard, lam_eq, lamM_n, lamM_c, dropO_d, dropO_g, dropO_s, dropO_n, dropO_o, dropO_k, wrapR_t, wrapR_f, sRaise2, rz2_d, eCallB, nog_eq, dropG_n, dropG_g, dropG_d, dropG_o, dropG_s, dropG_k])
local macro_rules | `(tactic| simp only [rQ_, $xs,*]) => `(tactic| simp only [$xs,*, eLstK, eRem, eDisp0, eDispW, eIxW, wPairs, ixW_d, eMaxL, inDD_l, sumC_l, sumC_t, ifdiv_i, sSeq, sAsg, sRet, sIf, sExp, sFor_eq, sPar2, sPar3, sSetI_eq, eRevT, revD_t, eRevL, revLD_l, eDisp1, eDIx, eDIn_t, eDIn_f, sDctP, sRetD, eDIxC, ePop0, dicD_eq, slotDc_k, dicR_k, hdX_c, isDic, sSetIA_eq, sSetIM_eq, sUnp2, sAug_eq, slotA_d, sSetG_eq, sRetG, sGL, sGP, sNil, sBrk, sCnt, sNo, eName_eq, slotE_d, slotE_gen, slotE_scr, slotE_own, eC, eOp, eUn, eSc, eScL, eScR, eCh, eAnd, eOr, eNot, eIf, eTup, eLst, eCB, eIx, eIxN, eSl, eSlN, eSlS, eAddN, eLenN, eApp, eExt, ePop, eCallP_eq, eCallG_eq, eIsi, eGL, eGS, eGC, eGP, aNil, aCons, wB_eq, wTru, wTruN, wAnd, wOr, wNot, wYes, gN, gT_d, gL_own, gL_d, gsC, gsN, oNone, oSome_eq, asI_i, iLst, iTpl, iRg1, iRg2, iRg3, iEnm, iEnmT, iZp, iZpT, iZp3, iScr, eLc_eq, hasD, slotD_eq, slotK_d, slotK_own, ownD_eq, slotO_own, isOwn, scrD, putE, asDs, asD_d, asD_own, argR_d, argR_own, argR_gen, argR_scr, asL_own, asL_d, asT_d, asB_d, sub_i, iadd_i, strC_i, mul_i, fdiv_i, fdivB_i, mod_i, pow_i, lt_i, le_i, gt_i, ge_i, add_i, add_l, add_t, cat_i, cat_l, cat_t, neg_i, eqf_i, eqt_i, lenC_l, lenC_t, absC_i, intC_i, tupC_l, tupC_t, max2C_i, min2C_i, lenC_s, reprC_b, reprA_b, reprA_i, reprA_t, reprC_i, reprN_n, reprN_b, reprN_i, reprN_t, gcdC_i, isBD_f, isBD_t, eqf_rb, eqt_rb, eqt_ri, slD_t, max3C_i, ixt0, ixt1, ixt2, ixt3, ixl0, ixl1, ixtl, ixll, truD, lenD, startC, endP, List.map_cons, List.map_nil, List.length_cons, List.length_nil, List.cons_append, List.nil_append, List.getElem?_cons_zero, List.getElem?_cons_succ, List.set_cons_zero, List.set_cons_succ, List.replicate_succ, List.replicate_zero, Nat.reduceSub, Nat.reduceAdd, Nat.reduceLT, Option.isSome_some, true_and, and_true, ne_eq, not_false_eq_true, reduceCtorEq, if_true, if_false, Bool.false_eq_true, decide_eq_true_eq, List.mem_cons, List.not_mem_nil, or_self, or_false, false_or, reprM_n, reprM_b, reprM_i, reprM_t, reprM_l, eHeard, lam_eq, lamM_n, lamM_c, dropO_d, dropO_g, dropO_s, dropO_n, dropO_o, dropO_k, wrapR_t, wrapR_f, sRaise2, rz2_d, eCallB, nog_eq, dropG_n, dropG_g, dropG_d, dropG_o, dropG_s, dropG_k])
local macro_rules | `(tactic| simp only [rQ_]) => `(tactic| simp only [eLstK, eRem, eDisp0, eDispW, eIxW, wPairs, ixW_d, eMaxL, inDD_l, sumC_l, sumC_t, ifdiv_i, sSeq, sAsg, sRet, sIf, sExp, sFor_eq, sPar2, sPar3, sSetI_eq, eRevT, revD_t, eRevL, revLD_l, eDisp1, eDIx, eDIn_t, eDIn_f, sDctP, sRetD, eDIxC, ePop0, dicD_eq, slotDc_k, dicR_k, hdX_c, isDic, sSetIA_eq, sSetIM_eq, sUnp2, sAug_eq, slotA_d, sSetG_eq, sRetG, sGL, sGP, sNil, sBrk, sCnt, sNo, eName_eq, slotE_d, slotE_gen, slotE_scr, slotE_own, eC, eOp, eUn, eSc, eScL, eScR, eCh, eAnd, eOr, eNot, eIf, eTup, eLst, eCB, eIx, eIxN, eSl, eSlN, eSlS, eAddN, eLenN, eApp, eExt, ePop, eCallP_eq, eCallG_eq, eIsi, eGL, eGS, eGC, eGP, aNil, aCons, wB_eq, wTru, wTruN, wAnd, wOr, wNot, wYes, gN, gT_d, gL_own, gL_d, gsC, gsN, oNone, oSome_eq, asI_i, iLst, iTpl, iRg1, iRg2, iRg3, iEnm, iEnmT, iZp, iZpT, iZp3, iScr, eLc_eq, hasD, slotD_eq, slotK_d, slotK_own, ownD_eq, slotO_own, isOwn, scrD, putE, asDs, asD_d, asD_own, argR_d, argR_own, argR_gen, argR_scr, asL_own, asL_d, asT_d, asB_d, sub_i, iadd_i, strC_i, mul_i, fdiv_i, fdivB_i, mod_i, pow_i, lt_i, le_i, gt_i, ge_i, add_i, add_l, add_t, cat_i, cat_l, cat_t, neg_i, eqf_i, eqt_i, lenC_l, lenC_t, absC_i, intC_i, tupC_l, tupC_t, max2C_i, min2C_i, lenC_s, reprC_b, reprA_b, reprA_i, reprA_t, reprC_i, reprN_n, reprN_b, reprN_i, reprN_t, gcdC_i, isBD_f, isBD_t, eqf_rb, eqt_rb, eqt_ri, slD_t, max3C_i, ixt0, ixt1, ixt2, ixt3, ixl0, ixl1, ixtl, ixll, truD, lenD, startC, endP, List.map_cons, List.map_nil, List.length_cons, List.length_nil, List.cons_append, List.nil_append, List.getElem?_cons_zero, List.getElem?_cons_succ, List.set_cons_zero, List.set_cons_succ, List.replicate_succ, List.replicate_zero, Nat.reduceSub, Nat.reduceAdd, Nat.reduceLT, Option.isSome_some, true_and, and_true, ne_eq, not_false_eq_true, reduceCtorEq, if_true, if_false, Bool.false_eq_true, decide_eq_true_eq, List.mem_cons, List.not_mem_nil, or_self, or_false, false_or, reprM_n, reprM_b, reprM_i, reprM_t, reprM_l, eHeard, lam_eq, lamM_n, lamM_c, dropO_d, dropO_g, dropO_s, dropO_n, dropO_o, dropO_k, wrapR_t, wrapR_f, sRaise2, rz2_d, eCallB, nog_eq, dropG_n, dropG_g, dropG_d, dropG_o, dropG_s, dropG_k])
namespace K
open PySem L2 Dl
variable [TabF]
structure Tie where
  v : Int
  w : Int
  p : Int
  q : Int
structure Web where
  rooms : Int
  ties : List Tie
def eT (t : Tie) : Px := .tuple [.int t.v, .int t.w, .int t.p, .int t.q]
def eW (w : Web) : Px := .tuple [.int w.rooms, .tuple (w.ties.map eT)]
/-- the tie with a number -/
def Web.at (w : Web) (t : Int) (x : Tie) : Prop := ∃ i : Nat, t = (i : Int) ∧ w.ties[i]? = some x
def rev (t : Tie) (s : Int) : Tie := if s = 1 then t else ⟨t.w, t.v, t.q, t.p⟩
/-- a drawn web: rooms in range, ends not 0 and not too great -/
structure TieOk (n : Int) (gr : Int) (t : Tie) : Prop where
  v0 : 0 ≤ t.v
  v1 : t.v < n
  w0 : 0 ≤ t.w
  w1 : t.w < n
  p0 : t.p ≠ 0
  p1 : t.p.natAbs ≤ gr
  q0 : t.q ≠ 0
  q1 : t.q.natAbs ≤ gr
structure WebOk (w : Web) (gr : Int) : Prop where
  r0 : 1 ≤ w.rooms
  tie : ∀ t ∈ w.ties, TieOk w.rooms gr t
theorem WebOk.at {w : Web} {gr t : Int} {x : Tie} (h : WebOk w gr) (a : Web.at w t x) : TieOk w.rooms gr x := by
  obtain ⟨i, _, e⟩ := a
  exact h.tie x (List.mem_of_getElem? e)
theorem TieOk.rev {n gr : Int} {t : Tie} (h : TieOk n gr t) (s : Int) : TieOk n gr (rev t s) := by
  unfold K.rev
  split
  · exact h
  · exact ⟨h.w0, h.w1, h.v0, h.v1, h.q0, h.q1, h.p0, h.p1⟩
structure Stp where
  tie : Int
  side : Int
  k : Int
structure Wlk where
  room : Int
  k : Int
  steps : List Stp
def eC2 (c : Int × Int) : Px := .tuple [.int c.1, .int c.2]
/-- a crossing of the web -/
def CrOk (w : Web) (t s : Int) : Prop := (∃ x, Web.at w t x) ∧ (s = 1 ∨ s = -1)
def StepsOk (w : Web) (l : List Stp) : Prop := ∀ s ∈ l, CrOk w s.tie s.side
/-! ### draws -/
structure Big (i : Int) : Prop where
  out : i.natAbs < 2 ^ 9000
abbrev C_law_draw : Cn := fun rs g Q => ∃ (b : Int) (n : Nat), rs = [.gen, .d (.int b)] ∧ g = some n ∧ n + 1 ≤ 2 ^ 40 ∧ 0 < b ∧ Big b ∧ ∀ (r : Int) (m : Nat), 0 ≤ r → r < b → m ≤ n + 1 → Q (.d (.int r)) (some m)
def w_law_draw : WS :=
  (sSeq (sIf (wB (eSc gtD (eGL 0) (eC (.int 0)))) (sSeq (sAsg (eOp modD (eCB intC (aCons (eGL 0) aNil)) (eName 1)) (gN 2))
  (sSeq (sGL 0 (eOp fdivD (eGL 0) (eName 1)))
  (sRet (eName 2)))) sNil)
  (sSeq (sAsg (eGP 0) (gN 3))
  (sSeq (sGP 0 (eAddN 3 (eC (.int 1))))
  (sSeq (sPar2 4 5 (eGC 0) (eOp addD (eGS 0) (eOp mulD (eOp mulD (eC (.int 40503)) (eName 3)) (eName 3))))
  (sSeq (sAsg (eIxN 4 (eOp modD (eCB intC (aCons (eName 3) aNil)) (eLenN 4))) (gN 6))
  (sSeq (sAsg (eOp modD (eCB intC (aCons (eOp addD (eOp mulD (eName 6) (eOp addD (eOp mulD (eC (.int 2)) (eName 3)) (eC (.int 3)))) (eName 5)) aNil)) (eC (.int 2147483647))) (gN 7))
  (sSeq (sAsg (eOp modD (eCB intC (aCons (eOp addD (eOp addD (eOp mulD (eName 7) (eName 7)) (eOp mulD (eC (.int 69621)) (eName 3))) (eGS 0)) aNil)) (eC (.int 2147483629))) (gN 7))
  (sRet (eOp modD (eOp fdivD (eOp modD (eCB intC (aCons (eOp addD (eOp mulD (eName 7) (eC (.int 48271))) (eName 3)) aNil)) (eC (.int 2147483647))) (eC (.int 11))) (eName 1))))))))))
theorem len_law_draw (rs : List Rv) (g : Option Nat) (Q : Rv → Option Nat → Prop) (h : C_law_draw rs g Q) : rs.length = 2 := by
  obtain ⟨b, n, rfl, _⟩ := h
  rfl
theorem spec_law_draw (rs : List Rv) (g : Option Nat) (Q : Rv → Option Nat → Prop) (h : C_law_draw rs g Q) : w_law_draw (startC 8 rs g) (endP Q) fun _ _ => False := by
  obtain ⟨b, n, rfl, rfl, hn, hb, hb2, hQ⟩ := h
  simp -dsimp only [rQ_, w_law_draw]
  intro l hl
  by_cases h0 : 0 < l
  · simp -dsimp only [rQ_, h0]
    intro l1 hl1
    refine ⟨by omega, fun l2 hl2 => ⟨CDiv2.g hb hb2.out, fdiv_nn hl2 hb, ?_⟩⟩
    exact hQ _ _ (fmod_b hb).1 (fmod_b hb).2 (by omega)
  · simp -dsimp only [rQ_, h0]
    refine ⟨n, rfl, by omega, fun s h1 h2 => ⟨by omega, n + 1, by omega, hn, fun ns hne hl1 sd h3 h4 => ?_⟩⟩
    have hs : s ≤ 2 ^ 40 := by omega
    have hln : (0 : Int) < ((ns.map PyData.int).length : Int) := by
      cases ns with
      | nil => exact absurd rfl hne
      | cons a r => simp only [List.map_cons, List.length_cons]; omega
    refine ⟨CMul2.l (by omega) (by omega), CMul2.r (by omega) (by omega), by omega, ixl_of (fmod_b hln).1 (fmod_b hln).2 fun x hx => ?_⟩
    obtain ⟨c, _, rfl⟩ := List.mem_map.mp hx
    refine ⟨CMul2.l (by omega) (by omega), ?_⟩
    try simp -dsimp only [rQ_]
    refine ⟨CMul2.r (by omega) (by omega), by omega, ?_⟩
    have hb1 := fmod_b (i := c * (2 * s + 3) + (sd + 40503 * s * s)) (b := 2147483647) (by omega)
    refine ⟨CMul2.l (by omega) (by omega), CMul2.l (by omega) (by omega), fun sd2 h5 h6 => ⟨by omega, CMul2.r (by omega) (by omega), by omega, CDiv2.s (by omega) (by omega) (by omega), by omega, ?_⟩⟩
    exact hQ _ _ (fmod_b hb).1 (fmod_b hb).2 (by omega)
abbrev C_law_of : Cn := fun rs g Q => ∃ (xs : List Px) (n : Nat), rs = [.gen, .d (.list xs)] ∧ g = some n ∧ n + 1 ≤ 2 ^ 40 ∧ xs ≠ [] ∧ xs.length ≤ 1000000 ∧ ∀ x ∈ xs, ∀ m : Nat, m ≤ n + 1 → Q (.d x) (some m)
def w_law_of : WS :=
  (sRet (eIxN 1 (eCallG C_law_draw (aCons (eName 0) (aCons (eLenN 1) aNil)))))
theorem len_law_of (rs : List Rv) (g : Option Nat) (Q : Rv → Option Nat → Prop) (h : C_law_of rs g Q) : rs.length = 2 := by
  obtain ⟨b, n, rfl, _⟩ := h
  rfl
theorem pow9000 {i : Int} (h0 : 0 ≤ i) (h : i ≤ 10000000) : Big i :=
  ⟨Nat.lt_of_lt_of_le (show i.natAbs < 2 ^ 24 by omega) (Nat.pow_le_pow_right (by decide) (by decide))⟩
theorem spec_law_of (rs : List Rv) (g : Option Nat) (Q : Rv → Option Nat → Prop) (h : C_law_of rs g Q) : w_law_of (startC 2 rs g) (endP Q) fun _ _ => False := by
  obtain ⟨xs, n, rfl, rfl, hn, hx, hl, hQ⟩ := h
  have h0 : (0 : Int) < (xs.length : Int) := by
    cases xs with
    | nil => exact absurd rfl hx
    | cons a r => simp only [List.length_cons]; omega
  simp -dsimp only [rQ_, w_law_of, C_law_draw]
  refine ⟨_, n, rfl, rfl, hn, h0, pow9000 (by omega) (by omega), fun r m h1 h2 h3 => ?_⟩
  try simp -dsimp only [rQ_]
  exact ixl_of h1 h2 fun x hx => hQ x hx m h3
abbrev C_law_ends : Cn := fun rs g Q => ∃ w t s x, rs = [.d (eW w), .d (.int t), .d (.int s)] ∧ Web.at w t x ∧ Q (.d (eT (rev x s))) g
def w_law_ends : WS :=
  (sSeq (sAsg (eIx (eIxN 0 (eC (.int 1))) (eName 1)) (gT 4 (gsCons (gN 3) (gsCons (gN 4) (gsCons (gN 5) (gsCons (gN 6) gsNil))))))
  (sRet (eIf (wB (eScL 2 (eqD false) (eC (.int 1)))) (eTup (aCons (eName 3) (aCons (eName 4) (aCons (eName 5) (aCons (eName 6) aNil))))) (eTup (aCons (eName 4) (aCons (eName 3) (aCons (eName 6) (aCons (eName 5) aNil))))))))
theorem len_law_ends (rs : List Rv) (g : Option Nat) (Q : Rv → Option Nat → Prop) (h : C_law_ends rs g Q) : rs.length = 3 := by
  obtain ⟨w, t, s, x, rfl, _⟩ := h
  rfl
theorem spec_law_ends (rs : List Rv) (g : Option Nat) (Q : Rv → Option Nat → Prop) (h : C_law_ends rs g Q) : w_law_ends (startC 7 rs g) (endP Q) fun _ _ => False := by
  obtain ⟨w, t, s, x, rfl, ⟨i, rfl, hx⟩, hQ⟩ := h
  simp -dsimp only [rQ_, w_law_ends, eW]
  rw [ixtn (map_of eT hx)]
  simp -dsimp only [rQ_, eT]
  unfold rev at hQ
  by_cases hs : s = 1
  · rw [if_pos hs] at hQ
    simp -dsimp only [rQ_, hs, beq_self_eq_true]
    exact ⟨by decide, hQ⟩
  · rw [if_neg hs] at hQ
    have hb : (s == 1) = false := by simpa using hs
    simp -dsimp only [rQ_, hb]
    exact ⟨by decide, hQ⟩
/-- the crossings out of a room over the first ties -/
def outsN (w : Web) (room : Int) (n : Nat) : List (Int × Int) := (List.range n).flatMap fun i => match w.ties[i]? with
  | some t => (if t.v = room then [((i : Int), 1)] else []) ++ (if t.w = room then [((i : Int), -1)] else [])
  | none => []
theorem outsN_succ (w : Web) (room : Int) (n : Nat) {t : Tie} (h : w.ties[n]? = some t) : outsN w room (n + 1) = outsN w room n ++ ((if t.v = room then [((n : Int), 1)] else []) ++ (if t.w = room then [((n : Int), -1)] else [])) := by
  unfold outsN
  rw [List.range_succ, List.flatMap_append]
  simp only [List.flatMap_cons, List.flatMap_nil, List.append_nil, h]
theorem outsN_len (w : Web) (room : Int) (n : Nat) : (outsN w room n).length ≤ 2 * n := by
  unfold outsN
  induction n with
  | zero => simp
  | succ n ih =>
    rw [List.range_succ, List.flatMap_append, List.length_append]
    simp only [List.flatMap_cons, List.flatMap_nil, List.append_nil]
    have : (match w.ties[n]? with
        | some t => (if t.v = room then [((n : Int), (1 : Int))] else []) ++ (if t.w = room then [((n : Int), (-1 : Int))] else [])
        | none => ([] : List (Int × Int))).length ≤ 2 := by
      split
      · split <;> split <;> simp
      · simp
    omega
def outs (w : Web) (room : Int) : List (Int × Int) := outsN w room w.ties.length
theorem outs_ok {w : Web} {room : Int} {c : Int × Int} (h : c ∈ outs w room) : CrOk w c.1 c.2 ∧ ∀ x, Web.at w c.1 x → (rev x c.2).v = room := by
  unfold outs outsN at h
  obtain ⟨i, _, h⟩ := List.mem_flatMap.mp h
  cases e : w.ties[i]? with
  | none => rw [e] at h; cases h
  | some t =>
    rw [e] at h
    simp only [List.mem_append] at h
    have key : ∀ x, Web.at w (i : Int) x → x = t := fun x ⟨j, hj, hx⟩ => by
      have : i = j := by omega
      subst this
      rw [e] at hx
      exact (Option.some.inj hx).symm
    rcases h with h | h
    · split at h
      · simp only [List.mem_cons, List.not_mem_nil, or_false] at h
        subst h
        refine ⟨⟨⟨t, i, rfl, e⟩, .inl rfl⟩, fun x hx => ?_⟩
        rw [key x hx]
        simp only [rev, if_true]
        assumption
      · cases h
    · split at h
      · simp only [List.mem_cons, List.not_mem_nil, or_false] at h
        subst h
        refine ⟨⟨⟨t, i, rfl, e⟩, .inr rfl⟩, fun x hx => ?_⟩
        rw [key x hx]
        simp only [rev]
        rw [if_neg (by decide)]
        assumption
      · cases h
abbrev C_law_out : Cn := fun rs g Q => ∃ w r, rs = [.d (eW w), .d (.int r)] ∧ w.ties.length ≤ 1000 ∧ Q (.d (.list ((outs w r).map eC2))) g
def w_law_out : WS :=
  (sSeq (sAsg (eLst aNil) (gN 2))
  (sSeq (sFor (iRg1 (aCons (eCB lenC (aCons (eIxN 0 (eC (.int 1))) aNil)) aNil)) (gN 3)
  (sAsg (eAddN 2 (eLc (iTpl (eTup (aCons (eC (.int 1)) (aCons (eUn negD (eC (.int 1))) aNil)))) (gN 4) (wB (eScR 1 (eqD false) (eIx (eCallP C_law_ends (aCons (eName 0) (aCons (eName 3) (aCons (eName 4) aNil)))) (eC (.int 0))))) (eTup (aCons (eName 3) (aCons (eName 4) aNil))) [4])) (gN 2)))
  (sRet (eName 2))))
theorem len_law_out (rs : List Rv) (g : Option Nat) (Q : Rv → Option Nat → Prop) (h : C_law_out rs g Q) : rs.length = 2 := by
  obtain ⟨w, t, rfl, _⟩ := h
  rfl
theorem spec_law_out (rs : List Rv) (g : Option Nat) (Q : Rv → Option Nat → Prop) (h : C_law_out rs g Q) : w_law_out (startC 5 rs g) (endP Q) fun _ _ => False := by
  obtain ⟨w, r, rfl, hl, hQ⟩ := h
  simp -dsimp only [rQ_, w_law_out, C_law_ends]
  simp -dsimp only [rQ_, eW]
  refine ⟨by simp [smI], by simp [smI]; omega, ?_⟩
  refine forW_ind _ (fun i c => ∃ x4 x5, (∀ r : Rv, x5 = some r → ¬ r.mu) ∧ c = ⟨[some (.d (.tuple [.int w.rooms, .tuple (w.ties.map eT)])), some (.d (.int r)), some (.own ((outsN w r i).map eC2)), x4, x5], g⟩) (fun i x c hx hI R hR => ?_) (fun c hI => ?_) _ ⟨_, _, by simp, rfl⟩
  · obtain ⟨x4, x5, h5, rfl⟩ := hI
    obtain ⟨hi, rfl⟩ := rng_at hx
    have hi' : i < w.ties.length := by simpa using hi
    have ht : w.ties[i]? = some w.ties[i] := by simp [hi']
    have hat : Web.at w (0 + (i : Int)) w.ties[i] := ⟨i, by omega, ht⟩
    have hat2 : Web.at w (i : Int) w.ties[i] := ⟨i, rfl, ht⟩
    have hln := outsN_len w r i
    have hs := outsN_succ w r i ht
    simp -dsimp only [rQ_, lcH, lcW, wipeE]
    refine ⟨by simp [nown], by simpa [nown] using h5, w, _, _, _, rfl, hat, ?_⟩
    simp -dsimp only [rQ_, eT, rev]
    by_cases hv : w.ties[i].v = r
    · simp -dsimp only [rQ_, hv, beq_self_eq_true]
      refine ⟨by decide, w, _, _, _, rfl, hat, ?_⟩
      simp -dsimp only [rQ_, eT, rev]
      by_cases hw : w.ties[i].w = r
      · simp -dsimp only [rQ_, hw, beq_self_eq_true]
        refine ⟨by decide, by simp; omega, hR _ ⟨some (.d (.int (0 + i))), x5, h5, ?_⟩⟩
        rw [hs, hv, hw]
        simp [eC2]
      · have hb : (w.ties[i].w == r) = false := by simpa using hw
        simp -dsimp only [rQ_, hb]
        refine ⟨by simp; omega, hR _ ⟨some (.d (.int (0 + i))), x5, h5, ?_⟩⟩
        rw [hs, if_pos hv, if_neg hw]
        simp [eC2]
    · have hb : (w.ties[i].v == r) = false := by simpa using hv
      simp -dsimp only [rQ_, hb]
      refine ⟨w, _, _, _, rfl, hat, ?_⟩
      simp -dsimp only [rQ_, eT, rev]
      by_cases hw : w.ties[i].w = r
      · simp -dsimp only [rQ_, hw, beq_self_eq_true]
        refine ⟨by decide, by simp; omega, hR _ ⟨some (.d (.int (0 + i))), x5, h5, ?_⟩⟩
        rw [hs, if_neg hv, if_pos hw]
        simp [eC2]
      · have hb : (w.ties[i].w == r) = false := by simpa using hw
        simp -dsimp only [rQ_, hb]
        refine ⟨by simp; omega, hR _ ⟨some (.d (.int (0 + i))), x5, h5, ?_⟩⟩
        rw [hs, if_neg hv, if_neg hw]
        simp [eC2]
  · obtain ⟨x4, x5, h5, rfl⟩ := hI
    try simp -dsimp only [rQ_]
    unfold outs at hQ
    simp [rngX_length] at hQ ⊢
    exact hQ
end K
set_option Elab.async false
set_option maxRecDepth 100000
set_option linter.all false
set_option autoImplicit false
set_option maxHeartbeats 4000000
namespace K
open PySem L2 Dl
variable [TabF]
/-! ### drawn webs -/
abbrev C_law_web : Cn := fun rs g Q => ∃ (rooms ties gr : Int) (n : Nat), rs = [.gen, .d (.int rooms), .d (.int ties), .d (.int gr)] ∧ g = some n ∧ 1 ≤ rooms ∧ rooms ≤ 100 ∧ 0 ≤ ties ∧ ties ≤ 100 ∧ 0 < gr ∧ gr ≤ 1000 ∧ n + 700 ≤ 2 ^ 40 ∧
  ∀ (w : Web) (m : Nat), WebOk w gr → w.rooms = rooms → (w.ties.length : Int) = ties → m ≤ n + 700 → Q (.d (eW w)) (some m)
def w_law_web : WS :=
  (sSeq (sAsg (eLst aNil) (gN 4))
  (sSeq (sFor (iRg1 (aCons (eName 2) aNil)) (gN 5)
  (sSeq (sAsg (eIf (wB (eScR 1 ltD (eAddN 5 (eC (.int 1))))) (eCallG C_law_draw (aCons (eName 0) (aCons (eAddN 5 (eC (.int 1))) aNil))) (eCallG C_law_draw (aCons (eName 0) (aCons (eName 1) aNil)))) (gN 6))
  (sSeq (sAsg (eIf (wB (eScR 1 ltD (eAddN 5 (eC (.int 1))))) (eAddN 5 (eC (.int 1))) (eCallG C_law_draw (aCons (eName 0) (aCons (eName 1) aNil)))) (gN 7))
  (sSeq (sAsg (eLc (iRg1 (aCons (eC (.int 2)) aNil)) (gN 10) wYes (eOp mulD (eOp addD (eC (.int 1)) (eCallG C_law_draw (aCons (eName 0) (aCons (eName 3) aNil)))) (eCallG C_law_of (aCons (eName 0) (aCons (eLst (aCons (eC (.int 1)) (aCons (eC (.int 1)) (aCons (eC (.int 1)) (aCons (eUn negD (eC (.int 1))) aNil))))) aNil)))) [10]) (gL 2 (gsCons (gN 8) (gsCons (gN 9) gsNil))))
  (sExp (eApp 4 (eIf (wB (eSc (eqD false) (eCallG C_law_draw (aCons (eName 0) (aCons (eC (.int 2)) aNil))) (eC (.int 0)))) (eTup (aCons (eName 6) (aCons (eName 7) (aCons (eName 8) (aCons (eName 9) aNil))))) (eTup (aCons (eName 7) (aCons (eName 6) (aCons (eName 9) (aCons (eName 8) aNil))))))))))))
  (sRet (eTup (aCons (eName 1) (aCons (eCB tupC (aCons (eName 4) aNil)) aNil))))))
theorem len_law_web (rs : List Rv) (g : Option Nat) (Q : Rv → Option Nat → Prop) (h : C_law_web rs g Q) : rs.length = 4 := by
  obtain ⟨a, b, c, n, rfl, _⟩ := h
  rfl
theorem two_rng : rngX 0 (Int.toNat 2) = [.int 0, .int 1] := rfl
theorem sgn_of {x : Px} (h : x ∈ [PyData.int 1, PyData.int 1, PyData.int 1, PyData.int (-1)]) : ∃ s : Int, x = .int s ∧ (s = 1 ∨ s = -1) := by
  simp only [List.mem_cons, List.not_mem_nil, or_false] at h
  rcases h with h | h | h | h
  · exact ⟨1, h, .inl rfl⟩
  · exact ⟨1, h, .inl rfl⟩
  · exact ⟨1, h, .inl rfl⟩
  · exact ⟨-1, h, .inr rfl⟩
theorem ends_ok {p gr s : Int} (h0 : 0 ≤ p) (h1 : p < gr) (hs : s = 1 ∨ s = -1) : (1 + p) * s ≠ 0 ∧ ((1 + p) * s).natAbs ≤ gr := by
  rcases hs with rfl | rfl <;> omega
theorem spec_law_web (rs : List Rv) (g : Option Nat) (Q : Rv → Option Nat → Prop) (h : C_law_web rs g Q) : w_law_web (startC 11 rs g) (endP Q) fun _ _ => False := by
  obtain ⟨rooms, ties, gr, n, rfl, rfl, h1, h2, h3, h4, h5, h6, hn, hQ⟩ := h
  simp -dsimp only [rQ_, w_law_web, C_law_draw, C_law_of]
  refine ⟨by decide, by unfold smI; omega, ?_⟩
  refine forW_ind _ (fun i c => ∃ (l : List Tie) (m : Nat) (x5 x6 x7 x8 x9 x10 : Option Rv), l.length = i ∧ m ≤ n + 7 * i ∧ (∀ t ∈ l, TieOk rooms gr t) ∧ (∀ r : Rv, x10 = some r → ¬ r.mu) ∧ c = ⟨[some .gen, some (.d (.int rooms)), some (.d (.int ties)), some (.d (.int gr)), some (.own (l.map eT)), x5, x6, x7, x8, x9, x10], some m⟩) (fun i x c hx hI R hR => ?_) (fun c hI => ?_) _ ⟨[], n, _, _, _, _, _, _, rfl, by omega, by simp, by simp, rfl⟩
  · obtain ⟨l, m, x5, x6, x7, x8, x9, x10, hl, hm, ht, h10, rfl⟩ := hI
    obtain ⟨hi, rfl⟩ := rng_at hx
    have hi2 : i < 100 := by omega
    try simp -dsimp only [rQ_]
    by_cases hb : 0 + (i : Int) + 1 < rooms
    · simp -dsimp only [rQ_, hb]
      refine ⟨_, _, rfl, rfl, by omega, by omega, pow9000 (by omega) (by omega), fun v m1 hva hvb hm1 => ?_⟩
      try simp -dsimp only [rQ_]
      simp -dsimp only [rQ_, hb]
      have hv : 0 ≤ v ∧ v < rooms := by omega
      have hw : 0 ≤ 0 + (i : Int) + 1 ∧ 0 + (i : Int) + 1 < rooms := by omega
      generalize 0 + (i : Int) + 1 = w at hw hb ⊢
      have hm2 : m1 ≤ n + 7 * i + 2 := by omega
      refine ⟨by unfold smI; omega, by simpa [nown] using h10, ?_⟩
      simp -dsimp only [rQ_, two_rng, lcH, lcW, wipeE]
      refine ⟨_, _, rfl, rfl, by omega, by omega, pow9000 (by omega) (by omega), fun p m2 hpa hpb hm2 => ?_⟩
      try simp -dsimp only [rQ_]
      try simp -dsimp only [rQ_]
      refine ⟨by simp, _, m2, rfl, rfl, by omega, by simp, by simp, fun sx hsx m3 hm3 => ?_⟩
      obtain ⟨s1, rfl, hs1⟩ := sgn_of hsx
      try simp -dsimp only [rQ_]
      refine ⟨CMul2.r (by omega) (by omega), ?_⟩
      refine ⟨_, _, rfl, rfl, by omega, by omega, pow9000 (by omega) (by omega), fun q m4 hqa hqb hm4 => ?_⟩
      try simp -dsimp only [rQ_]
      try simp -dsimp only [rQ_]
      refine ⟨by simp, _, m4, rfl, rfl, by omega, by simp, by simp, fun sy hsy m5 hm5 => ?_⟩
      obtain ⟨s2, rfl, hs2⟩ := sgn_of hsy
      try simp -dsimp only [rQ_]
      refine ⟨CMul2.r (by omega) (by omega), ?_⟩
      refine ⟨_, _, rfl, rfl, by omega, by omega, pow9000 (by omega) (by omega), fun z m6 hza hzb hm6 => ?_⟩
      try simp -dsimp only [rQ_]
      have ep := ends_ok hpa hpb hs1
      have eq := ends_ok hqa hqb hs2
      generalize (1 + p) * s1 = e1 at ep ⊢
      generalize (1 + q) * s2 = e2 at eq ⊢
      try simp -dsimp only [rQ_]
      by_cases hz : z = 0
      · simp -dsimp only [rQ_, hz, beq_self_eq_true]
        refine ⟨by decide, by simp; omega, hR _ ⟨l ++ [⟨v, w, e1, e2⟩], m6, some (.d (.int (0 + i))), some (.d (.int v)), some (.d (.int w)), some (.d (.int e1)), some (.d (.int e2)), x10, by simp [hl], by omega, fun t h => ?_, h10, ?_⟩⟩
        · rcases List.mem_append.mp h with h | h
          · exact ht t h
          · simp only [List.mem_cons, List.not_mem_nil, or_false] at h
            subst h
            exact ⟨hv.1, hv.2, hw.1, hw.2, ep.1, ep.2, eq.1, eq.2⟩
        · simp [eT]
      · have hb2 : (z == 0) = false := by simpa using hz
        simp -dsimp only [rQ_, hb2]
        refine ⟨by decide, by simp; omega, hR _ ⟨l ++ [⟨w, v, e2, e1⟩], m6, some (.d (.int (0 + i))), some (.d (.int v)), some (.d (.int w)), some (.d (.int e1)), some (.d (.int e2)), x10, by simp [hl], by omega, fun t h => ?_, h10, ?_⟩⟩
        · rcases List.mem_append.mp h with h | h
          · exact ht t h
          · simp only [List.mem_cons, List.not_mem_nil, or_false] at h
            subst h
            exact ⟨hw.1, hw.2, hv.1, hv.2, eq.1, eq.2, ep.1, ep.2⟩
        · simp [eT]
    · simp -dsimp only [rQ_, hb]
      refine ⟨_, _, rfl, rfl, by omega, by omega, pow9000 (by omega) (by omega), fun v m0 hva hvb hm0 => ?_⟩
      try simp -dsimp only [rQ_]
      simp -dsimp only [rQ_, hb]
      refine ⟨_, _, rfl, rfl, by omega, by omega, pow9000 (by omega) (by omega), fun w m1 hwa hwb hm1 => ?_⟩
      try simp -dsimp only [rQ_]
      try simp -dsimp only [rQ_]
      have hv : 0 ≤ v ∧ v < rooms := by omega
      have hw : 0 ≤ w ∧ w < rooms := by omega
      have hm2 : m1 ≤ n + 7 * i + 2 := by omega
      refine ⟨by unfold smI; omega, by simpa [nown] using h10, ?_⟩
      simp -dsimp only [rQ_, two_rng, lcH, lcW, wipeE]
      refine ⟨_, _, rfl, rfl, by omega, by omega, pow9000 (by omega) (by omega), fun p m2 hpa hpb hm2 => ?_⟩
      try simp -dsimp only [rQ_]
      try simp -dsimp only [rQ_]
      refine ⟨by simp, _, m2, rfl, rfl, by omega, by simp, by simp, fun sx hsx m3 hm3 => ?_⟩
      obtain ⟨s1, rfl, hs1⟩ := sgn_of hsx
      try simp -dsimp only [rQ_]
      refine ⟨CMul2.r (by omega) (by omega), ?_⟩
      refine ⟨_, _, rfl, rfl, by omega, by omega, pow9000 (by omega) (by omega), fun q m4 hqa hqb hm4 => ?_⟩
      try simp -dsimp only [rQ_]
      try simp -dsimp only [rQ_]
      refine ⟨by simp, _, m4, rfl, rfl, by omega, by simp, by simp, fun sy hsy m5 hm5 => ?_⟩
      obtain ⟨s2, rfl, hs2⟩ := sgn_of hsy
      try simp -dsimp only [rQ_]
      refine ⟨CMul2.r (by omega) (by omega), ?_⟩
      refine ⟨_, _, rfl, rfl, by omega, by omega, pow9000 (by omega) (by omega), fun z m6 hza hzb hm6 => ?_⟩
      try simp -dsimp only [rQ_]
      have ep := ends_ok hpa hpb hs1
      have eq := ends_ok hqa hqb hs2
      generalize (1 + p) * s1 = e1 at ep ⊢
      generalize (1 + q) * s2 = e2 at eq ⊢
      try simp -dsimp only [rQ_]
      by_cases hz : z = 0
      · simp -dsimp only [rQ_, hz, beq_self_eq_true]
        refine ⟨by decide, by simp; omega, hR _ ⟨l ++ [⟨v, w, e1, e2⟩], m6, some (.d (.int (0 + i))), some (.d (.int v)), some (.d (.int w)), some (.d (.int e1)), some (.d (.int e2)), x10, by simp [hl], by omega, fun t h => ?_, h10, ?_⟩⟩
        · rcases List.mem_append.mp h with h | h
          · exact ht t h
          · simp only [List.mem_cons, List.not_mem_nil, or_false] at h
            subst h
            exact ⟨hv.1, hv.2, hw.1, hw.2, ep.1, ep.2, eq.1, eq.2⟩
        · simp [eT]
      · have hb2 : (z == 0) = false := by simpa using hz
        simp -dsimp only [rQ_, hb2]
        refine ⟨by decide, by simp; omega, hR _ ⟨l ++ [⟨w, v, e2, e1⟩], m6, some (.d (.int (0 + i))), some (.d (.int v)), some (.d (.int w)), some (.d (.int e1)), some (.d (.int e2)), x10, by simp [hl], by omega, fun t h => ?_, h10, ?_⟩⟩
        · rcases List.mem_append.mp h with h | h
          · exact ht t h
          · simp only [List.mem_cons, List.not_mem_nil, or_false] at h
            subst h
            exact ⟨hw.1, hw.2, hv.1, hv.2, eq.1, eq.2, ep.1, ep.2⟩
        · simp [eT]
  · obtain ⟨l, m, x5, x6, x7, x8, x9, x10, hl, hm, ht, h10, rfl⟩ := hI
    try simp -dsimp only [rQ_]
    rw [rngX_length] at hl hm
    exact ⟨by decide, hQ ⟨rooms, l⟩ m ⟨h1, ht⟩ rfl (by show (l.length : Int) = ties; omega) (by omega)⟩
end K
set_option Elab.async false
set_option maxRecDepth 100000
set_option linter.all false
set_option autoImplicit false
set_option maxHeartbeats 4000000
namespace K
open PySem L2 Dl
variable [TabF]
/-! ### ties of steps, and walks that lead on -/
def Web.tie (w : Web) (t : Int) : Tie := (w.ties[t.toNat]?).getD ⟨0, 0, 1, 1⟩
theorem Web.at.tie {w : Web} {t : Int} {x : Tie} (h : Web.at w t x) : w.tie t = x := by
  obtain ⟨i, rfl, e⟩ := h
  unfold Web.tie
  rw [Int.toNat_natCast, e]
  rfl
def Web.e (w : Web) (s : Stp) : Tie := rev (w.tie s.tie) s.side
theorem StepsOk.e {w : Web} {l : List Stp} (h : StepsOk w l) (wo : WebOk w 1000) {s : Stp} (hs : s ∈ l) : ∃ x, Web.at w s.tie x ∧ w.e s = rev x s.side ∧ TieOk w.rooms 1000 (w.e s) := by
  obtain ⟨x, hx⟩ := (h s hs).1
  refine ⟨x, hx, by unfold Web.e; rw [hx.tie], ?_⟩
  unfold Web.e
  rw [hx.tie]
  exact (wo.at hx).rev _
def cr (s : Stp) : Int × Int := (s.tie, s.side)
/-- the crossings lead on from r to h -/
inductive Ch (w : Web) (r : Int) : List (Int × Int) → Int → Prop
  | nil : Ch w r [] r
  | snoc {l : List (Int × Int)} {h : Int} (c : Int × Int) : Ch w r l h → (w.e ⟨c.1, c.2, 0⟩).v = h → Ch w r (l ++ [c]) (w.e ⟨c.1, c.2, 0⟩).w
theorem Ch.put {w : Web} {r h : Int} {l : List Stp} (H : Ch w r (l.map cr) h) {t s : Int} {y : Tie} (k : Int) (a : Web.at w t y) (e : (rev y s).v = h) : Ch w r ((l ++ [Stp.mk t s k]).map cr) (rev y s).w := by
  have q : w.e ⟨t, s, 0⟩ = rev y s := by unfold Web.e; rw [a.tie]
  rw [List.map_append, ← q]
  exact .snoc (t, s) H (by rw [q]; exact e)
abbrev Cends_of : Cn := fun rs g Q => ∃ w t s x, rs = [.d (eW w), .d (.int t), .d (.int s)] ∧ Web.at w t x ∧ Q (.d (eT (rev x s))) g
def wends_of : WS :=
  (sSeq (sAsg (eIx (eIxN 0 (eC (.int 1))) (eName 1)) (gT 4 (gsCons (gN 3) (gsCons (gN 4) (gsCons (gN 5) (gsCons (gN 6) gsNil))))))
  (sSeq (sIf (wB (eScL 2 (eqD false) (eC (.int 1)))) (sRet (eTup (aCons (eName 3) (aCons (eName 4) (aCons (eName 5) (aCons (eName 6) aNil)))))) sNil)
  (sRet (eTup (aCons (eName 4) (aCons (eName 3) (aCons (eName 6) (aCons (eName 5) aNil))))))))
theorem lenends_of (rs : List Rv) (g : Option Nat) (Q : Rv → Option Nat → Prop) (h : Cends_of rs g Q) : rs.length = 3 := by
  obtain ⟨w, t, s, x, rfl, _⟩ := h
  rfl
theorem specends_of (rs : List Rv) (g : Option Nat) (Q : Rv → Option Nat → Prop) (h : Cends_of rs g Q) : wends_of (startC 7 rs g) (endP Q) fun _ _ => False := by
  obtain ⟨w, t, s, x, rfl, ⟨i, rfl, hx⟩, hQ⟩ := h
  simp -dsimp only [rQ_, wends_of, eW]
  rw [ixtn (map_of eT hx)]
  simp -dsimp only [rQ_, eT]
  unfold rev at hQ
  by_cases hs : s = 1
  · rw [if_pos hs] at hQ
    simp -dsimp only [rQ_, hs, beq_self_eq_true]
    exact ⟨by decide, hQ⟩
  · rw [if_neg hs] at hQ
    have hb : (s == 1) = false := by simpa using hs
    simp -dsimp only [rQ_, hb]
    exact ⟨by decide, hQ⟩
end K
set_option Elab.async false
set_option maxRecDepth 100000
set_option linter.all false
set_option autoImplicit false
set_option maxHeartbeats 4000000
namespace K
open PySem L2 Dl
variable [TabF]
/-! ### drawn walks -/
theorem CrOk.tie {w : Web} {t s : Int} (h : CrOk w t s) : ∃ x, Web.at w t x := h.1
end K
set_option Elab.async false
set_option maxRecDepth 100000
set_option linter.all false
set_option autoImplicit false
set_option maxHeartbeats 4000000
namespace K
open PySem L2 Dl
variable [TabF]
theorem cut_len {α : Type} (xs : List α) (lo hi : Option Int) : (cutX xs lo hi).length ≤ xs.length := by
  unfold cutX
  rw [List.length_take, List.length_drop]
  omega
theorem filt (ns : List Int) : ns.filterMap (fun i => if 1000000000000000000 ≤ i then some (PyData.int i) else none) = (ns.filter fun i => decide (1000000000000000000 ≤ i)).map PyData.int := by
  induction ns with
  | nil => rfl
  | cons a l ih =>
    by_cases h : 1000000000000000000 ≤ a
    · rw [List.filterMap_cons_some (by simp [h]; rfl), List.filter_cons_of_pos (by simp [h]), List.map_cons, ih]
    · rw [List.filterMap_cons_none (by simp [h]), List.filter_cons_of_neg (by simp [h]), ih]
abbrev C_law_begun : Cn := fun rs g Q => ∃ (ns : List Int) (k : Int), rs = [.scr ns, .d (.int k)] ∧ g = none ∧ 0 ≤ k ∧ k ≤ 100 ∧ ns.length ≤ 100 ∧ Q .gen (some 0)
def w_law_begun : WS :=
  (sSeq (sAsg (eOp addD (eSlS 0 (oSome (eName 1)) oNone) (eSlS 0 oNone (oSome (eName 1)))) (gN 2))
  (sSeq (sAsg (eLc (iScr 0) (gN 3) (wB (eScL 3 geD (eOp powD (eC (.int 10)) (eC (.int 18))))) (eName 3) [3]) (gN 4))
  (sSeq (sAsg (eOp addD (eC (.int 59)) (eOp mulD (eC (.int 6)) (eName 1))) (gN 5))
  (sSeq (sFor (iLst (eName 2)) (gN 3)
  (sAsg (eOp modD (eCB intC (aCons (eOp addD (eOp mulD (eName 5) (eC (.int 48271))) (eName 3)) aNil)) (eC (.int 2147483647))) (gN 5)))
  (sRetG (eIf (wB (eScL 1 ltD (eLenN 4))) (eIxN 4 (eName 1)) (eC (.int 0))) (eName 5) (eAddN 2 (eLst (aCons (eOp addD (eOp mulD (eC (.int 43)) (eName 1)) (eC (.int 17))) aNil))) (eC (.int 0)))))))
theorem len_law_begun (rs : List Rv) (g : Option Nat) (Q : Rv → Option Nat → Prop) (h : C_law_begun rs g Q) : rs.length = 2 := by
  obtain ⟨a, b, rfl, _⟩ := h
  rfl
theorem spec_law_begun (rs : List Rv) (g : Option Nat) (Q : Rv → Option Nat → Prop) (h : C_law_begun rs g Q) : w_law_begun (startC 6 rs g) (endP Q) fun _ _ => False := by
  obtain ⟨ns, k, rfl, rfl, h0, h1, hl, hQ⟩ := h
  simp only [w_law_begun, pow18]
  try simp -dsimp only [rQ_]
  have hc1 := cut_len ns (some k) none
  have hc2 := cut_len ns none (some k)
  rw [← List.map_append]
  have hcl : (cutX ns (some k) none ++ cutX ns none (some k)).length ≤ 200 := by simp; omega
  refine ⟨by simp; omega, by simp [nown], ?_⟩
  generalize cutX ns (some k) none ++ cutX ns none (some k) = cs at hcl ⊢
  refine lcW_fma PyData.int (fun i => if 1000000000000000000 ≤ i then some (.int i) else none) ns [] (fun i hi R S hR hS => ?_) (by simp; omega) ?_
  · simp -dsimp only [rQ_, Turn1, wipeE]
    by_cases hg : 1000000000000000000 ≤ i
    · simp -dsimp only [rQ_, hg]
      exact hR _ (by simp [hg])
    · simp -dsimp only [rQ_, hg]
      exact hS (by simp [hg])
  rw [List.nil_append, show ns.filterMap (fun i => if 1000000000000000000 ≤ i then some (PyData.int i) else none) = (ns.filter fun i => decide (1000000000000000000 ≤ i)).map PyData.int from filt ns]
  have hgr : ∀ i ∈ ns.filter fun i => decide (1000000000000000000 ≤ i), (0 : Int) ≤ i := fun i hi => by
    have := (List.mem_filter.mp hi).2
    simp at this
    omega
  have hgl : (ns.filter fun i => decide (1000000000000000000 ≤ i)).length ≤ 100 := Nat.le_trans (List.length_filter_le _ _) hl
  generalize (ns.filter fun i => decide (1000000000000000000 ≤ i)) = gr at hgr hgl ⊢
  try simp -dsimp only [rQ_]
  refine ⟨CMul2.l (by decide) (by decide), ?_⟩
  refine forW_ind _ (fun i c => ∃ (b : Int) (x3 : Option Rv), 0 ≤ b ∧ b < 2147483647 ∧ c = ⟨[some (.scr ns), some (.d (.int k)), some (.d (.list (cs.map .int))), x3, some (.own (gr.map .int)), some (.d (.int b))], none⟩) (fun i x c hx hI R hR => ?_) (fun c hI => ?_) _ ⟨59 + 6 * k, _, by omega, by omega, rfl⟩
  · obtain ⟨b, x3, hb0, hb1, rfl⟩ := hI
    obtain ⟨a, ha, rfl⟩ := map_at hx
    try simp -dsimp only [rQ_]
    have hf := fmod_b (i := b * 48271 + a) (b := 2147483647) (by omega)
    exact ⟨CMul2.r (by omega) (by omega), by decide, hR _ ⟨_, _, hf.1, hf.2, rfl⟩⟩
  · obtain ⟨b, x3, hb0, hb1, rfl⟩ := hI
    try simp -dsimp only [rQ_]
    have fin : 0 ≤ b ∧ b < 2147483647 ∧ CMul2 43 k ∧ 1 ≤ 1000000 ∧ (cs.map PyData.int).length + 1 ≤ 1000000 ∧ ∃ ns : List Int, cs.map PyData.int ++ [PyData.int (43 * k + 17)] = ns.map PyData.int ∧ ¬ns = [] ∧ ns.length ≤ 1000 ∧ Q Rv.gen (some 0) :=
      ⟨hb0, hb1, CMul2.l (by decide) (by decide), by decide, by simp; omega, cs ++ [43 * k + 17], by simp, by simp, by simp; omega, hQ⟩
    by_cases hk : k < ((gr.map PyData.int).length : Int)
    · rw [if_pos hk]
      refine ixl_of h0 hk fun x hx => ?_
      obtain ⟨a, ha, rfl⟩ := List.mem_map.mp hx
      exact ⟨hgr a ha, fin⟩
    · rw [if_neg hk]
      exact ⟨by decide, fin⟩
end K
set_option Elab.async false
set_option maxRecDepth 100000
set_option linter.all false
set_option autoImplicit false
set_option maxHeartbeats 4000000
namespace K
open PySem L2 Dl
variable [TabF]
/-! ### plain walks, as a function -/
/-- a kept row: what is left ahead of a crossing, and the crossing -/
structure Kp where
  r : Int
  t : Int
  s : Int
def nums (k : Wlk) : List Int := k.k :: k.steps.map Stp.k
theorem nums_len (k : Wlk) : (nums k).length = k.steps.length + 1 := by simp [nums]
def Kp.c (x : Kp) : Int × Int := (x.t, x.s)
def fits (K : List Kp) (r : Int) (s : Stp) : Bool := match K.getLast? with
  | some x => decide (r = 0) && (decide (x.t = s.tie) && decide (x.s = -s.side))
  | none => false
def lastR (K : List Kp) : Int := match K.getLast? with
  | some x => x.r
  | none => 0
def restOf (w : Web) (n : Int) (s : Stp) : Int := n.fmod ((w.e s).p.natAbs : Int)
def manyOf (w : Web) (n : Int) (s : Stp) : Int := (n - restOf w n s).fdiv (w.e s).p
def nextN (w : Web) (n : Int) (s : Stp) : Int := (w.e s).q * manyOf w n s + s.k
/-- going over one step -/
def go1 (w : Web) (a : List Kp × Int) (s : Stp) : List Kp × Int :=
  if fits a.1 (restOf w a.2 s) s = true then (a.1.dropLast, nextN w a.2 s + lastR a.1) else (a.1 ++ [⟨restOf w a.2 s, s.tie, s.side⟩], nextN w a.2 s)
def goW (w : Web) (k : Wlk) : List Kp × Int := k.steps.foldl (go1 w) ([], k.k)
/-- the walk with these numbers and crossings -/
def mkW (room : Int) (ns : List Int) (cs : List (Int × Int)) : Wlk := ⟨room, ns.headD 0, (cs.zip ns.tail).map fun p => ⟨p.1.1, p.1.2, p.2⟩⟩
def endW (room : Int) (a : List Kp × Int) : Wlk := mkW room (a.1.map Kp.r ++ [a.2]) (a.1.map Kp.c)
def plainW (w : Web) (k : Wlk) : Wlk := endW k.room (goW w k)
theorem mkW_nums {room : Int} {ns : List Int} {cs : List (Int × Int)} (h : ns.length = cs.length + 1) : nums (mkW room ns cs) = ns := by
  cases ns with
  | nil => simp at h
  | cons a l =>
    have hl : l.length = cs.length := by simpa using h
    simp only [mkW, nums, List.headD_cons, List.tail_cons, List.map_map]
    congr 1
    rw [show (Stp.k ∘ fun p : (Int × Int) × Int => (⟨p.1.1, p.1.2, p.2⟩ : Stp)) = Prod.snd from rfl]
    rw [List.map_snd_zip (by omega)]
theorem mkW_cr {room : Int} {ns : List Int} {cs : List (Int × Int)} (h : ns.length = cs.length + 1) : (mkW room ns cs).steps.map cr = cs := by
  simp only [mkW, List.map_map]
  rw [show (cr ∘ fun p : (Int × Int) × Int => (⟨p.1.1, p.1.2, p.2⟩ : Stp)) = Prod.fst from rfl]
  rw [List.map_fst_zip (by rw [List.length_tail]; omega)]
theorem mkW_len {room : Int} {ns : List Int} {cs : List (Int × Int)} (h : ns.length = cs.length + 1) : (mkW room ns cs).steps.length = cs.length := by
  rw [← List.length_map (f := cr), mkW_cr h]
theorem endW_len (room : Int) (a : List Kp × Int) : (endW room a).steps.length = a.1.length := by
  unfold endW
  rw [mkW_len (by simp), List.length_map]
/-- the kept rows: rests in range, no row strikes the one ahead of it -/
inductive Red (w : Web) : List Kp → Prop
  | nil : Red w []
  | snoc {K : List Kp} (x : Kp) : Red w K → 0 ≤ x.r → x.r < ((w.e ⟨x.t, x.s, 0⟩).p.natAbs : Int) → fits K x.r ⟨x.t, x.s, 0⟩ = false → Red w (K ++ [x])
theorem e_k {w : Web} {t s k k' : Int} : w.e ⟨t, s, k⟩ = w.e ⟨t, s, k'⟩ := rfl
theorem Red.drop {w : Web} {K : List Kp} (h : Red w K) : Red w K.dropLast := by
  cases h with
  | nil => exact .nil
  | snoc x h _ _ _ => rw [List.dropLast_concat]; exact h
theorem Red.go {w : Web} {a : List Kp × Int} {s : Stp} (h : Red w a.1) (hp : (w.e s).p ≠ 0) : Red w (go1 w a s).1 := by
  unfold go1
  split
  · exact h.drop
  · rename_i hf
    have hb := fmod_b (i := a.2) (b := ((w.e s).p.natAbs : Int)) (by omega)
    exact .snoc ⟨restOf w a.2 s, s.tie, s.side⟩ h hb.1 hb.2 (by rw [Bool.not_eq_true] at hf; exact hf)
theorem rest_small {w : Web} {n : Int} {s : Stp} (h0 : 0 ≤ n) (h1 : n < ((w.e s).p.natAbs : Int)) : restOf w n s = n ∧ manyOf w n s = 0 := by
  have e : restOf w n s = n := by
    unfold restOf
    rw [Int.fmod_eq_emod_of_nonneg _ (by omega)]
    exact Int.emod_eq_of_lt h0 h1
  refine ⟨e, ?_⟩
  unfold manyOf
  rw [e, Int.sub_self, Int.zero_fdiv]
theorem endW_snoc (room : Int) (K : List Kp) (x : Kp) (n : Int) : (endW room (K ++ [x], n)).k = (endW room (K, x.r)).k ∧ (endW room (K ++ [x], n)).steps = (endW room (K, x.r)).steps ++ [⟨x.t, x.s, n⟩] := by
  unfold endW mkW
  simp only [List.map_append, List.map_cons, List.map_nil]
  cases K with
  | nil => exact ⟨rfl, rfl⟩
  | cons a K =>
    refine ⟨rfl, ?_⟩
    simp only [List.map_cons, List.cons_append, List.tail_cons]
    rw [show a.c :: (K.map Kp.c ++ [x.c]) = (a.c :: K.map Kp.c) ++ [x.c] from rfl, List.zip_append (by simp)]
    simp [Kp.c]
end K
set_option Elab.async false
set_option maxRecDepth 100000
set_option linter.all false
set_option autoImplicit false
set_option maxHeartbeats 4000000
set_option Elab.async false
set_option maxRecDepth 100000
set_option linter.all false
set_option autoImplicit false
set_option maxHeartbeats 4000000
namespace K
open PySem L2 Dl
variable [TabF]
theorem go1_f {w : Web} {K : List Kp} {n : Int} {s : Stp} (h : fits K (restOf w n s) s = false) : go1 w (K, n) s = (K ++ [⟨restOf w n s, s.tie, s.side⟩], nextN w n s) := by
  unfold go1
  rw [if_neg (by rw [h]; decide)]
theorem go1_t {w : Web} {K : List Kp} {x : Kp} {n : Int} {s : Stp} (h : fits (K ++ [x]) (restOf w n s) s = true) : go1 w (K ++ [x], n) s = (K, nextN w n s + x.r) := by
  unfold go1
  rw [if_pos h]
  simp [lastR]
end K
set_option Elab.async false
set_option maxRecDepth 100000
set_option linter.all false
set_option autoImplicit false
set_option maxHeartbeats 4000000
namespace K
open PySem L2 Dl
variable [TabF]
theorem Shp.up {n m : Nat} {x : Px} (h : Shp n x) (k : n ≤ m) : Shp m x := ⟨h.1, Nat.le_trans h.2 k⟩
instance decStp : DecidableEq Stp := fun a b => if h : a.tie = b.tie ∧ a.side = b.side ∧ a.k = b.k then .isTrue (by
    obtain ⟨t, s, k⟩ := a
    obtain ⟨t', s', k'⟩ := b
    obtain ⟨h1, h2, h3⟩ := h
    simp only at h1 h2 h3
    rw [h1, h2, h3]) else .isFalse fun e => h (by rw [e]; exact ⟨rfl, rfl, rfl⟩)
instance decWlk : DecidableEq Wlk := fun a b => if h : a.room = b.room ∧ a.k = b.k ∧ a.steps = b.steps then .isTrue (by
    obtain ⟨t, s, k⟩ := a
    obtain ⟨t', s', k'⟩ := b
    obtain ⟨h1, h2, h3⟩ := h
    simp only at h1 h2 h3
    rw [h1, h2, h3]) else .isFalse fun e => h (by rw [e]; exact ⟨rfl, rfl, rfl⟩)
/-- what a walk must be so that it can be gone along -/
structure WK (w : Web) (k : Wlk) : Prop where
  wo : WebOk w 1000
  st : StepsOk w k.steps
  ln : k.steps.length ≤ 1000
end K
set_option Elab.async false
set_option maxRecDepth 100000
set_option linter.all false
set_option autoImplicit false
set_option maxHeartbeats 4000000
namespace K
open PySem L2 Dl
variable [TabF]
/-! ### what a walk does to kept rows; going back undoes it -/
theorem snocInd {α : Type} {P : List α → Prop} (h0 : P []) (hs : ∀ l a, P l → P (l ++ [a])) : ∀ l, P l := by
  intro l
  rw [← List.reverse_reverse l]
  induction l.reverse with
  | nil => exact h0
  | cons a l ih => rw [List.reverse_cons]; exact hs _ _ ih
structure SOk (w : Web) (s : Stp) : Prop where
  sd : s.side = 1 ∨ s.side = -1
  p0 : (w.e s).p ≠ 0
  q0 : (w.e s).q ≠ 0
theorem e_neg {w : Web} {t s k k' : Int} (h : s = 1 ∨ s = -1) : (w.e ⟨t, -s, k⟩).p = (w.e ⟨t, s, k'⟩).q ∧ (w.e ⟨t, -s, k⟩).q = (w.e ⟨t, s, k'⟩).p ∧ (w.e ⟨t, -s, k⟩).v = (w.e ⟨t, s, k'⟩).w ∧ (w.e ⟨t, -s, k⟩).w = (w.e ⟨t, s, k'⟩).v := by
  unfold Web.e rev
  rcases h with rfl | rfl <;> simp
theorem fmod_add {n p m : Int} (hp : p ≠ 0) : (n + p * m).fmod (p.natAbs : Int) = n.fmod (p.natAbs : Int) := by
  rw [Int.fmod_eq_emod_of_nonneg _ (by omega), Int.fmod_eq_emod_of_nonneg _ (by omega)]
  rcases Int.natAbs_eq p with h | h
  · rw [← h, Int.add_mul_emod_self_left]
  · have : p * m = (p.natAbs : Int) * (-m) := by
      conv => lhs; rw [h]
      rw [Int.neg_mul, Int.mul_neg]
    rw [this, Int.add_mul_emod_self_left]
theorem many_eq {n p : Int} (hp : p ≠ 0) : n = n.fmod (p.natAbs : Int) + p * (n - n.fmod (p.natAbs : Int)).fdiv p := by
  have hm : (0 : Int) < (p.natAbs : Int) := by omega
  have e1 : n.fmod (p.natAbs : Int) = n % (p.natAbs : Int) := Int.fmod_eq_emod_of_nonneg n (by omega)
  have e2 : n - n % (p.natAbs : Int) = (p.natAbs : Int) * (n / (p.natAbs : Int)) := by
    have := Int.mul_ediv_add_emod n (p.natAbs : Int)
    omega
  have e4 : ∃ d, n - n % (p.natAbs : Int) = d * p := by
    rcases Int.natAbs_eq p with h | h
    · exact ⟨n / (p.natAbs : Int), by rw [e2, ← h, Int.mul_comm]⟩
    · refine ⟨-(n / (p.natAbs : Int)), ?_⟩
      rw [e2]
      generalize n / (p.natAbs : Int) = d
      generalize (p.natAbs : Int) = g at h
      rw [h, Int.neg_mul_neg, Int.mul_comm]
  obtain ⟨d, hd⟩ := e4
  rw [e1, hd, Int.mul_fdiv_cancel _ hp, Int.mul_comm p d, ← hd]
  omega
theorem restMany {w : Web} {n : Int} {s : Stp} (hp : (w.e s).p ≠ 0) : n = restOf w n s + (w.e s).p * manyOf w n s := many_eq hp
theorem rest_add {w : Web} {n m : Int} {s : Stp} (hp : (w.e s).p ≠ 0) : restOf w (n + (w.e s).p * m) s = restOf w n s := fmod_add hp
theorem many_add {w : Web} {n m : Int} {s : Stp} (hp : (w.e s).p ≠ 0) : manyOf w (n + (w.e s).p * m) s = manyOf w n s + m := by
  have h1 := restMany (n := n) hp
  have h2 := restMany (n := n + (w.e s).p * m) hp
  rw [rest_add hp] at h2
  have h3 : (w.e s).p * manyOf w (n + (w.e s).p * m) s = (w.e s).p * (manyOf w n s + m) := by
    rw [Int.mul_add]
    omega
  exact Int.eq_of_mul_eq_mul_left hp h3
theorem go1_carry {w : Web} {L : List Kp} {n m : Int} {s : Stp} (hp : (w.e s).p ≠ 0) : go1 w (L, n + (w.e s).p * m) s = go1 w (L, n) ⟨s.tie, s.side, s.k + (w.e s).q * m⟩ := by
  have e1 : restOf w n ⟨s.tie, s.side, s.k + (w.e s).q * m⟩ = restOf w n s := rfl
  have e2 : nextN w n ⟨s.tie, s.side, s.k + (w.e s).q * m⟩ = nextN w n s + (w.e s).q * m := by
    show (w.e s).q * manyOf w n s + (s.k + _) = (w.e s).q * manyOf w n s + s.k + _
    omega
  have e3 : nextN w (n + (w.e s).p * m) s = nextN w n s + (w.e s).q * m := by
    unfold nextN
    rw [many_add hp, Int.mul_add]
    omega
  have e4 : fits L (restOf w n s) ⟨s.tie, s.side, s.k + (w.e s).q * m⟩ = fits L (restOf w n s) s := rfl
  simp only [go1, e1, e2, e3, e4, rest_add hp]
theorem go1_add {w : Web} {a : List Kp × Int} {t s k d : Int} : go1 w a ⟨t, s, k + d⟩ = ((go1 w a ⟨t, s, k⟩).1, (go1 w a ⟨t, s, k⟩).2 + d) := by
  have e2 : nextN w a.2 ⟨t, s, k + d⟩ = nextN w a.2 ⟨t, s, k⟩ + d := by
    show (w.e ⟨t, s, k⟩).q * manyOf w a.2 ⟨t, s, k⟩ + (k + d) = (w.e ⟨t, s, k⟩).q * manyOf w a.2 ⟨t, s, k⟩ + k + d
    omega
  have e1 : restOf w a.2 ⟨t, s, k + d⟩ = restOf w a.2 ⟨t, s, k⟩ := rfl
  have e4 : fits a.1 (restOf w a.2 ⟨t, s, k⟩) ⟨t, s, k + d⟩ = fits a.1 (restOf w a.2 ⟨t, s, k⟩) ⟨t, s, k⟩ := rfl
  simp only [go1, e1, e2, e4]
  split
  · simp only [Prod.mk.injEq, true_and]
    omega
  · rfl
theorem rest_at {w : Web} {r m : Int} {s : Stp} (hp : (w.e s).p ≠ 0) (h0 : 0 ≤ r) (h1 : r < ((w.e s).p.natAbs : Int)) : restOf w (r + (w.e s).p * m) s = r ∧ manyOf w (r + (w.e s).p * m) s = m := by
  rw [rest_add hp, many_add hp]
  obtain ⟨a, b⟩ := rest_small h0 h1
  exact ⟨a, by omega⟩
theorem go1_strike {w : Web} {K : List Kp} {n t s k : Int} (hK : Red w K) (h : SOk w ⟨t, s, 0⟩) : go1 w (go1 w (K, n) ⟨t, s, 0⟩) ⟨t, -s, k⟩ = (K, n + k) := by
  obtain ⟨hs, hp, hq⟩ := h
  have en := e_neg (w := w) (t := t) (s := s) (k := k) (k' := 0) hs
  have hp2 : (w.e ⟨t, -s, k⟩).p ≠ 0 := by rw [en.1]; exact hq
  have hn := restMany (n := n) hp
  have hN : nextN w n ⟨t, s, 0⟩ = (w.e ⟨t, s, 0⟩).q * manyOf w n ⟨t, s, 0⟩ := Int.add_zero _
  by_cases hf : fits K (restOf w n ⟨t, s, 0⟩) ⟨t, s, 0⟩ = true
  · cases hK with
    | nil => cases hf
    | snoc x hK h0 h1 hx =>
      rename_i K'
      rw [go1_t hf]
      have hf2 : restOf w n ⟨t, s, 0⟩ = 0 ∧ x.t = t ∧ x.s = -s := by
        unfold fits at hf
        simp at hf
        exact hf
      obtain ⟨f1, f2, f3⟩ := hf2
      rw [f2, f3, e_k (k' := k)] at h1
      obtain ⟨r1, r2⟩ := rest_at (w := w) (s := ⟨t, -s, k⟩) (m := manyOf w n ⟨t, s, 0⟩) hp2 h0 h1
      have e1 : nextN w n ⟨t, s, 0⟩ + x.r = x.r + (w.e ⟨t, -s, k⟩).p * manyOf w n ⟨t, s, 0⟩ := by
        rw [hN, en.1]
        omega
      rw [e1, go1_f (by rw [r1, ← f2, ← f3]; exact hx), r1]
      have e2 : nextN w (x.r + (w.e ⟨t, -s, k⟩).p * manyOf w n ⟨t, s, 0⟩) ⟨t, -s, k⟩ = n + k := by
        unfold nextN
        rw [r2, en.2.1]
        show _ + k = n + k
        rw [f1] at hn
        omega
      rw [e2, ← f2, ← f3]
  · have hf' : fits K (restOf w n ⟨t, s, 0⟩) ⟨t, s, 0⟩ = false := by simpa using hf
    rw [go1_f hf']
    obtain ⟨r1, r2⟩ := rest_at (w := w) (s := ⟨t, -s, k⟩) (r := 0) (m := manyOf w n ⟨t, s, 0⟩) hp2 (by omega) (by omega)
    have e1 : nextN w n ⟨t, s, 0⟩ = 0 + (w.e ⟨t, -s, k⟩).p * manyOf w n ⟨t, s, 0⟩ := by
      rw [hN, en.1]
      omega
    have hf2 : fits (K ++ [⟨restOf w n ⟨t, s, 0⟩, t, s⟩]) (restOf w (nextN w n ⟨t, s, 0⟩) ⟨t, -s, k⟩) ⟨t, -s, k⟩ = true := by
      rw [e1, r1]
      unfold fits
      simp
    rw [go1_t hf2]
    have e2 : nextN w (nextN w n ⟨t, s, 0⟩) ⟨t, -s, k⟩ = (w.e ⟨t, s, 0⟩).p * manyOf w n ⟨t, s, 0⟩ + k := by
      unfold nextN
      rw [show (w.e ⟨t, s, 0⟩).q * manyOf w n ⟨t, s, 0⟩ + (⟨t, s, 0⟩ : Stp).k = nextN w n ⟨t, s, 0⟩ from rfl, e1, r2, en.2.1]
    rw [e2]
    simp only [Prod.mk.injEq, true_and]
    omega
theorem Red.end {w : Web} {K : List Kp} (h : Red w K) (r n : Int) : ∀ s ∈ (endW r (K, n)).steps, (w.e s).p ≠ 0 := by
  induction h generalizing n with
  | nil => intro s hs; cases hs
  | snoc x h h0 h1 hf ih =>
    intro s hs
    rw [(endW_snoc r _ x n).2] at hs
    rcases List.mem_append.mp hs with hs | hs
    · exact ih _ s hs
    · simp only [List.mem_cons, List.not_mem_nil, or_false] at hs
      subst hs
      rw [e_k (k' := 0)]
      omega
end K
set_option Elab.async false
set_option maxRecDepth 100000
set_option linter.all false
set_option autoImplicit false
set_option maxHeartbeats 4000000
namespace K
open PySem L2 Dl
variable [TabF]
/-! ### the opposite walk -/
def rvc (c : Int × Int) : Int × Int := (c.1, -c.2)
def endR (w : Web) (k : Wlk) : Int := match k.steps.getLast? with
  | some s => (w.e s).w
  | none => k.room
def backW (w : Web) (k : Wlk) : Wlk := mkW (endR w k) ((nums k).reverse.map fun i => -i) ((k.steps.map cr).reverse.map rvc)
theorem back_nums (w : Web) (k : Wlk) : nums (backW w k) = (nums k).reverse.map fun i => -i := mkW_nums (by simp [nums])
theorem back_cr (w : Web) (k : Wlk) : (backW w k).steps.map cr = (k.steps.map cr).reverse.map rvc := mkW_cr (by simp [nums])
theorem SOk.back {w : Web} {k : Wlk} (h : ∀ s ∈ k.steps, SOk w s) : ∀ s ∈ (backW w k).steps, SOk w s := by
  intro s hs
  have h1 : cr s ∈ (backW w k).steps.map cr := List.mem_map_of_mem hs
  rw [back_cr] at h1
  obtain ⟨c, hc, e⟩ := List.mem_map.mp h1
  obtain ⟨z, hz, rfl⟩ := List.mem_map.mp (List.mem_reverse.mp hc)
  have hz := h z hz
  obtain ⟨t, sd, k'⟩ := s
  simp only [rvc, cr, Prod.mk.injEq] at e
  obtain ⟨rfl, rfl⟩ := e
  have en := e_neg (w := w) (t := z.tie) (s := z.side) (k := k') (k' := z.k) hz.sd
  exact ⟨by have := hz.sd; show -z.side = 1 ∨ -z.side = -1; omega, by rw [en.1]; exact hz.q0, by rw [en.2.1]; exact hz.p0⟩
theorem plainW_iff {w : Web} {a b : Wlk} : plainW w a = plainW w b ↔ a.room = b.room ∧ goW w a = goW w b := by
  constructor
  · intro h
    refine ⟨(congrArg Wlk.room h : (plainW w a).room = (plainW w b).room), ?_⟩
    have h1 := congrArg nums h
    have h2 := congrArg (fun k : Wlk => k.steps.map cr) h
    unfold plainW endW at h1 h2
    rw [mkW_nums (by simp), mkW_nums (by simp)] at h1
    rw [mkW_cr (by simp), mkW_cr (by simp)] at h2
    obtain ⟨h3, h4⟩ := List.append_inj' h1 rfl
    simp only [List.cons.injEq, and_true] at h4
    have h5 : (goW w a).1 = (goW w b).1 := by
      revert h3 h2
      generalize (goW w a).1 = K
      generalize (goW w b).1 = L
      intro h3 h2
      induction K generalizing L with
      | nil => cases L with
        | nil => rfl
        | cons y L => simp at h3
      | cons x K ih => cases L with
        | nil => simp at h3
        | cons y L =>
          simp only [List.map_cons, List.cons.injEq] at h2 h3
          rw [ih L h3.2 h2.2]
          obtain ⟨r, t, s⟩ := x
          obtain ⟨r', t', s'⟩ := y
          simp only [Kp.c, Prod.mk.injEq] at h2 h3
          rw [h2.1, h3.1.1, h3.1.2]
    exact Prod.ext h5 h4
  · rintro ⟨h1, h2⟩
    unfold plainW
    rw [h1, h2]
theorem Ch.end {w : Web} {r h : Int} {l : List (Int × Int)} (H : Ch w r l h) : h = match l.getLast? with
  | some c => (w.e ⟨c.1, c.2, 0⟩).w
  | none => r := by
  cases H with
  | nil => rfl
  | snoc c _ _ => simp
theorem endR_ch {w : Web} {k : Wlk} {h : Int} (H : Ch w k.room (k.steps.map cr) h) : endR w k = h := by
  have e := H.end
  unfold endR
  rw [e, List.getLast?_map]
  cases k.steps.getLast? <;> rfl
theorem Ch.hd {w : Web} {r h : Int} {l : List (Int × Int)} (H : Ch w r l h) : ∀ c m, l = c :: m → (w.e ⟨c.1, c.2, 0⟩).v = r := by
  induction H with
  | nil => intro c m e; cases e
  | snoc c H hv ih =>
    rename_i l h
    intro d m e
    cases l with
    | nil =>
      simp only [List.nil_append, List.cons.injEq] at e
      obtain ⟨rfl, rfl⟩ := e
      rw [hv, H.end]
      rfl
    | cons a l =>
      simp only [List.cons_append, List.cons.injEq] at e
      obtain ⟨rfl, rfl⟩ := e
      exact ih a l rfl
end K
set_option Elab.async false
set_option maxRecDepth 100000
set_option linter.all false
set_option autoImplicit false
set_option maxHeartbeats 4000000
namespace K
open PySem L2 Dl
variable [TabF]
/-! ### common divisors, fractions, shares -/
def gcdI (a b : Int) : Int := ((Nat.gcd a.natAbs b.natAbs : Nat) : Int)
def slot1 : Option (Option Rv) → Nat
  | some (some (.d (.int i))) => i.natAbs
  | _ => 0
theorem gcd_step {x y : Int} (hx : 0 ≤ x) (hy : 0 < y) : gcdI y (x.fmod y) = gcdI x y ∧ 0 ≤ x.fmod y ∧ x.fmod y < y := by
  have e : x.fmod y = x % y := Int.fmod_eq_emod_of_nonneg x (by omega)
  have h0 := Int.emod_nonneg x (show y ≠ 0 by omega)
  have h1 := Int.emod_lt_of_pos x hy
  rw [e]
  refine ⟨?_, h0, h1⟩
  unfold gcdI
  obtain ⟨a, rfl⟩ := Int.eq_ofNat_of_zero_le hx
  obtain ⟨b, rfl⟩ := Int.eq_ofNat_of_zero_le (show 0 ≤ y by omega)
  rw [← Int.natCast_emod]
  simp only [Int.natAbs_natCast]
  rw [Nat.gcd_comm a b, Nat.gcd_rec b a, Nat.gcd_comm]
theorem gcd_pos {a b : Int} (h : b ≠ 0) : 0 < gcdI a b := by
  unfold gcdI
  exact Int.natCast_pos.mpr (Nat.gcd_pos_of_pos_right _ (by omega))
end K
set_option Elab.async false
set_option maxRecDepth 100000
set_option linter.all false
set_option autoImplicit false
set_option maxHeartbeats 4000000
namespace K
open PySem L2 Dl
variable [TabF]
/-! ### shares -/
def eCr (w : Web) (c : Int × Int) : Tie := w.e ⟨c.1, c.2, 0⟩
def CsOk (w : Web) (cs : List (Int × Int)) : Prop := ∀ c ∈ cs, CrOk w c.1 c.2
theorem e_of {w : Web} {s : Stp} {x : Tie} (h : Web.at w s.tie x) : w.e s = rev x s.side := by
  unfold Web.e
  rw [h.tie]
end K
set_option Elab.async false
set_option maxRecDepth 100000
set_option linter.all false
set_option autoImplicit false
set_option maxHeartbeats 4000000
set_option Elab.async false
set_option maxRecDepth 100000
set_option linter.all false
set_option autoImplicit false
set_option maxHeartbeats 4000000
set_option Elab.async false
set_option maxRecDepth 100000
set_option linter.all false
set_option autoImplicit false
set_option maxHeartbeats 4000000
set_option Elab.async false
set_option maxRecDepth 100000
set_option linter.all false
set_option autoImplicit false
set_option maxHeartbeats 4000000
set_option Elab.async false
set_option maxRecDepth 100000
set_option linter.all false
set_option autoImplicit false
set_option maxHeartbeats 4000000
set_option Elab.async false
set_option maxRecDepth 100000
set_option linter.all false
set_option autoImplicit false
set_option maxHeartbeats 4000000
namespace K
open PySem L2 Dl
variable [TabF]
/-! ### moves -/
theorem WK.so {w : Web} {k : Wlk} (h : WK w k) : ∀ s ∈ k.steps, SOk w s := fun s hs => by
  obtain ⟨y, hy, he, hok⟩ := h.st.e h.wo hs
  exact ⟨(h.st s hs).2, hok.p0, hok.q0⟩
theorem crOk_neg {w : Web} {t s : Int} (h : CrOk w t s) : CrOk w t (-s) := ⟨h.1, by have := h.2; omega⟩
theorem Ch.app {w : Web} {r h h' : Int} {l m : List (Int × Int)} (H : Ch w r l h) (G : Ch w h m h') : Ch w r (l ++ m) h' := by
  induction G with
  | nil => rw [List.append_nil]; exact H
  | snoc c G hv ih => rw [← List.append_assoc]; exact .snoc c ih hv
def joinW (a b : Wlk) : Wlk := match a.steps.getLast? with
  | none => ⟨a.room, a.k + b.k, b.steps⟩
  | some s => ⟨a.room, a.k, a.steps.dropLast ++ [⟨s.tie, s.side, s.k + b.k⟩] ++ b.steps⟩
theorem joinW_nil {a b : Wlk} (h : a.steps = []) : joinW a b = ⟨a.room, a.k + b.k, b.steps⟩ := by
  unfold joinW
  rw [h]
  rfl
theorem joinW_snoc {a b : Wlk} {l : List Stp} {s : Stp} (h : a.steps = l ++ [s]) : joinW a b = ⟨a.room, a.k, l ++ [⟨s.tie, s.side, s.k + b.k⟩] ++ b.steps⟩ := by
  unfold joinW
  rw [h]
  simp
def FitC (w : Web) (r : Int) (cs : List (Int × Int)) (h : Int) : Prop := WebOk w 1000 ∧ (∀ c ∈ cs, CrOk w c.1 c.2) ∧ cs.length ≤ 1000 ∧ Ch w r cs h
theorem FitC.wk {w : Web} {k : Wlk} {r h : Int} {cs : List (Int × Int)} (F : FitC w r cs h) (e : k.steps.map cr = cs) : WK w k := by
  subst e
  exact ⟨F.1, fun s hs => F.2.1 (cr s) (List.mem_map_of_mem hs), by have := F.2.2.1; simpa using this⟩
theorem FitC.app {w : Web} {r h h' : Int} {cs ds : List (Int × Int)} (F : FitC w r cs h) (G : FitC w h ds h') (hl : cs.length + ds.length ≤ 1000) : FitC w r (cs ++ ds) h' :=
  ⟨F.1, fun c hc => (List.mem_append.mp hc).elim (F.2.1 c) (G.2.1 c), by rw [List.length_append]; exact hl, F.2.2.2.app G.2.2.2⟩
inductive Mv where
  | carry (i : Nat) (m : Int)
  | strike (i : Nat)
  | put (i : Nat) (t s a : Int)
def crs (k : Wlk) : List (Int × Int) := k.steps.map cr
def Wlk.n (k : Wlk) (i : Nat) : Int := (nums k).getD i 0
def Wlk.c (k : Wlk) (i : Nat) : Int × Int := (crs k).getD i (0, 0)
def app (w : Web) (k : Wlk) : Mv → Wlk
  | .carry i m => mkW k.room (((nums k).set i (k.n i - (eCr w (k.c i)).p * m)).set (i + 1) (k.n (i + 1) + (eCr w (k.c i)).q * m)) (crs k)
  | .strike i => mkW k.room ((nums k).take i ++ [k.n i + k.n (i + 2)] ++ (nums k).drop (i + 3)) ((crs k).take i ++ (crs k).drop (i + 2))
  | .put i t s a => mkW k.room ((nums k).take i ++ [a, 0, k.n i - a] ++ (nums k).drop (i + 1)) ((crs k).take i ++ [(t, s), (t, -s)] ++ (crs k).drop i)
def Good (w : Web) (k : Wlk) : Mv → Prop
  | .carry i m => i < k.steps.length ∧ m.natAbs ≤ 3
  | .strike i => i + 1 < k.steps.length ∧ k.n (i + 1) = 0 ∧ k.c i = rvc (k.c (i + 1))
  | .put i t s a => i ≤ k.steps.length ∧ CrOk w t s ∧ (w.e ⟨t, s, 0⟩).v = endR w ⟨k.room, k.k, k.steps.take i⟩ ∧ a.natAbs ≤ 4
theorem crs_len (k : Wlk) : (crs k).length = k.steps.length := List.length_map ..
theorem app_nums {w : Web} {k : Wlk} {mv : Mv} (h : Good w k mv) : nums (app w k mv) = match mv with
    | .carry i m => ((nums k).set i (k.n i - (eCr w (k.c i)).p * m)).set (i + 1) (k.n (i + 1) + (eCr w (k.c i)).q * m)
    | .strike i => (nums k).take i ++ [k.n i + k.n (i + 2)] ++ (nums k).drop (i + 3)
    | .put i t s a => (nums k).take i ++ [a, 0, k.n i - a] ++ (nums k).drop (i + 1) := by
  have h1 := nums_len k
  have h2 := crs_len k
  cases mv with
  | carry i m => exact mkW_nums (by simp [h1, h2])
  | strike i =>
    obtain ⟨h3, _⟩ := h
    exact mkW_nums (by simp [h1, h2]; omega)
  | put i t s a =>
    obtain ⟨h3, _⟩ := h
    exact mkW_nums (by simp [h1, h2]; omega)
theorem app_cr {w : Web} {k : Wlk} {mv : Mv} (h : Good w k mv) : (app w k mv).steps.map cr = match mv with
    | .carry i m => crs k
    | .strike i => (crs k).take i ++ (crs k).drop (i + 2)
    | .put i t s a => (crs k).take i ++ [(t, s), (t, -s)] ++ (crs k).drop i := by
  have h1 := nums_len k
  have h2 := crs_len k
  cases mv with
  | carry i m => exact mkW_cr (by simp [h1, h2])
  | strike i =>
    obtain ⟨h3, _⟩ := h
    exact mkW_cr (by simp [h1, h2]; omega)
  | put i t s a =>
    obtain ⟨h3, _⟩ := h
    exact mkW_cr (by simp [h1, h2]; omega)
theorem app_room (w : Web) (k : Wlk) (mv : Mv) : (app w k mv).room = k.room := by cases mv <;> rfl
theorem Ch.inv {w : Web} {r h : Int} {l : List (Int × Int)} {c : Int × Int} (H : Ch w r (l ++ [c]) h) : Ch w r l (eCr w c).v ∧ h = (eCr w c).w := by
  generalize e : l ++ [c] = m at H
  cases H with
  | nil => simp at e
  | snoc d H hv =>
    obtain ⟨e1, e2⟩ := List.append_inj' e rfl
    simp only [List.cons.injEq, and_true] at e2
    subst e1 e2
    refine ⟨?_, rfl⟩
    show Ch w r l (w.e ⟨c.1, c.2, 0⟩).v
    rw [hv]
    exact H
theorem Ch.split {w : Web} {r : Int} {l : List (Int × Int)} : ∀ (m : List (Int × Int)) (h : Int), Ch w r (l ++ m) h → ∃ h1, Ch w r l h1 ∧ Ch w h1 m h := by
  intro m
  refine snocInd (P := fun m => ∀ (h : Int), Ch w r (l ++ m) h → ∃ h1, Ch w r l h1 ∧ Ch w h1 m h) (fun h H => ⟨h, by simpa using H, .nil⟩) (fun m c ih h H => ?_) m
  rw [← List.append_assoc] at H
  obtain ⟨H1, e⟩ := H.inv
  obtain ⟨h1, a, b⟩ := ih _ H1
  subst e
  exact ⟨h1, a, .snoc c b rfl⟩
theorem Ch.two {w : Web} {r h : Int} {c d : Int × Int} (H : Ch w r [c, d] h) : r = (eCr w c).v ∧ (eCr w c).w = (eCr w d).v ∧ h = (eCr w d).w := by
  obtain ⟨H1, e⟩ := Ch.inv (l := [c]) H
  obtain ⟨H2, e2⟩ := Ch.inv (l := []) H1
  have := H2.end
  exact ⟨this.symm, e2.symm, e⟩
theorem eCr_rvc {w : Web} {c : Int × Int} (h : c.2 = 1 ∨ c.2 = -1) : (eCr w (rvc c)).v = (eCr w c).w ∧ (eCr w (rvc c)).w = (eCr w c).v :=
  ⟨(e_neg (w := w) (t := c.1) (s := c.2) (k := 0) (k' := 0) h).2.2.1, (e_neg (w := w) (t := c.1) (s := c.2) (k := 0) (k' := 0) h).2.2.2⟩
theorem getD_some {α : Type} {l : List α} {i : Nat} {d : α} (h : i < l.length) : l[i]? = some (l.getD i d) := by simp [h]
theorem drop_two {α : Type} {l : List α} {i : Nat} {d : α} (h : i + 1 < l.length) : l = l.take i ++ ([l.getD i d, l.getD (i + 1) d] ++ l.drop (i + 2)) := by
  conv => lhs; rw [← List.take_append_drop i l]
  congr 1
  rw [List.drop_eq_getElem_cons (show i < l.length by omega), List.drop_eq_getElem_cons h]
  simp [h, show i < l.length by omega]
theorem app_fit {w : Web} {k : Wlk} {mv : Mv} {h : Int} (F : FitC w k.room (crs k) h) (g : Good w k mv) (hl : k.steps.length ≤ 100) : FitC w (app w k mv).room (crs (app w k mv)) h := by
  obtain ⟨wo, hc, hn, H⟩ := F
  have h2 := crs_len k
  rw [app_room]
  show FitC w k.room ((app w k mv).steps.map cr) h
  rw [app_cr g]
  cases mv with
  | carry i m => exact ⟨wo, hc, hn, H⟩
  | strike i =>
    obtain ⟨g1, g2, g3⟩ := g
    refine ⟨wo, fun c hcm => ?_, by simp; omega, ?_⟩
    · rcases List.mem_append.mp hcm with q | q
      · exact hc c (List.mem_of_mem_take q)
      · exact hc c (List.mem_of_mem_drop q)
    · rw [drop_two (l := crs k) (i := i) (d := (0, 0)) (by omega)] at H
      obtain ⟨h1, H1, H2⟩ := Ch.split _ _ H
      obtain ⟨h3, H3, H4⟩ := Ch.split (l := [_, _]) _ _ H2
      obtain ⟨e1, e2, e3⟩ := H3.two
      have hd : CrOk w (k.c (i + 1)).1 (k.c (i + 1)).2 := hc _ (List.mem_of_getElem? (getD_some (l := crs k) (d := (0, 0)) (by omega)))
      have er := eCr_rvc (w := w) (c := k.c (i + 1)) hd.2
      rw [← g3] at er
      have : h1 = h3 := e1.trans (er.1.trans e3.symm)
      subst this
      exact H1.app H4
  | put i t s a =>
    obtain ⟨g1, g2, g3, g4⟩ := g
    refine ⟨wo, fun c hcm => ?_, by simp; omega, ?_⟩
    · rcases List.mem_append.mp hcm with q | q
      · rcases List.mem_append.mp q with q | q
        · exact hc c (List.mem_of_mem_take q)
        · simp only [List.mem_cons, List.not_mem_nil, or_false] at q
          rcases q with rfl | rfl
          · exact g2
          · exact crOk_neg g2
      · exact hc c (List.mem_of_mem_drop q)
    · rw [← List.take_append_drop i (crs k)] at H
      obtain ⟨h1, H1, H2⟩ := Ch.split _ _ H
      have e1 : endR w ⟨k.room, k.k, k.steps.take i⟩ = h1 := endR_ch (k := ⟨k.room, k.k, k.steps.take i⟩) (by
        show Ch w k.room ((k.steps.take i).map cr) h1
        rw [List.map_take]
        exact H1)
      rw [e1] at g3
      have er := eCr_rvc (w := w) (c := (t, s)) g2.2
      have H3 : Ch w k.room ((crs k).take i ++ [(t, s)]) (eCr w (t, s)).w := .snoc (t, s) H1 g3
      have H4 : Ch w k.room ((crs k).take i ++ [(t, s)] ++ [(t, -s)]) (eCr w (t, -s)).w := .snoc (t, -s) H3 er.1
      have e2 : (eCr w (t, -s)).w = h1 := er.2.trans g3
      rw [e2] at H4
      have := H4.app H2
      simpa using this
theorem c_at {k : Wlk} {i : Nat} (h : i < k.steps.length) : (crs k)[i]? = some (k.c i) := getD_some (by rw [crs_len]; omega)
def goc (w : Web) (a : List Kp × Int) (c : Int × Int) : List Kp × Int := go1 w a ⟨c.1, c.2, 0⟩
def goL (w : Web) : List Kp × Int → List Int → List (Int × Int) → List Kp × Int
  | a, n :: ns, c :: cs => goL w (goc w (a.1, a.2 + n) c) ns cs
  | a, n :: _, [] => (a.1, a.2 + n)
  | a, [], _ => a
theorem go1_goc {w : Web} {a : List Kp × Int} {s : Stp} : go1 w a s = ((goc w a (cr s)).1, (goc w a (cr s)).2 + s.k) := by
  have := go1_add (w := w) (a := a) (t := s.tie) (s := s.side) (k := 0) (d := s.k)
  rw [Int.zero_add] at this
  exact this
theorem goL_fold {w : Web} : ∀ (l : List Stp) (K : List Kp) (m n : Int), l.foldl (go1 w) (K, m + n) = goL w (K, m) (n :: l.map Stp.k) (l.map cr)
  | [], K, m, n => rfl
  | s :: l, K, m, n => by
    simp only [List.foldl_cons, List.map_cons, goL]
    rw [go1_goc, goL_fold l]
theorem goW_goL (w : Web) (k : Wlk) : goW w k = goL w ([], 0) (nums k) (crs k) := by
  unfold goW nums crs
  rw [← goL_fold, Int.zero_add]
def goP (w : Web) : List Kp × Int → List Int → List (Int × Int) → List Kp × Int
  | a, n :: ns, c :: cs => goP w (goc w (a.1, a.2 + n) c) ns cs
  | a, _, _ => a
theorem goL_app {w : Web} : ∀ (ns : List Int) (cs : List (Int × Int)) (a : List Kp × Int) (ms : List Int) (ds : List (Int × Int)), ns.length = cs.length → goL w a (ns ++ ms) (cs ++ ds) = goL w (goP w a ns cs) ms ds
  | [], [], a, ms, ds, _ => by simp [goP]
  | n :: ns, c :: cs, a, ms, ds, h => by
    simp only [List.cons_append, goL, goP]
    exact goL_app ns cs _ ms ds (by simpa using h)
  | [], _ :: _, _, _, _, h => by simp at h
  | _ :: _, [], _, _, _, h => by simp at h
theorem goP_red {w : Web} : ∀ (ns : List Int) (cs : List (Int × Int)) (a : List Kp × Int), (∀ c ∈ cs, (eCr w c).p ≠ 0) → Red w a.1 → Red w (goP w a ns cs).1
  | n :: ns, c :: cs, a, h, r => goP_red ns cs _ (fun d hd => h d (List.mem_cons_of_mem _ hd)) (Red.go (a := (a.1, a.2 + n)) (s := ⟨c.1, c.2, 0⟩) r (h c List.mem_cons_self))
  | [], _, a, _, r => by unfold goP; exact r
  | _ :: _, [], a, _, r => by unfold goP; exact r
theorem goL_carry {w : Web} {a : List Kp × Int} {n n' d : Int} {ns : List Int} {c : Int × Int} {cs : List (Int × Int)} (hp : (eCr w c).p ≠ 0) : goL w a ((n - (eCr w c).p * d) :: (n' + (eCr w c).q * d) :: ns) (c :: cs) = goL w a (n :: n' :: ns) (c :: cs) := by
  have h1 : goc w (a.1, a.2 + (n - (eCr w c).p * d)) c = ((goc w (a.1, a.2 + n) c).1, (goc w (a.1, a.2 + n) c).2 - (eCr w c).q * d) := by
    have h2 := go1_carry (w := w) (L := a.1) (n := a.2 + n) (m := -d) (s := ⟨c.1, c.2, 0⟩) hp
    rw [show a.2 + (n - (eCr w c).p * d) = a.2 + n + (w.e ⟨c.1, c.2, 0⟩).p * -d by show _ = a.2 + n + (eCr w c).p * -d; rw [Int.mul_neg]; omega]
    unfold goc
    rw [h2, go1_add]
    show (_, _ + (eCr w c).q * -d) = (_, _ - (eCr w c).q * d)
    rw [Int.mul_neg]
    rfl
  have h3 : ∀ (K : List Kp) (x y : Int) (cs : List (Int × Int)), goL w (K, x - y) ((n' + y) :: ns) cs = goL w (K, x) (n' :: ns) cs := fun K x y cs => by
    cases cs with
    | nil => show (K, x - y + (n' + y)) = (K, x + n'); congr 1; omega
    | cons d cs =>
      show goL w (goc w (K, x - y + (n' + y)) d) ns cs = goL w (goc w (K, x + n') d) ns cs
      rw [show x - y + (n' + y) = x + n' by omega]
  simp only [goL]
  rw [h1]
  exact h3 _ _ _ cs
theorem goL_strike {w : Web} {a : List Kp × Int} {n n2 : Int} {ns : List Int} {c : Int × Int} {cs : List (Int × Int)} (hr : Red w a.1) (h : SOk w ⟨c.1, c.2, 0⟩) : goL w a (n :: 0 :: n2 :: ns) (c :: rvc c :: cs) = goL w a ((n + n2) :: ns) cs := by
  have h1 := go1_strike (n := a.2 + n) (k := 0) hr h
  have h2 : goc w ((goc w (a.1, a.2 + n) c).1, (goc w (a.1, a.2 + n) c).2 + 0) (rvc c) = (a.1, a.2 + n) := by
    rw [Int.add_zero]
    rw [Int.add_zero] at h1
    exact h1
  simp only [goL]
  rw [h2]
  cases cs with
  | nil => show (a.1, a.2 + n + n2) = (a.1, a.2 + (n + n2)); rw [Int.add_assoc]
  | cons d cs =>
    show goL w (goc w (a.1, a.2 + n + n2) d) ns cs = goL w (goc w (a.1, a.2 + (n + n2)) d) ns cs
    rw [Int.add_assoc]
theorem split_at {α : Type} {l : List α} {i : Nat} {d : α} (h : i < l.length) : l = l.take i ++ l.getD i d :: l.drop (i + 1) := by
  conv => lhs; rw [← List.take_append_drop i l, List.drop_eq_getElem_cons h]
  simp [h]
theorem drop_cons {α : Type} {l : List α} {i : Nat} {d : α} (h : i < l.length) : l.drop i = l.getD i d :: l.drop (i + 1) := by
  rw [List.drop_eq_getElem_cons h]
  simp [h]
theorem app_go {w : Web} {k : Wlk} {mv : Mv} (g : Good w k mv) (hw : WebOk w 1000) (hs : ∀ s ∈ k.steps, SOk w s) : goW w (app w k mv) = goW w k := by
  have hnl := nums_len k
  have hcl := crs_len k
  have hcp : ∀ c ∈ crs k, SOk w ⟨c.1, c.2, 0⟩ := fun c hc => by
    obtain ⟨s, hsm, rfl⟩ := List.mem_map.mp hc
    have := hs s hsm
    exact ⟨this.sd, this.p0, this.q0⟩
  have htk : ∀ i c, c ∈ (crs k).take i → (eCr w c).p ≠ 0 := fun i c hc => (hcp c (List.mem_of_mem_take hc)).p0
  rw [goW_goL, goW_goL]
  show goL w ([], 0) (nums (app w k mv)) ((app w k mv).steps.map cr) = _
  rw [app_nums g, app_cr g]
  cases mv with
  | carry i m =>
    obtain ⟨g1, g2⟩ := g
    show goL w ([], 0) (((nums k).set i (k.n i - (eCr w (k.c i)).p * m)).set (i + 1) (k.n (i + 1) + (eCr w (k.c i)).q * m)) (crs k) = _
    have e1 : nums k = (nums k).take i ++ k.n i :: k.n (i + 1) :: (nums k).drop (i + 2) := by
      conv => lhs; rw [← List.take_append_drop i (nums k), drop_cons (d := 0) (show i < (nums k).length by omega), drop_cons (d := 0) (show i + 1 < (nums k).length by omega)]
      rfl
    have e2 : crs k = (crs k).take i ++ k.c i :: (crs k).drop (i + 1) := split_at (d := (0, 0)) (by omega)
    have e3 : ∀ x y : Int, ((nums k).set i x).set (i + 1) y = (nums k).take i ++ x :: y :: (nums k).drop (i + 2) := fun x y => by
      apply List.ext_getElem?
      intro j
      have hl : ((nums k).take i).length = i := by simp; omega
      rcases Nat.lt_trichotomy j i with hj | rfl | hj
      · rw [List.getElem?_set_ne (by omega), List.getElem?_set_ne (by omega), List.getElem?_append_left (by omega), List.getElem?_take_of_lt hj]
      · rw [List.getElem?_set_ne (by omega), List.getElem?_set_self (by omega), List.getElem?_append_right (by omega), hl, Nat.sub_self]
        rfl
      · rw [List.getElem?_append_right (by omega), hl]
        obtain ⟨d, rfl⟩ : ∃ d, j = i + 1 + d := ⟨j - (i + 1), by omega⟩
        rw [show i + 1 + d - i = d + 1 by omega]
        cases d with
        | zero => rw [Nat.add_zero, List.getElem?_set_self (by rw [List.length_set]; omega)]; rfl
        | succ d =>
          rw [List.getElem?_set_ne (by omega), List.getElem?_set_ne (by omega)]
          show _ = ((nums k).drop (i + 2))[d]?
          rw [List.getElem?_drop]
          congr 1
          omega
    rw [e3]
    have hln : ((nums k).take i).length = ((crs k).take i).length := by simp; omega
    conv => rhs; rw [e1, e2]
    conv => lhs; rw [e2]
    rw [goL_app _ _ _ _ _ hln, goL_app _ _ _ _ _ hln]
    exact goL_carry (hcp _ (List.mem_of_getElem? (c_at g1))).p0
  | strike i =>
    obtain ⟨g1, g2, g3⟩ := g
    show goL w ([], 0) ((nums k).take i ++ [k.n i + k.n (i + 2)] ++ (nums k).drop (i + 3)) ((crs k).take i ++ (crs k).drop (i + 2)) = _
    have e1 : nums k = (nums k).take i ++ k.n i :: k.n (i + 1) :: k.n (i + 2) :: (nums k).drop (i + 3) := by
      conv => lhs; rw [← List.take_append_drop i (nums k), drop_cons (d := 0) (show i < (nums k).length by omega), drop_cons (d := 0) (show i + 1 < (nums k).length by omega), drop_cons (d := 0) (show i + 1 + 1 < (nums k).length by omega)]
      rfl
    have e2 : crs k = (crs k).take i ++ k.c i :: k.c (i + 1) :: (crs k).drop (i + 2) := by
      conv => lhs; rw [← List.take_append_drop i (crs k), drop_cons (d := (0, 0)) (show i < (crs k).length by omega), drop_cons (d := (0, 0)) (show i + 1 < (crs k).length by omega)]
      rfl
    have hln : ((nums k).take i).length = ((crs k).take i).length := by simp; omega
    have e4 : k.c (i + 1) = rvc (k.c i) := by
      rw [g3]
      unfold rvc
      simp
    conv => rhs; rw [e1, e2]
    rw [List.append_assoc, goL_app _ _ _ _ _ hln, goL_app _ _ _ _ _ hln, g2, e4]
    exact (goL_strike (goP_red _ _ _ (htk i) .nil) (hcp _ (List.mem_of_getElem? (c_at (by omega))))).symm
  | put i t s a =>
    obtain ⟨g1, g2, g3, g4⟩ := g
    show goL w ([], 0) ((nums k).take i ++ [a, 0, k.n i - a] ++ (nums k).drop (i + 1)) ((crs k).take i ++ [(t, s), (t, -s)] ++ (crs k).drop i) = _
    have e1 : nums k = (nums k).take i ++ k.n i :: (nums k).drop (i + 1) := split_at (d := 0) (by omega)
    have e2 : crs k = (crs k).take i ++ (crs k).drop i := (List.take_append_drop i (crs k)).symm
    have hln : ((nums k).take i).length = ((crs k).take i).length := by simp; omega
    have so : SOk w ⟨t, s, 0⟩ := by
      obtain ⟨y, hy⟩ := g2.1
      have he : w.e ⟨t, s, 0⟩ = rev y s := e_of (s := ⟨t, s, 0⟩) hy
      have ok := (hw.at hy).rev s
      exact ⟨g2.2, by rw [he]; exact ok.p0, by rw [he]; exact ok.q0⟩
    conv => rhs; rw [e1, e2]
    rw [List.append_assoc, List.append_assoc, goL_app _ _ _ _ _ hln, goL_app _ _ _ _ _ hln]
    have := goL_strike (w := w) (a := goP w ([], 0) ((nums k).take i) ((crs k).take i)) (n := a) (n2 := k.n i - a) (ns := (nums k).drop (i + 1)) (c := (t, s)) (cs := (crs k).drop i) (goP_red _ _ _ (htk i) .nil) so
    rw [show a + (k.n i - a) = k.n i by omega] at this
    exact this
theorem app_plain {w : Web} {k : Wlk} {mv : Mv} (g : Good w k mv) (h : WK w k) : plainW w (app w k mv) = plainW w k := plainW_iff.mpr ⟨app_room w k mv, app_go g h.wo h.so⟩
theorem WebOk.up {w : Web} {a b : Int} (h : WebOk w a) (l : a ≤ b) : WebOk w b := ⟨h.r0, fun t ht => by
  have := h.tie t ht
  exact ⟨this.v0, this.v1, this.w0, this.w1, this.p0, Int.le_trans this.p1 l, this.q0, Int.le_trans this.q1 l⟩⟩
end K
set_option Elab.async false
set_option maxRecDepth 100000
set_option linter.all false
set_option autoImplicit false
set_option maxHeartbeats 4000000
namespace K
open PySem L2 Dl
variable [TabF]
/-! ### the same walk, spelled otherwise -/
/-- what stays however a walk is spelled -/
structure Alike (w : Web) (k : Wlk) (h : Int) (n : Nat) (k' : Wlk) : Prop where
  ft : FitC w k'.room (crs k') h
  ln : k'.steps.length ≤ k.steps.length + 2 * n
  pl : plainW w k' = plainW w k
  rm : k'.room = k.room
theorem Alike.app {w : Web} {k k1 : Wlk} {h : Int} {n d : Nat} {mv : Mv} (A : Alike w k h n k1) (g : Good w k1 mv) (hl : k1.steps.length ≤ 100) (hd : (app w k1 mv).steps.length ≤ k.steps.length + 2 * d) : Alike w k h d (app w k1 mv) :=
  ⟨app_fit A.ft g hl, hd, by rw [app_plain g (A.ft.wk (k := k1) rfl), A.pl], by rw [app_room, A.rm]⟩
end K
set_option Elab.async false
set_option maxRecDepth 100000
set_option linter.all false
set_option autoImplicit false
set_option maxHeartbeats 4000000
set_option Elab.async false
set_option maxRecDepth 100000
set_option linter.all false
set_option autoImplicit false
set_option maxHeartbeats 4000000
set_option Elab.async false
set_option maxRecDepth 100000
set_option linter.all false
set_option autoImplicit false
set_option maxHeartbeats 4000000
namespace K
open PySem L2 Dl
variable [TabF]
/-! ### tolls of the way back -/
def revc (cs : List (Int × Int)) : List (Int × Int) := cs.reverse.map rvc
theorem CsOk.rev {w : Web} {cs : List (Int × Int)} (h : CsOk w cs) : CsOk w (revc cs) := fun c hc => by
  obtain ⟨d, hd, rfl⟩ := List.mem_map.mp hc
  exact crOk_neg (h d (List.mem_reverse.mp hd))
end K
set_option Elab.async false
set_option maxRecDepth 100000
set_option linter.all false
set_option autoImplicit false
set_option maxHeartbeats 4000000
set_option Elab.async false
set_option maxRecDepth 100000
set_option linter.all false
set_option autoImplicit false
set_option maxHeartbeats 4000000
set_option Elab.async false
set_option maxRecDepth 100000
set_option linter.all false
set_option autoImplicit false
set_option maxHeartbeats 4000000
set_option Elab.async false
set_option maxRecDepth 100000
set_option linter.all false
set_option autoImplicit false
set_option maxHeartbeats 4000000
set_option Elab.async false
set_option maxRecDepth 100000
set_option linter.all false
set_option autoImplicit false
set_option maxHeartbeats 4000000
set_option Elab.async false
set_option maxRecDepth 100000
set_option linter.all false
set_option autoImplicit false
set_option maxHeartbeats 4000000
set_option Elab.async false
set_option maxRecDepth 100000
set_option linter.all false
set_option autoImplicit false
set_option maxHeartbeats 4000000
set_option Elab.async false
set_option maxRecDepth 100000
set_option linter.all false
set_option autoImplicit false
set_option maxHeartbeats 4000000
set_option Elab.async false
set_option maxRecDepth 100000
set_option linter.all false
set_option autoImplicit false
set_option maxHeartbeats 4000000
namespace K
open PySem L2 Dl
variable [TabF]
/-! ### bounds; joined walks -/
def NB (B : Nat) (k : Wlk) : Prop := ∀ x ∈ nums k, x.natAbs ≤ B
theorem joinW_nums (a b : Wlk) : ∃ L x, nums a = L ++ [x] ∧ nums (joinW a b) = L ++ [x + b.k] ++ b.steps.map Stp.k ∧ L.length = a.steps.length := by
  obtain ⟨r, k, l⟩ := a
  rcases List.eq_nil_or_concat l with rfl | ⟨l, s, rfl⟩
  · exact ⟨[], k, rfl, by rw [joinW_nil rfl]; rfl, rfl⟩
  · rw [List.concat_eq_append]
    refine ⟨k :: l.map Stp.k, s.k, by simp [nums], ?_, by simp⟩
    rw [joinW_snoc rfl]
    simp [nums]
end K
set_option Elab.async false
set_option maxRecDepth 100000
set_option linter.all false
set_option autoImplicit false
set_option maxHeartbeats 4000000
namespace K
open PySem L2 Dl
variable [TabF]
/-! ### places -/
structure Pl where
  b : Int
  ways : List Kp
def toW (p : Pl) : Wlk := endW p.b (p.ways, 0)
def WysOk (w : Web) (K : List Kp) : Prop := ∀ x ∈ K, CrOk w x.t x.s
theorem toW_st {w : Web} {p : Pl} (h : WysOk w p.ways) : StepsOk w (toW p).steps := fun s hs => by
  have h1 : cr s ∈ (toW p).steps.map cr := List.mem_map_of_mem hs
  rw [show (toW p).steps.map cr = p.ways.map Kp.c from mkW_cr (by simp)] at h1
  obtain ⟨x, hx, e⟩ := List.mem_map.mp h1
  have := h x hx
  have e1 : x.t = s.tie := congrArg Prod.fst e
  have e2 : x.s = s.side := congrArg Prod.snd e
  rw [← e1, ← e2]
  exact this
theorem toW_len (p : Pl) : (toW p).steps.length = p.ways.length := endW_len _ _
end K
set_option Elab.async false
set_option maxRecDepth 100000
set_option linter.all false
set_option autoImplicit false
set_option maxHeartbeats 4000000
set_option Elab.async false
set_option maxRecDepth 100000
set_option linter.all false
set_option autoImplicit false
set_option maxHeartbeats 4000000
namespace K
open PySem L2 Dl
variable [TabF]
/-! ### walks that keep places: what they do to rows -/
/-- what a place is, so that walks can be made of it -/
structure PlOk (w : Web) (p : Pl) : Prop where
  wo : WebOk w 1000
  ok : WysOk w p.ways
  ln : p.ways.length ≤ 300
  rd : Red w p.ways
  ch : ∃ h, Ch w p.b (p.ways.map Kp.c) h
theorem PlOk.wk {w : Web} {p : Pl} (h : PlOk w p) : WK w (toW p) := ⟨h.wo, toW_st h.ok, by rw [toW_len]; have := h.ln; omega⟩
theorem PlOk.so {w : Web} {p : Pl} (h : PlOk w p) : ∀ x ∈ p.ways, SOk w ⟨x.t, x.s, 0⟩ := fun x hx => by
  have c := h.ok x hx
  obtain ⟨y, hy⟩ := c.1
  have e : w.e ⟨x.t, x.s, 0⟩ = rev y x.s := e_of (s := ⟨x.t, x.s, 0⟩) hy
  have ok := (h.wo.at hy).rev x.s
  exact ⟨c.2, by rw [e]; exact ok.p0, by rw [e]; exact ok.q0⟩
end K
set_option Elab.async false
set_option maxRecDepth 100000
set_option linter.all false
set_option autoImplicit false
set_option maxHeartbeats 4000000
set_option Elab.async false
set_option maxRecDepth 100000
set_option linter.all false
set_option autoImplicit false
set_option maxHeartbeats 4000000
namespace K
open PySem L2 Dl
variable [TabF]
/-! ### what is drawn, and how great it is -/
theorem NB.back {B : Nat} {w : Web} {k : Wlk} (h : NB B k) : NB B (backW w k) := by
  intro x hx
  rw [back_nums] at hx
  obtain ⟨y, hy, rfl⟩ := List.mem_map.mp hx
  rw [Int.natAbs_neg]
  exact h y (List.mem_reverse.mp hy)
theorem NB.join {A B : Nat} {a b : Wlk} (ha : NB A a) (hb : NB B b) : NB (A + B) (joinW a b) := by
  obtain ⟨L, x, e1, e2, _⟩ := joinW_nums a b
  intro y hy
  rw [e2] at hy
  have hk := hb b.k List.mem_cons_self
  rcases List.mem_append.mp hy with hy | hy
  · rcases List.mem_append.mp hy with hy | hy
    · have := ha y (by rw [e1]; exact List.mem_append_left _ hy)
      omega
    · simp only [List.mem_cons, List.not_mem_nil, or_false] at hy
      subst hy
      have := ha x (by rw [e1]; simp)
      omega
  · have := hb y (List.mem_cons_of_mem _ hy)
    omega
end K
set_option Elab.async false
set_option maxRecDepth 100000
set_option linter.all false
set_option autoImplicit false
set_option maxHeartbeats 4000000
namespace K
open PySem L2 Dl
variable [TabF]
theorem enum_at {l : List Tie} {i : Nat} {x : Px} (h : (enumX 0 (l.map eT))[i]? = some x) : ∃ t, l[i]? = some t ∧ x = .tuple [.int i, eT t] := by
  have hi : i < l.length := by
    have := (List.getElem?_eq_some_iff.mp h).1
    rw [enumX_length, List.length_map] at this
    exact this
  have e : l[i]? = some l[i] := by simp [hi]
  have q := enumX_get (l.map eT) 0 i (eT l[i]) (map_of eT e)
  rw [h] at q
  refine ⟨l[i], e, ?_⟩
  rw [Option.some.inj q, Int.zero_add]
abbrev Cways_out : Cn := fun rs g Q => ∃ w r, rs = [.d (eW w), .d (.int r)] ∧ w.ties.length ≤ 1000 ∧ Q (.d (.tuple ((outs w r).map eC2))) g
def wways_out : WS :=
  (sSeq (sAsg (eLst aNil) (gN 2))
  (sSeq (sFor (iEnmT (aCons (eIxN 0 (eC (.int 1))) aNil)) (gT 2 (gsCons (gN 3) (gsCons (gN 4) gsNil)))
  (sSeq (sIf (wB (eScR 1 (eqD false) (eIxN 4 (eC (.int 0))))) (sExp (eApp 2 (eTup (aCons (eName 3) (aCons (eC (.int 1)) aNil))))) sNil)
  (sIf (wB (eScR 1 (eqD false) (eIxN 4 (eC (.int 1))))) (sExp (eApp 2 (eTup (aCons (eName 3) (aCons (eUn negD (eC (.int 1))) aNil))))) sNil)))
  (sRet (eCB tupC (aCons (eName 2) aNil)))))
theorem lenways_out (rs : List Rv) (g : Option Nat) (Q : Rv → Option Nat → Prop) (h : Cways_out rs g Q) : rs.length = 2 := by
  obtain ⟨w, t, rfl, _⟩ := h
  rfl
theorem specways_out (rs : List Rv) (g : Option Nat) (Q : Rv → Option Nat → Prop) (h : Cways_out rs g Q) : wways_out (startC 5 rs g) (endP Q) fun _ _ => False := by
  obtain ⟨w, r, rfl, hl, hQ⟩ := h
  simp -dsimp only [rQ_, wways_out, eW]
  refine ⟨by decide, ?_⟩
  refine forW_ind _ (fun i c => ∃ (x3 x4 : Option Rv), c = ⟨[some (.d (.tuple [.int w.rooms, .tuple (w.ties.map eT)])), some (.d (.int r)), some (.own ((outsN w r i).map eC2)), x3, x4], g⟩) (fun i x c hx hI R hR => ?_) (fun c hI => ?_) _ ⟨_, _, rfl⟩
  · obtain ⟨x3, x4, rfl⟩ := hI
    obtain ⟨t, ht, rfl⟩ := enum_at hx
    have hn := outsN_len w r i
    have hil : i < w.ties.length := (List.getElem?_eq_some_iff.mp ht).1
    have hs := outsN_succ w r i ht
    simp -dsimp only [rQ_, eT]
    by_cases hv : t.v = r
    · have hvb : (t.v == r) = true := by simpa using hv
      simp -dsimp only [rQ_, hvb]
      refine ⟨by decide, by simp; omega, ?_⟩
      by_cases hw : t.w = r
      · have hwb : (t.w == r) = true := by simpa using hw
        simp -dsimp only [rQ_, hwb]
        refine ⟨by decide, by simp; omega, hR _ ⟨some (.d (.int i)), some (.d (eT t)), ?_⟩⟩
        rw [hs]
        simp [hv, hw, eC2, eT]
      · have hwb : (t.w == r) = false := by simpa using hw
        simp -dsimp only [rQ_, hwb]
        refine hR _ ⟨some (.d (.int i)), some (.d (eT t)), ?_⟩
        rw [hs]
        simp [hv, hw, eC2, eT]
    · have hvb : (t.v == r) = false := by simpa using hv
      simp -dsimp only [rQ_, hvb]
      by_cases hw : t.w = r
      · have hwb : (t.w == r) = true := by simpa using hw
        simp -dsimp only [rQ_, hwb]
        refine ⟨by decide, by simp; omega, hR _ ⟨some (.d (.int i)), some (.d (eT t)), ?_⟩⟩
        rw [hs]
        simp [hv, hw, eC2, eT]
      · have hwb : (t.w == r) = false := by simpa using hw
        simp -dsimp only [rQ_, hwb]
        refine hR _ ⟨some (.d (.int i)), some (.d (eT t)), ?_⟩
        rw [hs]
        simp [hv, hw, eT]
  · obtain ⟨x3, x4, rfl⟩ := hI
    try simp -dsimp only [rQ_]
    rw [enumX_length, List.length_map]
    exact hQ
end K
set_option Elab.async false
set_option maxRecDepth 100000
set_option linter.all false
set_option autoImplicit false
set_option maxHeartbeats 4000000
namespace K
open PySem L2 Dl
variable [TabF]
/-! ### rooms that hang together -/
def Adj (ts : List Tie) (u v : Int) : Prop := ∃ t ∈ ts, (t.v = u ∧ t.w = v) ∨ (t.w = u ∧ t.v = v)
inductive Conn (ts : List Tie) (u : Int) : Int → Prop
  | refl : Conn ts u u
  | step {v x : Int} : Conn ts u v → Adj ts v x → Conn ts u x
theorem Adj.symm {ts : List Tie} {u v : Int} (h : Adj ts u v) : Adj ts v u := by
  obtain ⟨t, ht, h | h⟩ := h
  · exact ⟨t, ht, .inr ⟨h.2, h.1⟩⟩
  · exact ⟨t, ht, .inl ⟨h.2, h.1⟩⟩
theorem Conn.trans {ts : List Tie} {u v x : Int} (h : Conn ts u v) (k : Conn ts v x) : Conn ts u x := by
  induction k with
  | refl => exact h
  | step _ a ih => exact .step ih a
theorem Conn.symm {ts : List Tie} {u v : Int} (h : Conn ts u v) : Conn ts v u := by
  induction h with
  | refl => exact .refl
  | step _ a ih => exact (Conn.step .refl a.symm).trans ih
theorem Conn.mono {ts us : List Tie} {u v : Int} (h : Conn ts u v) (k : ∀ t ∈ ts, t ∈ us) : Conn us u v := by
  induction h with
  | refl => exact .refl
  | step _ a ih =>
    obtain ⟨t, ht, a⟩ := a
    exact .step ih ⟨t, k t ht, a⟩
theorem Conn.range {w : Web} {gr u v : Int} (wo : WebOk w gr) (h : Conn w.ties u v) (h0 : 0 ≤ u ∧ u < w.rooms) : 0 ≤ v ∧ v < w.rooms := by
  induction h with
  | refl => exact h0
  | step _ a ih =>
    obtain ⟨t, ht, a | a⟩ := a
    · rw [← a.2]
      exact ⟨(wo.tie t ht).w0, (wo.tie t ht).w1⟩
    · rw [← a.2]
      exact ⟨(wo.tie t ht).v0, (wo.tie t ht).v1⟩
theorem uniq_sorted {α : Type} (f : α → Int) : ∀ {l m : List α}, l.Pairwise (fun x y => f x < f y) → m.Pairwise (fun x y => f x < f y) → (∀ x, x ∈ l ↔ x ∈ m) → l = m
  | [], [], _, _, _ => rfl
  | [], y :: m, _, _, h => absurd ((h y).mpr List.mem_cons_self) (by simp)
  | x :: l, [], _, _, h => absurd ((h x).mp List.mem_cons_self) (by simp)
  | x :: l, y :: m, h1, h2, h => by
    obtain ⟨a1, a2⟩ := List.pairwise_cons.mp h1
    obtain ⟨b1, b2⟩ := List.pairwise_cons.mp h2
    have e : x = y := by
      rcases List.mem_cons.mp ((h x).mp List.mem_cons_self) with e | hx
      · exact e
      · rcases List.mem_cons.mp ((h y).mpr List.mem_cons_self) with e | hy
        · exact e.symm
        · have p := a1 y hy
          have q := b1 x hx
          omega
    subst e
    rw [uniq_sorted f a2 b2 fun z => ⟨fun hz => ?_, fun hz => ?_⟩]
    · rcases List.mem_cons.mp ((h z).mp (List.mem_cons_of_mem _ hz)) with e | k
      · subst e
        have := a1 z hz
        omega
      · exact k
    · rcases List.mem_cons.mp ((h z).mpr (List.mem_cons_of_mem _ hz)) with e | k
      · subst e
        have := b1 z hz
        omega
      · exact k
theorem nodup_len : ∀ (n : Nat) (l : List Int), l.Nodup → (∀ x ∈ l, 0 ≤ x ∧ x < (n : Int)) → l.length ≤ n
  | 0, [], _, _ => Nat.le_refl _
  | 0, x :: l, _, h => by
    have := h x List.mem_cons_self
    omega
  | n + 1, l, h1, h2 => by
    by_cases hm : (n : Int) ∈ l
    · have ih := nodup_len n (l.erase (n : Int)) (h1.erase _) fun x hx => by
        have q := (h1.mem_erase_iff).mp hx
        have := h2 x q.2
        have := q.1
        omega
      have := List.length_erase_of_mem hm
      omega
    · have ih := nodup_len n l h1 fun x hx => by
        have := h2 x hx
        have : x ≠ (n : Int) := fun z => hm (z ▸ hx)
        omega
      omega
/-- a piece's rooms, ascending -/
structure IsPiece (ts : List Tie) (r : Int) (l : List Int) : Prop where
  asc : l.Pairwise (· < ·)
  mem : ∀ x, x ∈ l ↔ Conn ts r x
theorem IsPiece.uniq {ts : List Tie} {r : Int} {l m : List Int} (h : IsPiece ts r l) (k : IsPiece ts r m) : l = m :=
  uniq_sorted id h.asc k.asc fun x => (h.mem x).trans (k.mem x).symm
theorem IsPiece.of {ts : List Tie} {r s : Int} {l : List Int} (h : IsPiece ts r l) (k : Conn ts r s) : IsPiece ts s l :=
  ⟨h.asc, fun x => (h.mem x).trans ⟨fun q => k.symm.trans q, fun q => k.trans q⟩⟩
theorem asc_of {l m : List Int} (hp : m.Perm l) (hs : m.Pairwise (· ≤ ·)) (hn : l.Nodup) : m.Pairwise (· < ·) := by
  have hm : m.Nodup := hp.nodup_iff.mpr hn
  exact (hs.and hm).imp fun h => by
    have := h.1
    have := h.2
    omega
theorem outs_all {w : Web} {i : Nat} {t : Tie} (h : w.ties[i]? = some t) {r : Int} : (t.v = r → ((i : Int), (1 : Int)) ∈ outs w r) ∧ (t.w = r → ((i : Int), (-1 : Int)) ∈ outs w r) := by
  have hi : i < w.ties.length := (List.getElem?_eq_some_iff.mp h).1
  unfold outs outsN
  constructor
  · intro e
    refine List.mem_flatMap.mpr ⟨i, List.mem_range.mpr hi, ?_⟩
    rw [h]
    simp [e]
  · intro e
    refine List.mem_flatMap.mpr ⟨i, List.mem_range.mpr hi, ?_⟩
    rw [h]
    simp [e]
/-- what a room is next to, some way out leads to -/
theorem adj_out {w : Web} {u v : Int} (h : Adj w.ties u v) : ∃ c ∈ outs w u, ∃ x, Web.at w c.1 x ∧ (rev x c.2).w = v := by
  obtain ⟨t, ht, a⟩ := h
  obtain ⟨i, hi, e⟩ := List.getElem_of_mem ht
  have e' : w.ties[i]? = some t := by rw [List.getElem?_eq_getElem hi, e]
  rcases a with ⟨e1, e2⟩ | ⟨e1, e2⟩
  · exact ⟨_, (outs_all e').1 e1, t, ⟨i, rfl, e'⟩, by simpa [rev] using e2⟩
  · exact ⟨_, (outs_all e').2 e1, t, ⟨i, rfl, e'⟩, by simpa [rev] using e2⟩
theorem out_adj {w : Web} {u : Int} {c : Int × Int} (h : c ∈ outs w u) {x : Tie} (hx : Web.at w c.1 x) : Adj w.ties u (rev x c.2).w := by
  have hv := (outs_ok h).2 x hx
  have hm : x ∈ w.ties := by
    obtain ⟨i, _, e⟩ := hx
    exact List.mem_of_getElem? e
  unfold rev at hv ⊢
  split at hv
  · rename_i hs
    rw [if_pos hs]
    exact ⟨x, hm, .inl ⟨hv, rfl⟩⟩
  · rename_i hs
    rw [if_neg hs]
    exact ⟨x, hm, .inr ⟨hv, rfl⟩⟩
theorem at_uniq {w : Web} {t : Int} {x y : Tie} (h : Web.at w t x) (k : Web.at w t y) : x = y := h.tie.symm.trans k.tie
end K
set_option Elab.async false
set_option maxRecDepth 100000
set_option linter.all false
set_option autoImplicit false
set_option maxHeartbeats 4000000
namespace K
open PySem L2 Dl
variable [TabF]
/-! ### the piece of a room -/
/-- met and waiting rooms -/
structure PI (w : Web) (r : Int) (met wait : List Int) : Prop where
  nd : met.Nodup
  rm : r ∈ met
  co : ∀ x ∈ met, Conn w.ties r x
  su : ∀ x ∈ wait, x ∈ met
  wl : wait.length ≤ met.length
def wlen : Option (Option Rv) → Nat
  | some (some (.own xs)) => xs.length
  | _ => 0
theorem any_int (l : List Int) (i : Int) : ((l.map PyData.int).any fun z => PyData.eqv z (.int i)) = decide (i ∈ l) := by
  induction l with
  | nil => simp
  | cons a l ih =>
    rw [List.map_cons, List.any_cons, ih]
    rw [Bool.eq_iff_iff]
    simp only [PyData.eqv, Bool.or_eq_true, beq_iff_eq, decide_eq_true_eq, List.mem_cons]
    constructor
    · rintro (h | h)
      · exact .inl h.symm
      · exact .inr h
    · rintro (h | h)
      · exact .inl h.symm
      · exact .inr h
theorem flat_ints (l : List Int) : (l.map PyData.int).all flatD = true := by
  rw [List.all_map]
  exact List.all_eq_true.mpr fun _ _ => rfl
theorem inT_l (l : List Int) {i : Int} {P : Rv → Prop} : inD true (.int i) (.list (l.map .int)) P = P (.d (.bool (!decide (i ∈ l)))) := by
  simp only [inD, flat_ints, any_int, true_and]
  simp [flatD]
theorem inF_t (l : List Int) {i : Int} {P : Rv → Prop} : inD false (.int i) (.tuple (l.map .int)) P = P (.d (.bool (decide (i ∈ l)))) := by
  simp only [inD, flat_ints, any_int, true_and]
  simp [flatD]
abbrev Cpiece_of : Cn := fun rs g Q => ∃ (w : Web) (gr r : Int), rs = [.d (eW w), .d (.int r)] ∧ (WebOk w gr ∧ w.ties.length ≤ 1000 ∧ w.rooms ≤ 1000 ∧ 0 ≤ r ∧ r < w.rooms) ∧ ∀ l, IsPiece w.ties r l → Q (.d (tupI l)) g
def wpiece_of : WS :=
  (sSeq (sAsg (eLst (aCons (eName 1) aNil)) (gN 2))
  (sSeq (sAsg (eLst (aCons (eName 1) aNil)) (gN 3))
  (sSeq (sWh (wTruN 3)
  (sSeq (sAsg (ePop 3) (gN 4))
  (sFor (iTpl (eCallP Cways_out (aCons (eName 0) (aCons (eName 4) aNil)))) (gT 2 (gsCons (gN 5) (gsCons (gN 6) gsNil)))
  (sSeq (sAsg (eIx (eCallP Cends_of (aCons (eName 0) (aCons (eName 5) (aCons (eName 6) aNil)))) (eC (.int 1))) (gN 7))
  (sIf (wB (eScR 2 (inD true) (eName 7))) (sSeq (sExp (eApp 2 (eName 7)))
  (sExp (eApp 3 (eName 7)))) sNil)))))
  (sRet (eCB tupC (aCons (eCB sortIC (aCons (eName 2) aNil)) aNil))))))
theorem lenpiece_of (rs : List Rv) (g : Option Nat) (Q : Rv → Option Nat → Prop) (h : Cpiece_of rs g Q) : rs.length = 2 := by
  obtain ⟨_, _, _, rfl, _⟩ := h
  rfl
theorem specpiece_of (rs : List Rv) (g : Option Nat) (Q : Rv → Option Nat → Prop) (h : Cpiece_of rs g Q) : wpiece_of (startC 8 rs g) (endP Q) fun _ _ => False := by
  obtain ⟨w, gr, r, rfl, ⟨wo, hw, hr, h0, h1⟩, hQ⟩ := h
  simp -dsimp only [rQ_, wpiece_of, Cways_out, Cends_of, sWh]
  refine ⟨by decide, by decide, ?_⟩
  refine whW_ind (fun c => ∃ (met wait : List Int) (x4 x5 x6 x7 : Option Rv), PI w r met wait ∧ (∀ x ∈ met, x ∉ wait → ∀ y, Adj w.ties x y → y ∈ met) ∧ c = ⟨[some (.d (eW w)), some (.d (.int r)), some (.own (met.map .int)), some (.own (wait.map .int)), x4, x5, x6, x7], g⟩) (fun c => 2 * (w.rooms.toNat - wlen c.env[2]?) + wlen c.env[3]?) (fun c hI R hR => ?_) _ ⟨[r], [r], none, none, none, none, ⟨by simp, by simp, ?_, by simp, by simp⟩, ?_, rfl⟩
  · obtain ⟨met, wait, x4, x5, x6, x7, pi, hcl, rfl⟩ := hI
    have hlen : met.length ≤ w.rooms.toNat := nodup_len _ met pi.nd fun x hx => by
      have := (pi.co x hx).range wo ⟨h0, h1⟩
      omega
    simp -dsimp only [rQ_, wTruN]
    by_cases hwt : wait = []
    · simp -dsimp only [rQ_, hwt, List.map_nil, List.isEmpty_nil, Bool.not_true]
      refine ⟨met, rfl, fun ms hp hs => ?_⟩
      try simp -dsimp only [rQ_]
      refine hQ ms ⟨asc_of hp hs pi.nd, fun x => hp.mem_iff.trans ⟨pi.co x, fun hc => ?_⟩⟩
      induction hc with
      | refl => exact pi.rm
      | step _ a ih => exact hcl _ ih (by rw [hwt]; simp) _ a
    · obtain ⟨ys, a, hya⟩ : ∃ ys a, wait = ys ++ [a] := ⟨_, _, (List.dropLast_concat_getLast hwt).symm⟩
      subst hya
      have ham : a ∈ met := pi.su a (by simp)
      have e1 : ((ys ++ [a]).map PyData.int).isEmpty = false := by simp
      have e2 : ((ys ++ [a]).map PyData.int)[((ys ++ [a]).map PyData.int).length - 1]? = some (.int a) := by simp
      have e3 : ((ys ++ [a]).map PyData.int).dropLast = ys.map .int := by simp
      simp only [e1, e2, e3, Bool.not_false, if_true]
      refine ⟨w, a, rfl, hw, ?_⟩
      simp -dsimp only [rQ_, e3]
      refine forW_ind _ (fun i c => ∃ (met2 wait2 : List Int) (x4 x5 x6 x7 : Option Rv), PI w r met2 wait2 ∧ a ∈ met2 ∧ (∀ x ∈ met2, x ∉ wait2 → x ≠ a → ∀ y, Adj w.ties x y → y ∈ met2) ∧ (∀ j < i, ∀ c2, (outs w a)[j]? = some c2 → ∀ t, Web.at w c2.1 t → (rev t c2.2).w ∈ met2) ∧
        2 * (w.rooms.toNat - met2.length) + wait2.length < 2 * (w.rooms.toNat - met.length) + (ys.length + 1) ∧ c = ⟨[some (.d (eW w)), some (.d (.int r)), some (.own (met2.map .int)), some (.own (wait2.map .int)), x4, x5, x6, x7], g⟩) (fun i x c hx hI R2 hR2 => ?_) (fun c hI => ?_) _
        ⟨met, ys, _, _, _, _, ⟨pi.nd, pi.rm, pi.co, fun x hx => pi.su x (List.mem_append_left _ hx), by have := pi.wl; simp at this; omega⟩, ham, fun x hx hn hne => hcl x hx fun h => ?_, fun j hj => absurd hj (Nat.not_lt_zero _), by omega, rfl⟩
      · obtain ⟨met2, wait2, x4, x5, x6, x7, pi2, ha2, hc2, hdn, hm2, rfl⟩ := hI
        obtain ⟨⟨t, s⟩, hc, rfl⟩ := map_at hx
        have hco := List.mem_of_getElem? hc
        obtain ⟨⟨⟨y, hy⟩, hs⟩, hv⟩ := outs_ok hco
        have hadj := out_adj hco hy
        simp -dsimp only [rQ_, eC2]
        refine ⟨w, t, s, y, rfl, hy, ?_⟩
        simp -dsimp only [rQ_, eT]
        rw [inT_l]
        by_cases hin : (rev y s).w ∈ met2
        · simp -dsimp only [rQ_, hin, decide_true, Bool.not_true]
          refine hR2 _ ⟨met2, wait2, x4, some (.d (.int t)), some (.d (.int s)), some (.d (.int (rev y s).w)), pi2, ha2, hc2, fun j hj c2 hj2 t2 ht2 => ?_, hm2, rfl⟩
          by_cases hji : j < i
          · exact hdn j hji c2 hj2 t2 ht2
          · have : j = i := by omega
            subst this
            rw [hc] at hj2
            cases hj2
            rw [at_uniq ht2 hy]
            exact hin
        · simp -dsimp only [rQ_, hin, decide_false, Bool.not_false]
          have hcx := (pi2.co a ha2).step hadj
          have nd2 : (met2 ++ [(rev y s).w]).Nodup := List.nodup_append.mpr ⟨pi2.nd, by simp, fun x hx z hz => by
            rw [List.mem_singleton.mp hz]
            exact fun e => hin (e ▸ hx)⟩
          have co2 : ∀ x ∈ met2 ++ [(rev y s).w], Conn w.ties r x := fun x hx => by
            rcases List.mem_append.mp hx with hx | hx
            · exact pi2.co x hx
            · rw [List.mem_singleton.mp hx]
              exact hcx
          have hln : (met2 ++ [(rev y s).w]).length ≤ w.rooms.toNat := nodup_len _ _ nd2 fun x hx => by
            have := (co2 x hx).range wo ⟨h0, h1⟩
            omega
          have hwl := pi2.wl
          simp only [List.length_append, List.length_cons, List.length_nil] at hln
          refine ⟨by rw [List.length_map]; omega, by rw [List.length_map]; omega, hR2 _ ⟨met2 ++ [(rev y s).w], wait2 ++ [(rev y s).w], x4, some (.d (.int t)), some (.d (.int s)), some (.d (.int (rev y s).w)), ⟨nd2, List.mem_append_left _ pi2.rm, co2, fun x hx => ?_, by simp; omega⟩, List.mem_append_left _ ha2, fun x hx hn hne z hz => ?_, fun j hj c2 hj2 t2 ht2 => ?_, by simp only [List.length_append, List.length_cons, List.length_nil]; omega, by simp⟩⟩
          · rcases List.mem_append.mp hx with hx | hx
            · exact List.mem_append_left _ (pi2.su x hx)
            · exact List.mem_append_right _ hx
          · rcases List.mem_append.mp hx with hx | hx
            · exact List.mem_append_left _ (hc2 x hx (fun h => hn (List.mem_append_left _ h)) hne z hz)
            · exact absurd (List.mem_append_right _ hx) hn
          · by_cases hji : j < i
            · exact List.mem_append_left _ (hdn j hji c2 hj2 t2 ht2)
            · have : j = i := by omega
              subst this
              rw [hc] at hj2
              cases hj2
              rw [at_uniq ht2 hy]
              exact List.mem_append_right _ (by simp)
      · obtain ⟨met2, wait2, x4, x5, x6, x7, pi2, ha2, hc2, hdn, hm2, rfl⟩ := hI
        refine hR _ ⟨met2, wait2, x4, x5, x6, x7, pi2, fun x hx hn y hy => ?_, rfl⟩ ?_
        · by_cases hxa : x = a
          · subst hxa
            obtain ⟨c, hc, t, ht, e⟩ := adj_out hy
            obtain ⟨j, hj, e2⟩ := List.getElem_of_mem hc
            rw [← e]
            exact hdn j (by simpa using hj) c (by rw [List.getElem?_eq_getElem hj, e2]) t ht
          · exact hc2 x hx hn hxa y hy
        · simp [wlen]
          omega
      · rcases List.mem_append.mp h with h | h
        · exact hn h
        · exact hne (List.mem_singleton.mp h)
  · intro x hx
    rw [List.mem_singleton.mp hx]
    exact .refl
  · intro x hx hn
    exact absurd hx hn
end K
set_option Elab.async false
set_option maxRecDepth 100000
set_option linter.all false
set_option autoImplicit false
set_option maxHeartbeats 4000000
namespace K
open PySem L2 Dl
variable [TabF]
/-! ### how often a number is in another one -/
def strip (p : Nat) : Nat → Nat → Nat × Nat
  | 0, n => (n, 0)
  | f + 1, n => if n % p = 0 then ((strip p f (n / p)).1, (strip p f (n / p)).2 + 1) else (n, 0)
def divOut (p n : Nat) : Nat × Nat := strip p n n
theorem strip_fuel {p : Nat} (hp : 2 ≤ p) : ∀ (f g n : Nat), 0 < n → n ≤ f → n ≤ g → strip p f n = strip p g n
  | 0, _, n, h0, h1, _ => by omega
  | _ + 1, 0, n, h0, _, h2 => by omega
  | f + 1, g + 1, n, h0, h1, h2 => by
    unfold strip
    by_cases h : n % p = 0
    · rw [if_pos h, if_pos h]
      have hn : n / p < n := Nat.div_lt_self h0 (by omega)
      have hpos : 0 < n / p := Nat.div_pos (Nat.le_of_dvd h0 (Nat.dvd_of_mod_eq_zero h)) (by omega)
      rw [strip_fuel hp f g (n / p) hpos (by omega) (by omega)]
    · rw [if_neg h, if_neg h]
theorem divOut_step {p n : Nat} (hp : 2 ≤ p) (hn : 0 < n) (h : n % p = 0) : divOut p n = ((divOut p (n / p)).1, (divOut p (n / p)).2 + 1) ∧ n / p < n ∧ 0 < n / p := by
  have h1 : n / p < n := Nat.div_lt_self hn (by omega)
  have hpos : 0 < n / p := Nat.div_pos (Nat.le_of_dvd hn (Nat.dvd_of_mod_eq_zero h)) (by omega)
  refine ⟨?_, h1, hpos⟩
  unfold divOut
  obtain ⟨m, rfl⟩ : ∃ m, n = m + 1 := ⟨n - 1, by omega⟩
  rw [strip, if_pos h, strip_fuel hp m ((m + 1) / p) ((m + 1) / p) hpos (by omega) (Nat.le_refl _)]
theorem divOut_end {p n : Nat} (hn : 0 < n) (h : ¬ n % p = 0) : divOut p n = (n, 0) := by
  unfold divOut
  obtain ⟨m, rfl⟩ : ∃ m, n = m + 1 := ⟨n - 1, by omega⟩
  rw [strip, if_neg h]
theorem divOut_pos {p : Nat} (hp : 2 ≤ p) : ∀ (f n : Nat), n ≤ f → 0 < n → 0 < (divOut p n).1
  | 0, n, h, h0 => by omega
  | f + 1, n, h, h0 => by
    by_cases hm : n % p = 0
    · obtain ⟨e, h1, h2⟩ := divOut_step hp h0 hm
      rw [e]
      exact divOut_pos hp f (n / p) (by omega) h2
    · rw [divOut_end h0 hm]
      exact h0
/-- what is left, and how often each -/
def partsN : List Nat → Nat → Nat × List Nat
  | [], n => (n, [])
  | p :: ps, n => ((partsN ps (divOut p n).1).1, (divOut p n).2 :: (partsN ps (divOut p n).1).2)
theorem partsN_snoc (p : Nat) : ∀ (ps : List Nat) (n : Nat), partsN (ps ++ [p]) n = ((divOut p (partsN ps n).1).1, (partsN ps n).2 ++ [(divOut p (partsN ps n).1).2])
  | [], n => rfl
  | q :: ps, n => by
    show ((partsN (ps ++ [p]) (divOut q n).1).1, (divOut q n).2 :: (partsN (ps ++ [p]) (divOut q n).1).2) = _
    rw [partsN_snoc p ps]
    rfl
theorem partsN_ln : ∀ (ps : List Nat) (n : Nat), (partsN ps n).2.length = ps.length
  | [], _ => rfl
  | p :: ps, n => by
    show (partsN ps (divOut p n).1).2.length + 1 = ps.length + 1
    rw [partsN_ln ps]
theorem partsN_pos : ∀ (ps : List Nat) (n : Nat), (∀ p ∈ ps, 2 ≤ p) → 0 < n → 0 < (partsN ps n).1
  | [], n, _, h => h
  | p :: ps, n, hp, h => partsN_pos ps _ (fun q hq => hp q (List.mem_cons_of_mem _ hq)) (divOut_pos (hp p (by simp)) n n (Nat.le_refl n) h)
def eNp (ps : List Nat) : List Px := ps.map fun p : Nat => PyData.int (p : Int)
def sgnI (n : Int) : Int := if n < 0 then -1 else 1
def eParts (ps : List Nat) (n : Int) : Px := .tuple [.int (sgnI n), .int ((partsN ps n.natAbs).1 : Int), .tuple (eNp (partsN ps n.natAbs).2)]
abbrev Cparts_for : Cn := fun rs g Q => ∃ (ps : List Nat) (n : Int), rs = [.d (.tuple (eNp ps)), .d (.int n)] ∧ n ≠ 0 ∧ (∀ p ∈ ps, 2 ≤ p ∧ p ≤ 1000000) ∧ ps.length ≤ 1000 ∧ Q (.d (eParts ps n)) g
def wparts_for : WS :=
  (sSeq (sAsg (eC (.int 1)) (gN 2))
  (sSeq (sIf (wB (eScL 1 ltD (eC (.int 0)))) (sAsg (eUn negD (eC (.int 1))) (gN 2)) sNil)
  (sSeq (sAsg (eCB absC (aCons (eName 1) aNil)) (gN 3))
  (sSeq (sAsg (eLst aNil) (gN 4))
  (sSeq (sFor (iTpl (eName 0)) (gN 5)
  (sSeq (sAsg (eC (.int 0)) (gN 6))
  (sSeq (sWh (wB (eSc (eqD false) (eOp modD (eName 3) (eName 5)) (eC (.int 0))))
  (sSeq (sAug 3 ifdivD (eName 5))
  (sAug 6 iaddD (eC (.int 1)))))
  (sExp (eApp 4 (eName 6))))))
  (sRet (eTup (aCons (eName 2) (aCons (eName 3) (aCons (eCB tupC (aCons (eName 4) aNil)) aNil))))))))))
theorem lenparts_for (rs : List Rv) (g : Option Nat) (Q : Rv → Option Nat → Prop) (h : Cparts_for rs g Q) : rs.length = 2 := by
  obtain ⟨_, _, rfl, _⟩ := h
  rfl
theorem specparts_for (rs : List Rv) (g : Option Nat) (Q : Rv → Option Nat → Prop) (h : Cparts_for rs g Q) : wparts_for (startC 7 rs g) (endP Q) fun _ _ => False := by
  obtain ⟨ps, n, rfl, hn, hp, hl, hQ⟩ := h
  have hab : (n.natAbs : Int) = (n.natAbs : Int) := rfl
  have fin : ∀ (x5 x6 : Option Px) (sg : Int), sg = sgnI n → forW (gN 5)
      (sSeq (sAsg (eC (.int 0)) (gN 6))
        (sSeq (sWh (wB (eSc (eqD false) (eOp modD (eName 3) (eName 5)) (eC (.int 0)))) (sSeq (sAug 3 ifdivD (eName 5)) (sAug 6 iaddD (eC (.int 1)))))
          (sExp (eApp 4 (eName 6)))))
      (fun _ _ => False) (fun fl => match fl with
        | .nx c1 => sRet (eTup (aCons (eName 2) (aCons (eName 3) (aCons (eCB tupC (aCons (eName 4) aNil)) aNil)))) c1 (endP Q) fun _ _ => False
        | o => endP Q o) (eNp ps) ⟨[some (.d (.tuple (eNp ps))), some (.d (.int n)), some (.d (.int sg)), some (.d (.int (n.natAbs : Int))), some (.own []), x5.map .d, x6.map .d], g⟩ := by
    intro x5 x6 sg hsg
    refine forW_ind _ (fun i c => ∃ (x5 x6 : Option Px), c = ⟨[some (.d (.tuple (eNp ps))), some (.d (.int n)), some (.d (.int sg)), some (.d (.int ((partsN (ps.take i) n.natAbs).1 : Int))), some (.own (eNp (partsN (ps.take i) n.natAbs).2)), x5.map .d, x6.map .d], g⟩) (fun i x c hx hI R hR => ?_) (fun c hI => ?_) _ ⟨x5, x6, rfl⟩
    · obtain ⟨x5, x6, rfl⟩ := hI
      obtain ⟨p, hpp, rfl⟩ := map_at hx
      obtain ⟨p2, p6⟩ := hp p (List.mem_of_getElem? hpp)
      have pos : 0 < (partsN (ps.take i) n.natAbs).1 := partsN_pos _ _ (fun q hq => (hp q (List.mem_of_mem_take hq)).1) (by omega)
      have snoc := partsN_snoc p (ps.take i) n.natAbs
      generalize hm : (partsN (ps.take i) n.natAbs).1 = m0 at pos snoc ⊢
      simp -dsimp only [rR_, sWh]
      generalize hE : (partsN (ps.take i) n.natAbs).2 = E0 at snoc ⊢
      have lE : E0.length = i := by
        rw [← hE, partsN_ln, List.length_take]
        have := (List.getElem?_eq_some_iff.mp hpp).1
        omega
      have hi : i < ps.length := (List.getElem?_eq_some_iff.mp hpp).1
      refine whW_ind (fun c => ∃ (m k : Nat), 0 < m ∧ (divOut p m).1 = (divOut p m0).1 ∧ k + (divOut p m).2 = (divOut p m0).2 ∧ c = ⟨[some (.d (.tuple (eNp ps))), some (.d (.int n)), some (.d (.int sg)), some (.d (.int (m : Int))), some (.own (eNp E0)), some (.d (.int (p : Int))), some (.d (.int (k : Int)))], g⟩) (fun c => slot1 c.env[3]?) (fun c hI R' hR' => ?_) _ ⟨m0, 0, pos, rfl, by omega, rfl⟩
      obtain ⟨m, k, m1, d1, d2, rfl⟩ := hI
      have ef : Int.fmod (m : Int) (p : Int) = ((m % p : Nat) : Int) := by
        rw [Int.fmod_eq_emod_of_nonneg _ (by omega)]
        rfl
      have ed : Int.fdiv (m : Int) (p : Int) = ((m / p : Nat) : Int) := by
        rw [Int.fdiv_eq_ediv_of_nonneg _ (by omega)]
        rfl
      try simp -dsimp only [rR_]
      refine ⟨by omega, ?_⟩
      rw [ef]
      by_cases h0 : m % p = 0
      · have e0 : (((m % p : Nat) : Int) == 0) = true := by rw [h0]; rfl
        obtain ⟨s1, s2, s3⟩ := divOut_step p2 m1 h0
        rw [if_pos e0]
        refine ⟨⟨by omega, CDiv2.s (by omega) (by omega) (by omega)⟩, ?_⟩
        rw [ed]
        rw [s1] at d1 d2
        refine hR' _ ⟨m / p, k + 1, s3, d1, by omega, rfl⟩ ?_
        show ((m / p : Nat) : Int).natAbs < (m : Int).natAbs
        omega
      · have e0 : ¬ (((m % p : Nat) : Int) == 0) = true := by
          rw [beq_iff_eq]
          omega
        rw [if_neg e0]
        rw [divOut_end m1 h0] at d1 d2
        have hlen : (eNp E0).length < 1000000 := by
          unfold eNp
          rw [List.length_map]
          omega
        refine ⟨hlen, hR _ ⟨some (.int (p : Int)), some (.int (k : Int)), ?_⟩⟩
        rw [List.take_succ, hpp]
        simp only [Option.toList_some]
        rw [snoc, ← d1, ← d2]
        simp [eNp]
    · obtain ⟨x5, x6, rfl⟩ := hI
      simp -dsimp only [rR_, eNp, List.length_map, List.take_length]
      subst hsg
      exact ⟨by decide, hQ⟩
  simp only [wparts_for]
  simp -dsimp only [startC, List.map_cons, List.map_nil, List.cons_append, List.nil_append, List.length_cons, List.length_nil, Nat.reduceSub, Nat.reduceAdd, List.replicate_succ, List.replicate_zero]
  try simp -dsimp only [rR_]
  by_cases h0 : n < 0
  · rw [if_pos h0]
    try simp -dsimp only [rR_]
    simp only [forH]
    exact ⟨by decide, fin none none (-1) (by unfold sgnI; rw [if_pos h0])⟩
  · rw [if_neg h0]
    try simp -dsimp only [rR_]
    simp only [forH]
    exact ⟨by decide, fin none none 1 (by unfold sgnI; rw [if_neg h0])⟩
end K
set_option Elab.async false
set_option maxRecDepth 100000
set_option linter.all false
set_option autoImplicit false
set_option maxHeartbeats 4000000
namespace K
open PySem L2 Dl
variable [TabF]
def negL (es : List Nat) : List Px := es.map fun e : Nat => PyData.int (-(e : Int))
/-- by what turns are put in order -/
def eOrd (ps : List Nat) (r n : Int) : Px := .tuple [.int ((partsN ps n.natAbs).1 : Int), .int (((partsN ps n.natAbs).2.map fun e : Nat => (e : Int)).sum), .tuple (negL (partsN ps n.natAbs).2), .int r, .int (-sgnI n)]
abbrev Corder_for : Cn := fun rs g Q => ∃ (ps : List Nat) (r n : Int), rs = [.d (.tuple (eNp ps)), .d (.tuple [.int r, .int n])] ∧ n ≠ 0 ∧ (∀ p ∈ ps, 2 ≤ p ∧ p ≤ 1000000) ∧ ps.length ≤ 1000 ∧ Q (.d (eOrd ps r n)) g
def worder_for : WS :=
  (sSeq (sAsg (eName 1) (gT 2 (gsCons (gN 2) (gsCons (gN 3) gsNil))))
  (sSeq (sAsg (eCallP Cparts_for (aCons (eName 0) (aCons (eName 3) aNil))) (gT 3 (gsCons (gN 4) (gsCons (gN 5) (gsCons (gN 6) gsNil)))))
  (sSeq (sAsg (eCB tupC (aCons (eLc (iTpl (eName 6)) (gN 8) wYes (eUn negD (eName 8)) [8]) aNil)) (gN 7))
  (sRet (eTup (aCons (eName 5) (aCons (eCB sumC (aCons (eName 6) aNil)) (aCons (eName 7) (aCons (eName 2) (aCons (eUn negD (eName 4)) aNil))))))))))
theorem lenorder_for (rs : List Rv) (g : Option Nat) (Q : Rv → Option Nat → Prop) (h : Corder_for rs g Q) : rs.length = 2 := by
  obtain ⟨_, _, _, rfl, _⟩ := h
  rfl
theorem specorder_for (rs : List Rv) (g : Option Nat) (Q : Rv → Option Nat → Prop) (h : Corder_for rs g Q) : worder_for (startC 9 rs g) (endP Q) fun _ _ => False := by
  obtain ⟨ps, r, n, rfl, hn, hp, hl, hQ⟩ := h
  have ln := partsN_ln ps n.natAbs
  simp only [worder_for]
  simp -dsimp only [startC, List.map_cons, List.map_nil, List.cons_append, List.nil_append, List.length_cons, List.length_nil, Nat.reduceSub, Nat.reduceAdd, List.replicate_succ, List.replicate_zero]
  simp -dsimp only [rR_, gT_d]
  refine ⟨ps, n, rfl, hn, hp, hl, ?_⟩
  unfold eParts
  simp -dsimp only [rR_, gT_d]
  refine ⟨by simp [nown], ?_⟩
  simp only [lcH]
  generalize hes : (partsN ps n.natAbs).2 = es at ln ⊢
  unfold eOrd at hQ
  rw [hes] at hQ
  have el : es.length ≤ 1000 := by omega
  simp only [eNp]
  refine lcW_mpa (fun e : Nat => PyData.int (e : Int)) (fun e : Nat => PyData.int (-(e : Int))) _ (fun e he R S hR => ?_) (by first | omega | (simp; omega)) ?_
  · simp -dsimp only [rR_, Turn1, wipeE]
    first | exact hR | exact ⟨by first | rfl | simp [wipeE], hR⟩
  · try simp -dsimp only [rR_]
    refine ⟨es.map fun e : Nat => (e : Int), by rw [List.map_map]; rfl, ?_⟩
    try simp -dsimp only [rR_]
    exact ⟨by decide, hQ⟩
/-! ### the law's own -/
abbrev C_law_parts : Cn := fun rs g Q => ∃ (ps : List Nat) (n : Int), rs = [.d (.list (eNp ps)), .d (.int n)] ∧ n ≠ 0 ∧ (∀ p ∈ ps, 2 ≤ p ∧ p ≤ 1000000) ∧ ps.length ≤ 1000 ∧ Q (.d (eParts ps n)) g
def w_law_parts : WS :=
  (sSeq (sPar2 2 3 (eCB absC (aCons (eName 1) aNil)) (eLst aNil))
  (sSeq (sFor (iLst (eName 0)) (gN 4)
  (sSeq (sAsg (eC (.int 0)) (gN 5))
  (sSeq (sWh (wB (eSc (eqD false) (eOp modD (eCB intC (aCons (eName 2) aNil)) (eName 4)) (eC (.int 0))))
  (sPar2 2 5 (eOp fdivD (eName 2) (eName 4)) (eAddN 5 (eC (.int 1)))))
  (sExp (eApp 3 (eName 5))))))
  (sRet (eTup (aCons (eIf (wB (eScL 1 gtD (eC (.int 0)))) (eC (.int 1)) (eUn negD (eC (.int 1)))) (aCons (eName 2) (aCons (eCB tupC (aCons (eName 3) aNil)) aNil)))))))
theorem len_law_parts (rs : List Rv) (g : Option Nat) (Q : Rv → Option Nat → Prop) (h : C_law_parts rs g Q) : rs.length = 2 := by
  obtain ⟨_, _, rfl, _⟩ := h
  rfl
theorem spec_law_parts (rs : List Rv) (g : Option Nat) (Q : Rv → Option Nat → Prop) (h : C_law_parts rs g Q) : w_law_parts (startC 6 rs g) (endP Q) fun _ _ => False := by
  obtain ⟨ps, n, rfl, hn, hp, hl, hQ⟩ := h
  simp only [w_law_parts]
  simp -dsimp only [startC, List.map_cons, List.map_nil, List.cons_append, List.nil_append, List.length_cons, List.length_nil, Nat.reduceSub, Nat.reduceAdd, List.replicate_succ, List.replicate_zero]
  try simp -dsimp only [rR_]
  simp only [forH]
  refine ⟨by decide, ?_⟩
  refine forW_ind _ (fun i c => ∃ (x4 x5 : Option Px), c = ⟨[some (.d (.list (eNp ps))), some (.d (.int n)), some (.d (.int ((partsN (ps.take i) n.natAbs).1 : Int))), some (.own (eNp (partsN (ps.take i) n.natAbs).2)), x4.map .d, x5.map .d], g⟩) (fun i x c hx hI R hR => ?_) (fun c hI => ?_) _ ⟨none, none, rfl⟩
  · obtain ⟨x4, x5, rfl⟩ := hI
    obtain ⟨p, hpp, rfl⟩ := map_at hx
    obtain ⟨p2, p6⟩ := hp p (List.mem_of_getElem? hpp)
    have pos : 0 < (partsN (ps.take i) n.natAbs).1 := partsN_pos _ _ (fun q hq => (hp q (List.mem_of_mem_take hq)).1) (by omega)
    have snoc := partsN_snoc p (ps.take i) n.natAbs
    generalize hm : (partsN (ps.take i) n.natAbs).1 = m0 at pos snoc ⊢
    simp -dsimp only [rR_, sWh]
    generalize hE : (partsN (ps.take i) n.natAbs).2 = E0 at snoc ⊢
    have hi : i < ps.length := (List.getElem?_eq_some_iff.mp hpp).1
    have lE : E0.length = i := by
      rw [← hE, partsN_ln, List.length_take]
      omega
    refine whW_ind (fun c => ∃ (m k : Nat), 0 < m ∧ (divOut p m).1 = (divOut p m0).1 ∧ k + (divOut p m).2 = (divOut p m0).2 ∧ c = ⟨[some (.d (.list (eNp ps))), some (.d (.int n)), some (.d (.int (m : Int))), some (.own (eNp E0)), some (.d (.int (p : Int))), some (.d (.int (k : Int)))], g⟩) (fun c => slot1 c.env[2]?) (fun c hI R' hR' => ?_) _ ⟨m0, 0, pos, rfl, by omega, rfl⟩
    obtain ⟨m, k, m1, d1, d2, rfl⟩ := hI
    have ef : Int.fmod (m : Int) (p : Int) = ((m % p : Nat) : Int) := by
      rw [Int.fmod_eq_emod_of_nonneg _ (by omega)]
      rfl
    have ed : Int.fdiv (m : Int) (p : Int) = ((m / p : Nat) : Int) := by
      rw [Int.fdiv_eq_ediv_of_nonneg _ (by omega)]
      rfl
    try simp -dsimp only [rR_]
    refine ⟨by omega, ?_⟩
    rw [ef]
    by_cases h0 : m % p = 0
    · have e0 : (((m % p : Nat) : Int) == 0) = true := by rw [h0]; rfl
      obtain ⟨s1, s2, s3⟩ := divOut_step p2 m1 h0
      rw [if_pos e0]
      refine ⟨CDiv2.s (by omega) (by omega) (by omega), ?_⟩
      rw [ed]
      rw [s1] at d1 d2
      refine hR' _ ⟨m / p, k + 1, s3, d1, by omega, rfl⟩ ?_
      show ((m / p : Nat) : Int).natAbs < (m : Int).natAbs
      omega
    · have e0 : ¬ (((m % p : Nat) : Int) == 0) = true := by
        rw [beq_iff_eq]
        omega
      rw [if_neg e0]
      rw [divOut_end m1 h0] at d1 d2
      have hlen : (eNp E0).length < 1000000 := by
        unfold eNp
        rw [List.length_map]
        omega
      refine ⟨hlen, hR _ ⟨some (.int (p : Int)), some (.int (k : Int)), ?_⟩⟩
      rw [List.take_succ, hpp]
      simp only [Option.toList_some]
      rw [snoc, ← d1, ← d2]
      simp [eNp]
  · obtain ⟨x4, x5, rfl⟩ := hI
    unfold eParts sgnI at hQ
    simp -dsimp only [rR_, eNp, List.length_map, List.take_length]
    by_cases h0 : 0 < n
    · rw [if_neg (by omega)] at hQ
      rw [if_pos h0]
      try simp -dsimp only [rR_]
      exact ⟨by decide, hQ⟩
    · rw [if_pos (by omega)] at hQ
      rw [if_neg h0]
      try simp -dsimp only [rR_]
      exact ⟨by decide, hQ⟩
end K
set_option Elab.async false
set_option maxRecDepth 100000
set_option linter.all false
set_option autoImplicit false
set_option maxHeartbeats 4000000
namespace K
open PySem L2 Dl
variable [TabF]
def IsPr (q : Nat) : Prop := 2 ≤ q ∧ ∀ d, d ∣ q → d = 1 ∨ d = q
theorem pr_mul {q a b : Nat} (hq : IsPr q) (h : q ∣ a * b) : q ∣ a ∨ q ∣ b := by
  rcases hq.2 (Nat.gcd q a) (Nat.gcd_dvd_left q a) with e | e
  · exact .inr (Nat.Coprime.dvd_of_dvd_mul_left e h)
  · left
    rw [← e]
    exact Nat.gcd_dvd_right q a
theorem divOut_dvd {p : Nat} (hp : 2 ≤ p) : ∀ (f n : Nat), n ≤ f → 0 < n → (divOut p n).1 ∣ n ∧ ¬ p ∣ (divOut p n).1 ∧ (IsPr p → ∀ q, IsPr q → q ≠ p → q ∣ n → q ∣ (divOut p n).1)
  | 0, n, h, h0 => by omega
  | f + 1, n, h, h0 => by
    by_cases hm : n % p = 0
    · obtain ⟨e, h1, h2⟩ := divOut_step hp h0 hm
      obtain ⟨i1, i2, i3⟩ := divOut_dvd hp f (n / p) (by omega) h2
      have hd : n = p * (n / p) := (Nat.mul_div_cancel' (Nat.dvd_of_mod_eq_zero hm)).symm
      rw [e]
      refine ⟨Nat.dvd_trans i1 ⟨p, by rw [Nat.mul_comm]; exact hd⟩, i2, fun pp q hq ne hqn => i3 pp q hq ne ?_⟩
      rw [hd] at hqn
      rcases pr_mul hq hqn with z | z
      · rcases pp.2 q z with e | e
        · have := hq.1
          omega
        · exact absurd e ne
      · exact z
    · rw [divOut_end h0 hm]
      exact ⟨Nat.dvd_refl n, fun z => hm (Nat.mod_eq_zero_of_dvd z), fun _ _ _ _ z => z⟩
structure PInv (N d L : Nat) (ds : List Nat) : Prop where
  d2 : 2 ≤ d
  l0 : 0 < L
  lN : L ∣ N
  small : ∀ q, 2 ≤ q → q < d → ¬ q ∣ L
  keep : ∀ q, IsPr q → d ≤ q → q ∣ N → q ∣ L
  mem : ∀ q, q ∈ ds ↔ (IsPr q ∧ q < d ∧ q ∣ N)
  asc : ds.Pairwise (· < ·)
theorem PInv.pr {N d L : Nat} {ds : List Nat} (P : PInv N d L ds) (h : d ∣ L) : IsPr d := by
  refine ⟨P.d2, fun e he => ?_⟩
  by_cases h1 : e = d
  · exact .inr h1
  · left
    have d0 : 0 < d := by have := P.d2; omega
    have le := Nat.le_of_dvd d0 he
    have e0 : e ≠ 0 := fun z => by
      rw [z] at he
      have := Nat.eq_zero_of_zero_dvd he
      omega
    by_cases h2 : e = 1
    · exact h2
    · exact absurd (Nat.dvd_trans he h) (P.small e (by omega) (by omega))
theorem PInv.step {N d L : Nat} {ds : List Nat} (P : PInv N d L ds) : PInv N (d + 1) (divOut d L).1 (if L % d = 0 then ds ++ [d] else ds) := by
  obtain ⟨a1, a2, a3⟩ := divOut_dvd P.d2 L L (Nat.le_refl L) P.l0
  have pos := divOut_pos P.d2 L L (Nat.le_refl L) P.l0
  refine ⟨by have := P.d2; omega, pos, Nat.dvd_trans a1 P.lN, fun q q2 ql z => ?_, fun q hq hd hN => ?_, fun q => ?_, ?_⟩
  · by_cases e : q = d
    · exact a2 (e ▸ z)
    · exact P.small q q2 (by omega) (Nat.dvd_trans z a1)
  · have hL := P.keep q hq (by omega) hN
    by_cases hdl : L % d = 0
    · exact a3 (P.pr (Nat.dvd_of_mod_eq_zero hdl)) q hq (by omega) hL
    · rw [divOut_end P.l0 hdl]
      exact hL
  · by_cases hdl : L % d = 0
    · rw [if_pos hdl]
      have dL := Nat.dvd_of_mod_eq_zero hdl
      constructor
      · intro h
        rcases List.mem_append.mp h with h | h
        · obtain ⟨b1, b2, b3⟩ := (P.mem q).mp h
          exact ⟨b1, by omega, b3⟩
        · have e : q = d := by simpa using h
          subst e
          exact ⟨P.pr dL, by omega, Nat.dvd_trans dL P.lN⟩
      · intro ⟨b1, b2, b3⟩
        by_cases e : q = d
        · exact List.mem_append.mpr (.inr (by simp [e]))
        · exact List.mem_append.mpr (.inl ((P.mem q).mpr ⟨b1, by omega, b3⟩))
    · rw [if_neg hdl]
      constructor
      · intro h
        obtain ⟨b1, b2, b3⟩ := (P.mem q).mp h
        exact ⟨b1, by omega, b3⟩
      · intro ⟨b1, b2, b3⟩
        by_cases e : q = d
        · subst e
          exact absurd (Nat.mod_eq_zero_of_dvd (P.keep q b1 (Nat.le_refl q) b3)) hdl
        · exact (P.mem q).mpr ⟨b1, by omega, b3⟩
  · by_cases hdl : L % d = 0
    · rw [if_pos hdl]
      refine List.pairwise_append.mpr ⟨P.asc, List.pairwise_singleton _ _, fun a ha b hb => ?_⟩
      have e : b = d := by simpa using hb
      subst e
      exact ((P.mem a).mp ha).2.1
    · rw [if_neg hdl]
      exact P.asc
/-- the primes of a number, one after another -/
def PList (N : Nat) (ds : List Nat) : Prop := (∀ q, q ∈ ds ↔ (IsPr q ∧ q ∣ N)) ∧ ds.Pairwise (· < ·)
theorem PInv.done {N d L : Nat} {ds : List Nat} (P : PInv N d L ds) (h : ¬ d * d ≤ L) : PList N (if 1 < L then ds ++ [L] else ds) := by
  have d2 := P.d2
  by_cases hl : 1 < L
  · have big : d ≤ L := Nat.le_of_not_lt fun z => P.small L (by omega) z (Nat.dvd_refl L)
    have pr : IsPr L := by
      refine ⟨by omega, fun e he => ?_⟩
      by_cases h1 : e = 1
      · exact .inl h1
      · right
        obtain ⟨k, hk⟩ := he
        have e0 : e ≠ 0 := fun z => by rw [z, Nat.zero_mul] at hk; omega
        by_cases k1 : k = 1
        · rw [k1, Nat.mul_one] at hk
          exact hk.symm
        · exfalso
          have k0 : k ≠ 0 := fun z => by rw [z, Nat.mul_zero] at hk; omega
          have ed : d ≤ e := Nat.le_of_not_lt fun z => P.small e (by omega) z ⟨k, hk⟩
          have kd : d ≤ k := Nat.le_of_not_lt fun z => P.small k (by omega) z ⟨e, by rw [Nat.mul_comm]; exact hk⟩
          have := Nat.mul_le_mul ed kd
          omega
    rw [if_pos hl]
    refine ⟨fun q => ?_, List.pairwise_append.mpr ⟨P.asc, List.pairwise_singleton _ _, fun a ha b hb => ?_⟩⟩
    · constructor
      · intro h
        rcases List.mem_append.mp h with h | h
        · obtain ⟨b1, b2, b3⟩ := (P.mem q).mp h
          exact ⟨b1, b3⟩
        · have e : q = L := by simpa using h
          subst e
          exact ⟨pr, P.lN⟩
      · intro ⟨b1, b3⟩
        by_cases e : q < d
        · exact List.mem_append.mpr (.inl ((P.mem q).mpr ⟨b1, e, b3⟩))
        · have := P.keep q b1 (by omega) b3
          rcases pr.2 q this with z | z
          · have := b1.1
            omega
          · exact List.mem_append.mpr (.inr (by simp [z]))
    · have e : b = L := by simpa using hb
      subst e
      have := ((P.mem a).mp ha).2.1
      omega
  · rw [if_neg hl]
    have l0 := P.l0
    refine ⟨fun q => ?_, P.asc⟩
    constructor
    · intro h
      obtain ⟨b1, b2, b3⟩ := (P.mem q).mp h
      exact ⟨b1, b3⟩
    · intro ⟨b1, b3⟩
      by_cases e : q < d
      · exact (P.mem q).mpr ⟨b1, e, b3⟩
      · have := P.keep q b1 (by omega) b3
        have := Nat.le_of_dvd l0 this
        have := b1.1
        omega
theorem PInv.start {N : Nat} (h : 0 < N) : PInv N 2 N [] :=
  ⟨Nat.le_refl 2, h, Nat.dvd_refl N, fun q h1 h2 => by omega, fun q _ _ h => h, fun q => ⟨fun h => (by cases h), fun ⟨h1, h2, _⟩ => by have := h1.1; omega⟩, List.Pairwise.nil⟩
end K
set_option Elab.async false
set_option maxRecDepth 100000
set_option linter.all false
set_option autoImplicit false
set_option maxHeartbeats 4000000
namespace K
open PySem L2 Dl
variable [TabF]
theorem asc_len {d : Nat} : ∀ (l : List Nat) (a : Nat), l.Pairwise (· < ·) → (∀ q ∈ l, a ≤ q ∧ q < d) → a ≤ d → l.length + a ≤ d
  | [], a, _, _, h => by simpa using h
  | x :: l, a, hp, hq, h => by
    obtain ⟨p1, p2⟩ := List.pairwise_cons.mp hp
    have hx := hq x (by simp)
    have := asc_len l (x + 1) p2 (fun q hm => ⟨p1 q hm, (hq q (List.mem_cons_of_mem _ hm)).2⟩) (by omega)
    show l.length + 1 + a ≤ d
    omega
abbrev Cprime_divisors : Cn := fun rs g Q => ∃ (n : Int), rs = [.d (.int n)] ∧ n ≠ 0 ∧ n.natAbs ≤ 1000000 ∧ ∀ ds, PList n.natAbs ds → Q (.d (.list (eNp ds))) g
def w_pd : WS :=
  (sSeq (sWh (wB (eSc (eqD false) (eOp modD (eName 1) (eName 3)) (eC (.int 0))))
  (sAug 1 ifdivD (eName 3)))
  (sAug 3 iaddD (eC (.int 1))))
def wprime_divisors : WS :=
  (sSeq (sAsg (eCB absC (aCons (eName 0) aNil)) (gN 1))
  (sSeq (sAsg (eLst aNil) (gN 2))
  (sSeq (sAsg (eC (.int 2)) (gN 3))
  (sSeq (sWh (wB (eScR 1 leD (eOp mulD (eName 3) (eName 3))))
  (sSeq (sIf (wB (eSc (eqD false) (eOp modD (eName 1) (eName 3)) (eC (.int 0)))) (sExp (eApp 2 (eName 3))) sNil)
  w_pd))
  (sSeq (sIf (wB (eScL 1 gtD (eC (.int 1)))) (sExp (eApp 2 (eName 1))) sNil)
  (sRet (eName 2)))))))
theorem lenprime_divisors (rs : List Rv) (g : Option Nat) (Q : Rv → Option Nat → Prop) (h : Cprime_divisors rs g Q) : rs.length = 1 := by
  obtain ⟨_, rfl, _⟩ := h
  rfl
theorem run_pd {n : Int} {d L : Nat} {E : List Px} {g : Option Nat} {P : Fl → Prop} (d2 : 2 ≤ d) (dh : d ≤ 1001) (l0 : 0 < L)
    (hP : P (.nx ⟨[some (.d (.int n)), some (.d (.int ((divOut d L).1 : Int))), some (.own E), some (.d (.int ((d + 1 : Nat) : Int)))], g⟩)) :
    w_pd ⟨[some (.d (.int n)), some (.d (.int (L : Int))), some (.own E), some (.d (.int (d : Int)))], g⟩ P (fun _ _ => False) := by
  simp only [w_pd]
  simp -dsimp only [rR_, sWh]
  refine whW_ind (fun c => ∃ (m : Nat), 0 < m ∧ (divOut d m).1 = (divOut d L).1 ∧ c = ⟨[some (.d (.int n)), some (.d (.int (m : Int))), some (.own E), some (.d (.int (d : Int)))], g⟩) (fun c => slot1 c.env[1]?) (fun c hI R' hR' => ?_) _ ⟨L, l0, rfl, rfl⟩
  obtain ⟨m, m1, d1, rfl⟩ := hI
  have ef : Int.fmod (m : Int) (d : Int) = ((m % d : Nat) : Int) := by
    rw [Int.fmod_eq_emod_of_nonneg _ (by omega)]
    rfl
  have ed : Int.fdiv (m : Int) (d : Int) = ((m / d : Nat) : Int) := by
    rw [Int.fdiv_eq_ediv_of_nonneg _ (by omega)]
    rfl
  try simp -dsimp only [rR_]
  refine ⟨by omega, ?_⟩
  rw [ef]
  by_cases h0 : m % d = 0
  · have e0 : (((m % d : Nat) : Int) == 0) = true := by rw [h0]; rfl
    obtain ⟨s1, s2, s3⟩ := divOut_step d2 m1 h0
    rw [if_pos e0]
    refine ⟨⟨by omega, CDiv2.s (by omega) (by omega) (by omega)⟩, ?_⟩
    rw [ed]
    rw [s1] at d1
    refine hR' _ ⟨m / d, s3, d1, rfl⟩ ?_
    show ((m / d : Nat) : Int).natAbs < (m : Int).natAbs
    omega
  · have e0 : ¬ (((m % d : Nat) : Int) == 0) = true := by
      rw [beq_iff_eq]
      omega
    rw [if_neg e0]
    rw [divOut_end m1 h0] at d1
    rw [← d1, Int.natCast_add] at hP
    exact hP
theorem specprime_divisors (rs : List Rv) (g : Option Nat) (Q : Rv → Option Nat → Prop) (h : Cprime_divisors rs g Q) : wprime_divisors (startC 4 rs g) (endP Q) fun _ _ => False := by
  obtain ⟨n, rfl, hn, hl, hQ⟩ := h
  obtain ⟨N, hN⟩ : ∃ N, N = n.natAbs := ⟨_, rfl⟩
  have N0 : 0 < N := by omega
  rw [← hN] at hQ hl
  generalize hW : w_pd = W
  simp only [wprime_divisors, hW]
  simp -dsimp only [startC, List.map_cons, List.map_nil, List.cons_append, List.nil_append, List.length_cons, List.length_nil, Nat.reduceSub, Nat.reduceAdd, List.replicate_succ, List.replicate_zero]
  try simp -dsimp only [rR_]
  rw [← hN]
  simp -dsimp only [rR_, sWh]
  refine ⟨by decide, ?_⟩
  refine whW_ind (fun c => ∃ (d L : Nat) (ds : List Nat), PInv N d L ds ∧ d ≤ 1001 ∧ c = ⟨[some (.d (.int n)), some (.d (.int (L : Int))), some (.own (eNp ds)), some (.d (.int (d : Int)))], g⟩) (fun c => 1002 - slot1 c.env[3]?) (fun c hI R hR => ?_) _ ⟨2, N, [], PInv.start N0, by omega, rfl⟩
  obtain ⟨d, L, ds, P, dN, rfl⟩ := hI
  have l0 := P.l0
  have d2 := P.d2
  have LN := Nat.le_of_dvd N0 P.lN
  have ml : ds.length ≤ d := by
    have := asc_len (d := d) ds 0 P.asc (fun q hq => ⟨Nat.zero_le q, ((P.mem q).mp hq).2.1⟩) (Nat.zero_le d)
    omega
  have el : (eNp ds).length = ds.length := by simp [eNp]
  try simp -dsimp only [rR_]
  refine ⟨CMul2.l (by omega) (by omega), ?_⟩
  by_cases hc : d * d ≤ L
  · have hcI : ((d : Int) * (d : Int) ≤ (L : Int)) := by
      rw [← Int.natCast_mul]
      omega
    have d1000 : d ≤ 1000 := by
      by_cases z : d ≤ 1000
      · exact z
      · have := Nat.mul_le_mul (show 1001 ≤ d by omega) (show 1001 ≤ d by omega)
        omega
    rw [if_pos hcI]
    try simp -dsimp only [rR_]
    have ef : Int.fmod (L : Int) (d : Int) = ((L % d : Nat) : Int) := by
      rw [Int.fmod_eq_emod_of_nonneg _ (by omega)]
      rfl
    refine ⟨by omega, ?_⟩
    rw [ef]
    have st := P.step
    have mu : ∀ X : Nat, 1002 - (((d + 1 : Nat) : Int)).natAbs < 1002 - ((d : Int)).natAbs := fun _ => by omega
    by_cases h0 : L % d = 0
    · have e0 : (((L % d : Nat) : Int) == 0) = true := by rw [h0]; rfl
      rw [if_pos h0] at st
      rw [if_pos e0]
      refine ⟨by omega, ?_⟩
      rw [← hW]
      exact run_pd d2 dN l0 (hR _ ⟨d + 1, _, _, st, by omega, by simp [eNp]⟩ (mu 0))
    · have e0 : ¬ (((L % d : Nat) : Int) == 0) = true := by
        rw [beq_iff_eq]
        omega
      rw [if_neg h0] at st
      rw [if_neg e0]
      rw [← hW]
      exact run_pd d2 dN l0 (hR _ ⟨d + 1, _, _, st, by omega, rfl⟩ (mu 0))
  · have hcI : ¬ ((d : Int) * (d : Int) ≤ (L : Int)) := by
      rw [← Int.natCast_mul]
      omega
    have fin := P.done hc
    rw [if_neg hcI]
    try simp -dsimp only [rR_]
    by_cases h1 : 1 < L
    · rw [if_pos h1] at fin
      rw [if_pos (by omega)]
      try simp -dsimp only [rR_]
      have := hQ _ fin
      refine ⟨by omega, ?_⟩
      have e : eNp ds ++ [PyData.int (L : Int)] = eNp (ds ++ [L]) := by simp [eNp]
      rw [e]
      exact this
    · rw [if_neg h1] at fin
      rw [if_neg (by omega)]
      try simp -dsimp only [rR_]
      exact hQ _ fin
end K
set_option Elab.async false
set_option maxRecDepth 100000
set_option linter.all false
set_option autoImplicit false
set_option maxHeartbeats 4000000
namespace K
open PySem L2 Dl
variable [TabF]
/-- the primes of a piece -/
def WPr (w : Web) (r : Int) (ps : List Nat) : Prop := ps.Pairwise (· < ·) ∧ ∀ q, q ∈ ps ↔ (IsPr q ∧ ∃ t ∈ w.ties, Conn w.ties r t.v ∧ q ∣ (t.p * t.q).natAbs)
theorem WPr.uniq {w : Web} {r : Int} {l m : List Nat} (h : WPr w r l) (k : WPr w r m) : l = m := by
  have key : ∀ l m : List Nat, l.Pairwise (· < ·) → m.Pairwise (· < ·) → (∀ x, x ∈ l ↔ x ∈ m) → l = m := by
    intro l
    induction l with
    | nil =>
      intro m _ _ h
      cases m with
      | nil => rfl
      | cons x m => exact absurd ((h x).mpr (by simp)) (by simp)
    | cons x l ih =>
      intro m hl hm h
      cases m with
      | nil => exact absurd ((h x).mp (by simp)) (by simp)
      | cons y m =>
        obtain ⟨a1, a2⟩ := List.pairwise_cons.mp hl
        obtain ⟨b1, b2⟩ := List.pairwise_cons.mp hm
        have e : x = y := by
          rcases List.mem_cons.mp ((h x).mp (by simp)) with z | z
          · exact z
          · rcases List.mem_cons.mp ((h y).mpr (by simp)) with z' | z'
            · exact z'.symm
            · have := a1 y z'
              have := b1 x z
              omega
        subst e
        congr 1
        refine ih m a2 b2 fun z => ?_
        constructor
        · intro hz
          rcases List.mem_cons.mp ((h z).mp (List.mem_cons_of_mem _ hz)) with q | q
          · have := a1 z hz
            omega
          · exact q
        · intro hz
          rcases List.mem_cons.mp ((h z).mpr (List.mem_cons_of_mem _ hz)) with q | q
          · have := b1 z hz
            omega
          · exact q
  exact key l m h.1 k.1 fun x => (h.2 x).trans (k.2 x).symm
theorem any_nat (l : List Nat) (i : Nat) : ((eNp l).any fun z => PyData.eqv z (.int (i : Int))) = decide (i ∈ l) := by
  have := any_int (l.map fun p : Nat => (p : Int)) (i : Int)
  rw [List.map_map] at this
  refine this.trans ?_
  rw [Bool.eq_iff_iff]
  simp only [decide_eq_true_eq, List.mem_map]
  constructor
  · rintro ⟨a, ha, e⟩
    have : a = i := by omega
    exact this ▸ ha
  · exact fun h => ⟨i, h, rfl⟩
theorem flat_nat (l : List Nat) : (eNp l).all flatD = true := by
  unfold eNp
  rw [List.all_map]
  exact List.all_eq_true.mpr fun _ _ => rfl
theorem inN_l (l : List Nat) {i : Nat} {P : Rv → Prop} : inD true (.int (i : Int)) (.list (eNp l)) P = P (.d (.bool (!decide (i ∈ l)))) := by
  simp only [inD, flat_nat, any_nat, true_and]
  simp [flatD]
theorem fm_nat (found : List Nat) : ∀ ds : List Nat, List.filterMap (fun q : Nat => if q ∈ found then none else some (PyData.int (q : Int))) ds = eNp (ds.filter fun q => decide (¬ q ∈ found))
  | [] => rfl
  | q :: ds => by
    by_cases h : q ∈ found
    · rw [List.filterMap_cons_none (by rw [if_pos h]), fm_nat found ds, List.filter_cons_of_neg (by simp [h])]
    · rw [List.filterMap_cons_some (by rw [if_neg h]), fm_nat found ds, List.filter_cons_of_pos (by simp [h])]
      rfl
theorem pr_le {q : Nat} {a b : Int} (hq : IsPr q) (a0 : a ≠ 0) (b0 : b ≠ 0) (a1 : a.natAbs ≤ 1000) (b1 : b.natAbs ≤ 1000) (h : q ∣ (a * b).natAbs) : q ≤ 1000 := by
  rw [Int.natAbs_mul] at h
  rcases pr_mul hq h with z | z
  · have := Nat.le_of_dvd (by omega) z
    omega
  · have := Nat.le_of_dvd (by omega) z
    omega
theorem nat_len {l : List Nat} {n : Nat} (h : l.Nodup) (hn : ∀ q ∈ l, q < n) : l.length ≤ n := by
  have := nodup_len n (l.map fun q : Nat => (q : Int)) (List.Pairwise.map _ (fun a b hab => by
    intro z
    exact hab (by omega)) h) (fun x hx => by
    obtain ⟨q, hq, rfl⟩ := List.mem_map.mp hx
    have := hn q hq
    omega)
  rwa [List.length_map] at this
abbrev Cprimes_of : Cn := fun rs g Q => ∃ (w : Web) (r : Int), rs = [.d (eW w), .d (.int r)] ∧ (WebOk w 1000 ∧ w.ties.length ≤ 1000 ∧ w.rooms ≤ 1000 ∧ 0 ≤ r ∧ r < w.rooms) ∧ ∀ ps, WPr w r ps → Q (.d (.tuple (eNp ps))) g
def wprimes_of : WS :=
  (sSeq (sAsg (eCallP Cpiece_of (aCons (eName 0) (aCons (eName 1) aNil))) (gN 2))
  (sSeq (sAsg (eLst aNil) (gN 3))
  (sSeq (sFor (iTpl (eIxN 0 (eC (.int 1)))) (gT 4 (gsCons (gN 4) (gsCons (gN 5) (gsCons (gN 6) (gsCons (gN 7) gsNil)))))
  (sIf (wB (eScR 2 (inD false) (eName 4))) (sExp (eExt 3 (eLc (iLst (eCallP Cprime_divisors (aCons (eOp mulD (eName 6) (eName 7)) aNil))) (gN 8) (wB (eScR 3 (inD true) (eName 8))) (eName 8) [8]))) sNil))
  (sRet (eCB tupC (aCons (eCB sortIC (aCons (eName 3) aNil)) aNil))))))
theorem lenprimes_of (rs : List Rv) (g : Option Nat) (Q : Rv → Option Nat → Prop) (h : Cprimes_of rs g Q) : rs.length = 2 := by
  obtain ⟨_, _, rfl, _⟩ := h
  rfl
theorem specprimes_of (rs : List Rv) (g : Option Nat) (Q : Rv → Option Nat → Prop) (h : Cprimes_of rs g Q) : wprimes_of (startC 9 rs g) (endP Q) fun _ _ => False := by
  obtain ⟨w, r, rfl, ⟨wo, hw, hr, h0, h1⟩, hQ⟩ := h
  simp only [wprimes_of]
  simp -dsimp only [startC, List.map_cons, List.map_nil, List.cons_append, List.nil_append, List.length_cons, List.length_nil, Nat.reduceSub, Nat.reduceAdd, List.replicate_succ, List.replicate_zero]
  try simp -dsimp only [rR_]
  refine ⟨w, 1000, r, rfl, ⟨wo, hw, hr, h0, h1⟩, fun l hl => ?_⟩
  have eW1 : ∀ q : Px → Prop, ixD (eW w) (.int 1) q = q (.tuple (w.ties.map eT)) := fun q => by unfold eW; rw [ixt1]
  simp -dsimp only [rR_, tupI, eW1]
  simp only [forH]
  refine ⟨by decide, ?_⟩
  refine forW_ind _ (fun i c => ∃ (found : List Nat) (x4 x5 x6 x7 : Option Px), found.Nodup ∧ (∀ q, q ∈ found ↔ (IsPr q ∧ ∃ t ∈ w.ties.take i, Conn w.ties r t.v ∧ q ∣ (t.p * t.q).natAbs)) ∧ c = ⟨[some (.d (eW w)), some (.d (.int r)), some (.d (.tuple (l.map .int))), some (.own (eNp found)), x4.map .d, x5.map .d, x6.map .d, x7.map .d, none], g⟩) (fun i x c hx hI R hR => ?_) (fun c hI => ?_) _ ⟨[], none, none, none, none, List.nodup_nil, fun q => by simp, rfl⟩
  · obtain ⟨found, x4, x5, x6, x7, nd, mem, rfl⟩ := hI
    obtain ⟨t, ht, rfl⟩ := map_at hx
    have ok := (wo.at ⟨i, rfl, ht⟩).rev 1
    have e1 : rev t 1 = t := rfl
    rw [e1] at ok
    have p1 := ok.p1
    have q1 := ok.q1
    have p0 := ok.p0
    have q0 := ok.q0
    have tk : w.ties.take (i + 1) = w.ties.take i ++ [t] := by rw [List.take_succ, ht]; rfl
    simp -dsimp only [rR_, eT]
    rw [inF_t]
    try simp -dsimp only [rR_]
    by_cases hin : t.v ∈ l
    · have cn := (hl.mem t.v).mp hin
      rw [if_pos hin]
      have nb : (t.p * t.q).natAbs ≤ 1000000 := by
        rw [Int.natAbs_mul]
        exact Nat.mul_le_mul (show t.p.natAbs ≤ 1000 by omega) (show t.q.natAbs ≤ 1000 by omega)
      refine ⟨CMul2.l (by omega) (by omega), t.p * t.q, rfl, Int.mul_ne_zero p0 q0, nb, fun ds hds => ?_⟩
      try simp -dsimp only [rR_]
      refine ⟨by simp [nown], ?_⟩
      simp only [lcH, eNp]
      have dl : ds.length ≤ 1001 := nat_len (hds.2.imp fun h => by omega) fun q hq => by
        obtain ⟨z1, z2⟩ := (hds.1 q).mp hq
        have := pr_le z1 p0 q0 (by omega) (by omega) z2
        omega
      have tm : ∀ t' ∈ w.ties.take i, t'.p ≠ 0 ∧ t'.q ≠ 0 ∧ t'.p.natAbs ≤ 1000 ∧ t'.q.natAbs ≤ 1000 := fun t' h' => by
        have o := wo.tie t' (List.mem_of_mem_take h')
        have o1 := o.p1
        have o2 := o.q1
        exact ⟨o.p0, o.q0, by omega, by omega⟩
      have fl : found.length ≤ 1001 := nat_len nd fun q hq => by
        obtain ⟨z1, t', h', _, z2⟩ := (mem q).mp hq
        obtain ⟨a, b, c, d⟩ := tm t' h'
        have := pr_le z1 a b c d z2
        omega
      refine lcW_fma (fun q : Nat => PyData.int (q : Int)) (fun q : Nat => if q ∈ found then none else some (PyData.int (q : Int))) ds [] (fun q hq R S hR1 hS => ?_) (by simp; omega) ?_
      · simp -dsimp only [rR_, Turn1, wipeE]
        rw [show (List.map (fun p : Nat => PyData.int (p : Int)) found) = eNp found from rfl, inN_l]
        by_cases hm : q ∈ found
        · simp -dsimp only [rR_, hm, decide_true, Bool.not_true]
          exact hS (if_pos hm)
        · simp -dsimp only [rR_, hm, decide_false, Bool.not_false]
          exact hR1 _ (if_neg hm)
      · rw [List.nil_append, fm_nat]
        have hlf : (ds.filter fun q => decide (¬ q ∈ found)).length ≤ ds.length := List.length_filter_le _ _
        generalize hD : (ds.filter fun q => decide (¬ q ∈ found)) = D at hlf ⊢
        have memD : ∀ q, q ∈ D ↔ (q ∈ ds ∧ ¬ q ∈ found) := fun q => by
          rw [← hD, List.mem_filter]
          simp
        have ndD : D.Nodup := by
          rw [← hD]
          exact (hds.2.imp fun h => by omega : ds.Nodup).filter _
        try simp -dsimp only [rR_]
        refine ⟨by simp [eNp]; omega, ?_⟩
        refine hR _ ⟨found ++ D, some (.int t.v), some (.int t.w), some (.int t.p), some (.int t.q), List.nodup_append.mpr ⟨nd, ndD, fun a ha b hb e => ((memD b).mp hb).2 (e ▸ ha)⟩, fun q => ?_, by simp [eNp, putE]⟩
        rw [List.mem_append, mem q, memD q, hds.1 q, mem q, tk]
        constructor
        · rintro (⟨a, t', h', b, c⟩ | ⟨⟨a, c⟩, _⟩)
          · exact ⟨a, t', List.mem_append.mpr (.inl h'), b, c⟩
          · exact ⟨a, t, List.mem_append.mpr (.inr (by simp)), cn, c⟩
        · rintro ⟨a, t', h', b, c⟩
          by_cases z : ∃ t ∈ w.ties.take i, Conn w.ties r t.v ∧ q ∣ (t.p * t.q).natAbs
          · exact .inl ⟨a, z⟩
          · rcases List.mem_append.mp h' with h' | h'
            · exact absurd ⟨t', h', b, c⟩ z
            · have e : t' = t := by simpa using h'
              subst e
              exact .inr ⟨⟨a, c⟩, fun y => z y.2⟩
    · rw [if_neg hin]
      refine hR _ ⟨found, some _, some _, some _, some _, nd, fun q => ?_, rfl⟩
      rw [mem q, tk]
      constructor
      · rintro ⟨a, t', h', b, c⟩
        exact ⟨a, t', List.mem_append.mpr (.inl h'), b, c⟩
      · rintro ⟨a, t', h', b, c⟩
        rcases List.mem_append.mp h' with h' | h'
        · exact ⟨a, t', h', b, c⟩
        · have e : t' = t := by simpa using h'
          subst e
          exact absurd ((hl.mem _).mpr b) hin
  · obtain ⟨found, x4, x5, x6, x7, nd, mem, rfl⟩ := hI
    rw [List.length_map, List.take_length] at mem
    try simp -dsimp only [rR_]
    refine ⟨found.map fun q : Nat => (q : Int), by rw [List.map_map]; rfl, fun ms pm so => ?_⟩
    have nn : ∀ z ∈ ms, 0 ≤ z := fun z hz => by
      obtain ⟨q, _, rfl⟩ := List.mem_map.mp (pm.mem_iff.mp hz)
      omega
    have em : eNp (ms.map Int.toNat) = ms.map PyData.int := by
      unfold eNp
      rw [List.map_map]
      refine List.map_congr_left fun z hz => ?_
      have := nn z hz
      show PyData.int ((z.toNat : Nat) : Int) = PyData.int z
      rw [Int.toNat_of_nonneg this]
    try simp -dsimp only [rR_]
    rw [← em]
    refine hQ _ ⟨?_, fun q => ?_⟩
    · have nd2 : ms.Nodup := (pm.nodup_iff).mpr (List.Pairwise.map _ (fun a b hab => by
        intro z
        exact hab (by omega)) nd)
      exact List.pairwise_map.mpr ((so.and nd2).imp_of_mem fun {a b} ha hb h => by
        have := nn a ha
        have := nn b hb
        obtain ⟨h1, h2⟩ := h
        have h2 : a ≠ b := h2
        omega)
    · rw [← mem q, List.mem_map]
      constructor
      · rintro ⟨z, hz, rfl⟩
        obtain ⟨q, hq, rfl⟩ := List.mem_map.mp (pm.mem_iff.mp hz)
        exact hq
      · exact fun hq => ⟨(q : Int), pm.mem_iff.mpr (List.mem_map.mpr ⟨q, hq, rfl⟩), rfl⟩
end K
set_option Elab.async false
set_option maxRecDepth 100000
set_option linter.all false
set_option autoImplicit false
set_option maxHeartbeats 4000000
namespace K
open PySem L2 Dl
variable [TabF]
structure RmOk (w : Web) (r : Int) : Prop where
  wo : WebOk w 1000
  tl : w.ties.length ≤ 1000
  rl : w.rooms ≤ 1000
  r0 : 0 ≤ r
  r1 : r < w.rooms
theorem WPr.two {w : Web} {r : Int} {ps : List Nat} (R : RmOk w r) (h : WPr w r ps) : (∀ p ∈ ps, 2 ≤ p ∧ p ≤ 1000000) ∧ ps.length ≤ 1000 := by
  have le : ∀ p ∈ ps, 2 ≤ p ∧ p ≤ 1000 := fun p hp => by
    obtain ⟨a, t, ht, _, c⟩ := (h.2 p).mp hp
    have o := R.wo.tie t ht
    have o1 := o.p1
    have o2 := o.q1
    exact ⟨a.1, pr_le a o.p0 o.q0 (by omega) (by omega) c⟩
  refine ⟨fun p hp => ?_, ?_⟩
  · have := le p hp
    omega
  · have := asc_len (d := 1001) ps 2 h.1 (fun q hq => by
      have := le q hq
      omega) (by decide)
    omega
def outR (v : Int) : Xn := ⟨"OutOfRange", [("value", .int v)]⟩
def notI (r : Int) : Xn := ⟨"NotInOne", [("room", .int r)]⟩
abbrev Cturn_parts : CnX := fun rs g Q Z => ∃ (w : Web) (r n : Int), rs = [.d (eW w), .d (.int r), .d (.int n)] ∧ RmOk w r ∧ (n = 0 → Z (outR 0) g) ∧ (n ≠ 0 → ∀ ps, WPr w r ps → Q (.d (eParts ps n)) g)
def wturn_parts : WS :=
  (sSeq (sIf (wB (eScL 2 (eqD false) (eC (.int 0)))) (sRaise "OutOfRange" "value" (aCons (eC (.int 0)) aNil)) sNil)
  (sRet (eCallP Cparts_for (aCons (eCallP Cprimes_of (aCons (eName 0) (aCons (eName 1) aNil))) (aCons (eName 2) aNil)))))
theorem lenturn_parts (rs : List Rv) (g : Option Nat) (Q : Rv → Option Nat → Prop) (Z : Xn → Option Nat → Prop) (h : Cturn_parts rs g Q Z) : rs.length = 3 := by
  obtain ⟨_, _, _, rfl, _⟩ := h
  rfl
theorem specturn_parts (rs : List Rv) (g : Option Nat) (Q : Rv → Option Nat → Prop) (Z : Xn → Option Nat → Prop) (h : Cturn_parts rs g Q Z) : wturn_parts (startC 3 rs g) (endP Q) Z := by
  obtain ⟨w, r, n, rfl, R, hz, hQ⟩ := h
  simp only [wturn_parts]
  simp -dsimp only [startC, List.map_cons, List.map_nil, List.cons_append, List.nil_append, List.length_cons, List.length_nil, Nat.reduceSub, Nat.reduceAdd, List.replicate_succ, List.replicate_zero]
  try simp -dsimp only [rR_]
  by_cases h0 : n = 0
  · subst h0
    rw [if_pos (by rfl)]
    exact hz rfl
  · have vb : ¬ ((n == 0) = true) := by
      rw [beq_iff_eq]
      exact h0
    rw [if_neg vb]
    try simp -dsimp only [rR_]
    refine ⟨w, r, rfl, ⟨R.wo, R.tl, R.rl, R.r0, R.r1⟩, fun ps hp => ?_⟩
    obtain ⟨p1, p2⟩ := hp.two R
    try simp -dsimp only [rR_]
    refine ⟨ps, n, rfl, h0, p1, by omega, ?_⟩
    try simp -dsimp only [rR_]
    exact hQ h0 ps hp
abbrev Ccomes_before : CnX := fun rs g Q Z => ∃ (w : Web) (r n r2 n2 : Int), rs = [.d (eW w), .d (.tuple [.int r, .int n]), .d (.tuple [.int r2, .int n2])] ∧ RmOk w r ∧ ((n = 0 ∨ n2 = 0) → Z (outR 0) g) ∧ (n ≠ 0 → n2 ≠ 0 → ¬ Conn w.ties r r2 → Z (notI r2) g) ∧
  (n ≠ 0 → n2 ≠ 0 → Conn w.ties r r2 → ∀ ps, WPr w r ps → Q (.d (.bool (ltP (eOrd ps r n) (eOrd ps r2 n2)))) g)
def wcomes_before : WS :=
  (sSeq (sIf (wOr (wB (eSc (eqD false) (eIxN 1 (eC (.int 1))) (eC (.int 0)))) (wB (eSc (eqD false) (eIxN 2 (eC (.int 1))) (eC (.int 0))))) (sRaise "OutOfRange" "value" (aCons (eC (.int 0)) aNil)) sNil)
  (sSeq (sIf (wB (eSc (inD true) (eIxN 2 (eC (.int 0))) (eCallP Cpiece_of (aCons (eName 0) (aCons (eIxN 1 (eC (.int 0))) aNil))))) (sRaise "NotInOne" "room" (aCons (eIxN 2 (eC (.int 0))) aNil)) sNil)
  (sSeq (sAsg (eCallP Cprimes_of (aCons (eName 0) (aCons (eIxN 1 (eC (.int 0))) aNil))) (gN 3))
  (sRet (eSc ltTD (eCallP Corder_for (aCons (eName 3) (aCons (eName 1) aNil))) (eCallP Corder_for (aCons (eName 3) (aCons (eName 2) aNil))))))))
theorem lencomes_before (rs : List Rv) (g : Option Nat) (Q : Rv → Option Nat → Prop) (Z : Xn → Option Nat → Prop) (h : Ccomes_before rs g Q Z) : rs.length = 3 := by
  obtain ⟨_, _, _, _, _, rfl, _⟩ := h
  rfl
theorem ints_lay (l : List Nat) (f : Nat → Int) : PyData.canLayAll0 (l.map fun e : Nat => PyData.int (f e)) = true ∧ PyData.depthAll (l.map fun e : Nat => PyData.int (f e)) ≤ 1 := by
  induction l with
  | nil => exact ⟨rfl, by simp [PyData.depthAll]⟩
  | cons a l ih =>
    refine ⟨by simpa [PyData.canLayAll0, PyData.canLay0] using ih.1, ?_⟩
    have := ih.2
    simp only [List.map_cons, PyData.depthAll, PyData.depth]
    omega
theorem ints_cmp (f g : Nat → Int) : ∀ (l m : List Nat), cmpA (l.map fun e : Nat => PyData.int (f e)) (m.map fun e : Nat => PyData.int (g e)) = true
  | [], _ => rfl
  | _ :: _, [] => rfl
  | a :: l, b :: m => by simp only [List.map_cons, cmpA, cmpP, ints_cmp f g l m, Bool.and_self]
theorem ord_ok (ps : List Nat) (r n : Int) : (eOrd ps r n).canLay0 = true ∧ (eOrd ps r n).depth ≤ 60 := by
  obtain ⟨a, b⟩ := ints_lay (partsN ps n.natAbs).2 fun e => -(e : Int)
  have a : PyData.canLayAll0 (negL (partsN ps n.natAbs).2) = true := a
  have b : PyData.depthAll (negL (partsN ps n.natAbs).2) ≤ 1 := b
  unfold eOrd
  constructor
  · simp [PyData.canLay0, PyData.canLayAll0, a]
  · simp only [PyData.depth, PyData.depthAll]
    omega
theorem ord_cmp (ps qs : List Nat) (r n r2 n2 : Int) : cmpP (eOrd ps r n) (eOrd qs r2 n2) = true := by
  have a : cmpA (negL (partsN ps n.natAbs).2) (negL (partsN qs n2.natAbs).2) = true := ints_cmp _ _ _ _
  unfold eOrd
  simp [cmpP, cmpA, a]
theorem speccomes_before (rs : List Rv) (g : Option Nat) (Q : Rv → Option Nat → Prop) (Z : Xn → Option Nat → Prop) (h : Ccomes_before rs g Q Z) : wcomes_before (startC 4 rs g) (endP Q) Z := by
  obtain ⟨w, r, n, r2, n2, rfl, R, hz, hz2, hQ⟩ := h
  simp only [wcomes_before]
  simp -dsimp only [startC, List.map_cons, List.map_nil, List.cons_append, List.nil_append, List.length_cons, List.length_nil, Nat.reduceSub, Nat.reduceAdd, List.replicate_succ, List.replicate_zero]
  try simp -dsimp only [rR_]
  by_cases h0 : n = 0
  · subst h0
    rw [if_pos (by rfl)]
    try simp -dsimp only [rR_]
    exact hz (.inl rfl)
  have vb : ¬ ((n == 0) = true) := by
    rw [beq_iff_eq]
    exact h0
  rw [if_neg vb]
  by_cases h2 : n2 = 0
  · subst h2
    rw [if_pos (by rfl)]
    try simp -dsimp only [rR_]
    exact hz (.inr rfl)
  have vb2 : ¬ ((n2 == 0) = true) := by
    rw [beq_iff_eq]
    exact h2
  rw [if_neg vb2]
  try simp -dsimp only [rR_]
  refine ⟨w, 1000, r, rfl, ⟨R.wo, R.tl, R.rl, R.r0, R.r1⟩, fun l hl => ?_⟩
  try simp -dsimp only [rR_]
  have inT_t : ∀ {P : Rv → Prop}, inD true (.int r2) (tupI l) P = P (.d (.bool (!decide (r2 ∈ l)))) := by
    intro P
    unfold tupI
    simp only [inD, flat_ints, any_int, true_and]
    simp [flatD]
  rw [inT_t]
  try simp -dsimp only [rR_]
  by_cases hin : r2 ∈ l
  · have cn := (hl.mem r2).mp hin
    have t0 : ¬ ((!decide (r2 ∈ l)) = true) := by simp [hin]
    rw [if_neg t0]
    refine ⟨w, r, rfl, ⟨R.wo, R.tl, R.rl, R.r0, R.r1⟩, fun ps hp => ?_⟩
    obtain ⟨p1, p2⟩ := hp.two R
    try simp -dsimp only [rR_]
    refine ⟨ps, r, n, rfl, h0, p1, by omega, ?_⟩
    try simp -dsimp only [rR_]
    refine ⟨ps, r2, n2, rfl, h2, p1, by omega, ?_⟩
    try simp -dsimp only [rR_]
    exact ⟨(ord_ok ps r n).1, (ord_ok ps r2 n2).1, ord_cmp ps ps r n r2 n2, (ord_ok ps r n).2, hQ h0 h2 cn ps hp⟩
  · have t0 : (!decide (r2 ∈ l)) = true := by simp [hin]
    rw [if_pos t0]
    simp -dsimp only [rR_, sRaise]
    exact hz2 h0 h2 fun c => hin ((hl.mem r2).mpr c)
end K
set_option Elab.async false
set_option maxRecDepth 100000
set_option linter.all false
set_option autoImplicit false
set_option maxHeartbeats 4000000
namespace K
open PySem L2 Dl
variable [TabF]
abbrev C_law_key : Cn := fun rs g Q => ∃ (ps : List Nat) (r n : Int), rs = [.d (.list (eNp ps)), .d (.tuple [.int r, .int n])] ∧ n ≠ 0 ∧ (∀ p ∈ ps, 2 ≤ p ∧ p ≤ 1000000) ∧ ps.length ≤ 1000 ∧ Q (.d (eOrd ps r n)) g
def w_law_key : WS :=
  (sSeq (sAsg (eCallP C_law_parts (aCons (eName 0) (aCons (eIxN 1 (eC (.int 1))) aNil))) (gT 3 (gsCons (gN 2) (gsCons (gN 3) (gsCons (gN 4) gsNil)))))
  (sRet (eTup (aCons (eName 3) (aCons (eCB sumC (aCons (eName 4) aNil)) (aCons (eCB tupC (aCons (eLc (iTpl (eName 4)) (gN 5) wYes (eUn negD (eName 5)) [5]) aNil)) (aCons (eIxN 1 (eC (.int 0))) (aCons (eUn negD (eName 2)) aNil))))))))
theorem len_law_key (rs : List Rv) (g : Option Nat) (Q : Rv → Option Nat → Prop) (h : C_law_key rs g Q) : rs.length = 2 := by
  obtain ⟨_, _, _, rfl, _⟩ := h
  rfl
theorem spec_law_key (rs : List Rv) (g : Option Nat) (Q : Rv → Option Nat → Prop) (h : C_law_key rs g Q) : w_law_key (startC 6 rs g) (endP Q) fun _ _ => False := by
  obtain ⟨ps, r, n, rfl, hn, hp, hl, hQ⟩ := h
  have ln := partsN_ln ps n.natAbs
  simp only [w_law_key]
  simp -dsimp only [startC, List.map_cons, List.map_nil, List.cons_append, List.nil_append, List.length_cons, List.length_nil, Nat.reduceSub, Nat.reduceAdd, List.replicate_succ, List.replicate_zero]
  simp -dsimp only [rR_, gT_d]
  refine ⟨ps, n, rfl, hn, hp, hl, ?_⟩
  unfold eParts
  simp -dsimp only [rR_, gT_d]
  generalize hes : (partsN ps n.natAbs).2 = es at ln ⊢
  unfold eOrd at hQ
  rw [hes] at hQ
  have el : es.length ≤ 1000 := by omega
  simp only [eNp]
  refine ⟨es.map fun e : Nat => (e : Int), by rw [List.map_map]; rfl, ?_⟩
  try simp -dsimp only [rR_]
  refine ⟨by simp [nown], ?_⟩
  simp only [lcH]
  refine lcW_mpa (fun e : Nat => PyData.int (e : Int)) (fun e : Nat => PyData.int (-(e : Int))) _ (fun e he R S hR => ?_) (by first | omega | (simp; omega)) ?_
  · simp -dsimp only [rR_, Turn1, wipeE]
    first | exact hR | exact ⟨by first | rfl | simp [wipeE], hR⟩
  · try simp -dsimp only [rR_]
    exact ⟨by decide, hQ⟩
end K
set_option Elab.async false
set_option maxRecDepth 100000
set_option linter.all false
set_option autoImplicit false
set_option maxHeartbeats 4000000
namespace K
open PySem L2 Dl
variable [TabF]
/-! ### ways home -/
def keysD (kvs : List (Int × Px)) : List Int := kvs.map (·.1)
def unmet (n : Nat) (ks : List Int) : Nat := ((List.range n).filter fun a : Nat => !(ks.contains (a : Int))).length
theorem filter_lt {α : Type} {p q : α → Bool} (h : ∀ x, p x = true → q x = true) : ∀ {l : List α} {a : α}, a ∈ l → q a = true → p a = false → (l.filter p).length < (l.filter q).length
  | x :: l, a, ha, hq, hp => by
    have hle : ∀ l : List α, (l.filter p).length ≤ (l.filter q).length := by
      intro l
      induction l with
      | nil => exact Nat.le_refl _
      | cons y l ih =>
        rw [List.filter_cons, List.filter_cons]
        by_cases h1 : p y = true
        · rw [if_pos h1, if_pos (h y h1)]
          simp only [List.length_cons]
          omega
        · rw [if_neg h1]
          split
          · simp only [List.length_cons]
            omega
          · exact ih
    rw [List.filter_cons, List.filter_cons]
    rcases List.mem_cons.mp ha with rfl | ha
    · rw [if_neg (by rw [hp]; decide), if_pos hq]
      have := hle l
      simp only [List.length_cons]
      omega
    · have ih := filter_lt h ha hq hp
      by_cases h1 : p x = true
      · rw [if_pos h1, if_pos (h x h1)]
        simp only [List.length_cons]
        omega
      · rw [if_neg h1]
        split
        · simp only [List.length_cons]
          omega
        · exact ih
theorem unmet_lt {n : Nat} {ks : List Int} {a : Int} (h0 : 0 ≤ a) (h1 : a < n) (ha : ¬ a ∈ ks) : unmet n (ks ++ [a]) < unmet n ks := by
  obtain ⟨b, rfl⟩ : ∃ b : Nat, a = (b : Int) := ⟨a.toNat, by omega⟩
  unfold unmet
  refine filter_lt (a := b) (fun x hx => ?_) (by simp; omega) ?_ ?_
  · simp at hx ⊢
    exact hx.1
  · simpa using ha
  · simp
theorem unmet_le (n : Nat) (ks : List Int) : unmet n ks ≤ n := by
  unfold unmet
  have := List.length_filter_le (fun a : Nat => !(ks.contains (a : Int))) (List.range n)
  rwa [List.length_range] at this
def eHm (h : List (Int × List (Int × Int))) : List (Int × Px) := h.map fun p => (p.1, .list (p.2.map eC2))
theorem eHm_keys (h : List (Int × List (Int × Int))) : keysD (eHm h) = h.map (·.1) := by
  unfold keysD eHm
  rw [List.map_map]
  rfl
theorem eHm_look {h : List (Int × List (Int × Int))} {a : Int} (ha : a ∈ h.map (·.1)) : ∃ cs, (a, cs) ∈ h ∧ lookD (eHm h) a = some (.list (cs.map eC2)) := by
  induction h with
  | nil => cases ha
  | cons p h ih =>
    obtain ⟨b, cs⟩ := p
    by_cases e : b = a
    · subst e
      exact ⟨cs, by simp, by simp [lookD, eHm]⟩
    · have ha : a ∈ h.map (·.1) := by
        rw [List.map_cons] at ha
        rcases List.mem_cons.mp ha with z | z
        · exact absurd z.symm e
        · exact z
      obtain ⟨ds, h1, h2⟩ := ih ha
      refine ⟨ds, List.mem_cons_of_mem _ h1, ?_⟩
      rw [← h2]
      simp [lookD, eHm, e]
theorem eHm_none {h : List (Int × List (Int × Int))} {a : Int} (ha : ¬ a ∈ h.map (·.1)) : lookD (eHm h) a = none := by
  unfold lookD eHm
  rw [List.find?_eq_none.mpr]
  · rfl
  · intro p hp
    obtain ⟨q, hq, rfl⟩ := List.mem_map.mp hp
    simp only [decide_eq_true_eq]
    intro z
    exact ha (List.mem_map.mpr ⟨q, hq, z⟩)
theorem eHm_put {h : List (Int × List (Int × Int))} {a : Int} {cs : List (Int × Int)} (ha : ¬ a ∈ h.map (·.1)) : putD (eHm h) a (.list (cs.map eC2)) = eHm (h ++ [(a, cs)]) := by
  unfold putD
  rw [if_neg]
  · simp [eHm]
  · intro z
    rw [List.any_eq_true] at z
    obtain ⟨p, hp, e⟩ := z
    obtain ⟨q, hq, rfl⟩ := List.mem_map.mp hp
    exact ha (List.mem_map.mpr ⟨q, hq, by simpa using e⟩)
/-- the rows that lead home, as far as they are found -/
structure Hm (w : Web) (r : Int) (h : List (Int × List (Int × Int))) : Prop where
  st : r ∈ h.map (·.1)
  en : ∀ p ∈ h, CsOk w p.2 ∧ Ch w r p.2 p.1 ∧ p.2.length + 1 ≤ h.length ∧ 0 ≤ p.1 ∧ p.1 < w.rooms
  un : h.length + unmet w.rooms.toNat (h.map (·.1)) ≤ w.rooms.toNat
def Cl (w : Web) (ks : List Int) (a : Int) : Prop := ∀ c ∈ outs w a, (eCr w c).w ∈ ks
theorem Cl.up {w : Web} {ks ls : List Int} {a : Int} (h : Cl w ks a) (l : ∀ x ∈ ks, x ∈ ls) : Cl w ls a := fun c hc => l _ (h c hc)
theorem Hm.add {w : Web} {r a : Int} {h : List (Int × List (Int × Int))} {cs : List (Int × Int)} {c : Int × Int} (H : Hm w r h) (ha : (a, cs) ∈ h) (hc : CrOk w c.1 c.2) (hv : (eCr w c).v = a) (h0 : 0 ≤ (eCr w c).w) (h1 : (eCr w c).w < w.rooms) (hn : ¬ (eCr w c).w ∈ h.map (·.1)) : Hm w r (h ++ [((eCr w c).w, cs ++ [c])]) := by
  obtain ⟨q1, q2, q3, q4, q5⟩ := H.en _ ha
  have hu := unmet_lt (n := w.rooms.toNat) h0 (by omega) hn
  have := H.un
  refine ⟨by rw [List.map_append]; exact List.mem_append_left _ H.st, fun p hp => ?_, ?_⟩
  · rcases List.mem_append.mp hp with hp | hp
    · obtain ⟨p1, p2, p3, p4, p5⟩ := H.en p hp
      exact ⟨p1, p2, by simp; omega, p4, p5⟩
    · simp only [List.mem_cons, List.not_mem_nil, or_false] at hp
      subst hp
      refine ⟨fun d hd => ?_, .snoc c q2 hv, by simp at q3 ⊢; omega, h0, h1⟩
      rcases List.mem_append.mp hd with hd | hd
      · exact q1 d hd
      · simp only [List.mem_cons, List.not_mem_nil, or_false] at hd
        subst hd
        exact hc
  · rw [List.map_append, List.length_append]
    show h.length + 1 + unmet _ (h.map (·.1) ++ [(eCr w c).w]) ≤ _
    omega
def slotK : Option (Option Rv) → List Int
  | some (some (.dic (.k kvs))) => keysD kvs
  | _ => []
def slotN : Option (Option Rv) → Nat
  | some (some (.own xs)) => xs.length
  | _ => 0
abbrev C_law_home : Cn := fun rs g Q => ∃ w r, rs = [.d (eW w), .d (.int r)] ∧ WebOk w 1000 ∧ w.ties.length ≤ 1000 ∧ w.rooms ≤ 1000 ∧ 0 ≤ r ∧ r < w.rooms ∧ ∀ h, Hm w r h → (∀ a ∈ h.map (·.1), Cl w (h.map (·.1)) a) → Q (.dic (.k (eHm h))) g
def w_law_home : WS :=
  (sSeq (sPar2 2 3 (eDisp1 (eName 1) (eLst aNil)) (eLst (aCons (eName 1) aNil)))
  (sSeq (sWh (wB (eScL 3 (eqD true) (eLst aNil)))
  (sSeq (sAsg (ePop0 3) (gN 4))
  (sFor (iLst (eCallP C_law_out (aCons (eName 0) (aCons (eName 4) aNil)))) (gT 2 (gsCons (gN 5) (gsCons (gN 6) gsNil)))
  (sSeq (sAsg (eIx (eCallP C_law_ends (aCons (eName 0) (aCons (eName 5) (aCons (eName 6) aNil)))) (eC (.int 1))) (gN 7))
  (sIf (wB (eDIn true 2 (eName 7))) (sSeq (sDctP 2 (eOp addD (eDIx 2 (eName 4)) (eLst (aCons (eTup (aCons (eName 5) (aCons (eName 6) aNil))) aNil))) (eName 7))
  (sExp (eApp 3 (eName 7)))) sNil)))))
  (sRetD 2)))
theorem len_law_home (rs : List Rv) (g : Option Nat) (Q : Rv → Option Nat → Prop) (h : C_law_home rs g Q) : rs.length = 2 := by
  obtain ⟨_, _, rfl, _⟩ := h
  rfl
theorem spec_law_home (rs : List Rv) (g : Option Nat) (Q : Rv → Option Nat → Prop) (h : C_law_home rs g Q) : w_law_home (startC 8 rs g) (endP Q) fun _ _ => False := by
  obtain ⟨w, r, rfl, wo, ht, hr, h0, h1, hQ⟩ := h
  simp only [w_law_home]
  simp -dsimp only [startC, List.map_cons, List.map_nil, List.cons_append, List.nil_append, List.length_cons, List.length_nil, Nat.reduceSub, Nat.reduceAdd, List.replicate_succ, List.replicate_zero]
  try simp -dsimp only [rR_]
  refine ⟨by decide, by decide, ?_⟩
  refine whW_ind (fun c => ∃ (h : List (Int × List (Int × Int))) (pend : List Int) (x4 x5 x6 x7 : Option Px), Hm w r h ∧ (∀ a ∈ pend, a ∈ h.map (·.1)) ∧ (∀ a ∈ h.map (·.1), a ∈ pend ∨ Cl w (h.map (·.1)) a) ∧ pend.length ≤ h.length ∧
    c = ⟨[some (.d (eW w)), some (.d (.int r)), some (.dic (.k (eHm h))), some (.own (pend.map .int)), x4.map .d, x5.map .d, x6.map .d, x7.map .d], g⟩) (fun c => 2 * unmet w.rooms.toNat (slotK c.env[2]?) + slotN c.env[3]?) (fun c hI R hR => ?_) _ ⟨[(r, [])], [r], none, none, none, none, ⟨by simp, ?_, ?_⟩, by simp, by simp, by simp, rfl⟩
  · obtain ⟨h, pend, x4, x5, x6, x7, H, hp, hc, hl, rfl⟩ := hI
    have hrm : h.length ≤ 1000 := by have := H.un; omega
    try simp -dsimp only [rR_]
    refine ⟨by decide, ?_⟩
    rw [eqt_nil fun x hx => by
      obtain ⟨c, _, rfl⟩ := List.mem_map.mp hx
      exact .int _]
    cases pend with
    | nil =>
      simp -dsimp only [rR_, List.map_nil, List.isEmpty_nil, Bool.not_true]
      exact hQ h H fun a ha => (hc a ha).resolve_left (by simp)
    | cons a ps =>
      have ha := hp a (by simp)
      simp -dsimp only [rR_, List.map_cons, List.isEmpty_cons, Bool.not_false]
      refine ⟨w, a, rfl, ht, ?_⟩
      try simp -dsimp only [rR_]
      refine forW_ind _ (fun i c => ∃ (h' : List (Int × List (Int × Int))) (pend' : List Int) (x5 x6 x7 : Option Px), Hm w r h' ∧ a ∈ h'.map (·.1) ∧ (∀ b ∈ pend', b ∈ h'.map (·.1)) ∧ (∀ b ∈ h'.map (·.1), b = a ∨ b ∈ pend' ∨ Cl w (h'.map (·.1)) b) ∧ (∀ j c, j < i → (outs w a)[j]? = some c → (eCr w c).w ∈ h'.map (·.1)) ∧
        pend'.length + 1 ≤ h'.length ∧ 2 * unmet w.rooms.toNat (h'.map (·.1)) + pend'.length ≤ 2 * unmet w.rooms.toNat (h.map (·.1)) + ps.length ∧
        c = ⟨[some (.d (eW w)), some (.d (.int r)), some (.dic (.k (eHm h'))), some (.own (pend'.map .int)), some (.d (.int a)), x5.map .d, x6.map .d, x7.map .d], g⟩) (fun i x c hx hI R' hR' => ?_) (fun c hI => ?_) _ ⟨h, ps, x5, x6, x7, H, ha, fun b hb => hp b (by simp [hb]), fun b hb => ?_, fun j c hj => absurd hj (Nat.not_lt_zero _), by simp at hl; omega, by omega, rfl⟩
      · obtain ⟨h', pend', x5, x6, x7, H', ha', hp', hc', ho', hl', hm', rfl⟩ := hI
        have hrm' : h'.length ≤ 1000 := by have := H'.un; omega
        obtain ⟨⟨t, s⟩, hts, rfl⟩ := map_at hx
        obtain ⟨hcr, hv⟩ := outs_ok (List.mem_of_getElem? hts)
        obtain ⟨y, hy⟩ := hcr.1
        have he : eCr w (t, s) = rev y s := e_of (s := ⟨t, s, 0⟩) hy
        have tok := (wo.at hy).rev s
        have hv := hv y hy
        simp -dsimp only [rR_, eC2]
        refine ⟨w, t, s, y, rfl, hy, ?_⟩
        simp -dsimp only [rR_, eT]
        rw [← he] at tok hv ⊢
        by_cases hk : (eCr w (t, s)).w ∈ h'.map (·.1)
        · obtain ⟨cs, _, hlk⟩ := eHm_look hk
          rw [hlk]
          simp -dsimp only [rR_, Option.isSome_some, Bool.not_true]
          refine hR' _ ⟨h', pend', some (.int t), some (.int s), some (.int (eCr w (t, s)).w), H', ha', hp', hc', fun j c hj hcj => ?_, hl', hm', rfl⟩
          by_cases hji : j = i
          · rw [hji, hts] at hcj
            cases hcj
            exact hk
          · exact ho' j c (by omega) hcj
        · rw [eHm_none hk]
          obtain ⟨cs, hcs, hlk⟩ := eHm_look ha'
          simp -dsimp only [rR_, Option.isSome_none, Bool.not_false]
          refine ⟨_, hlk, ?_⟩
          try simp -dsimp only [rR_]
          obtain ⟨q1, q2, q3, q4, q5⟩ := H'.en _ hcs
          have Ha := H'.add hcs hcr hv tok.w0 tok.w1 hk
          have hu := unmet_lt (n := w.rooms.toNat) tok.w0 (by have := tok.w1; omega) hk
          rw [show cs.map eC2 ++ [PyData.tuple [.int t, .int s]] = (cs ++ [(t, s)]).map eC2 by simp [eC2], eHm_put hk]
          refine ⟨by decide, by decide, by simp at q3 ⊢; omega, by simp [eHm]; omega, by simp; omega, ?_⟩
          refine hR' _ ⟨h' ++ [((eCr w (t, s)).w, cs ++ [(t, s)])], pend' ++ [(eCr w (t, s)).w], some (.int t), some (.int s), some (.int (eCr w (t, s)).w), Ha, by simp at ha' ⊢; exact .inl ha', fun b hb => ?_, fun b hb => ?_, fun j c hj hcj => ?_, by simp; omega, ?_, by simp⟩
          · rw [List.map_append]
            rcases List.mem_append.mp hb with hb | hb
            · exact List.mem_append_left _ (hp' b hb)
            · exact List.mem_append_right _ hb
          · rw [List.map_append] at hb ⊢
            rcases List.mem_append.mp hb with hb | hb
            · rcases hc' b hb with z | z | z
              · exact .inl z
              · exact .inr (.inl (List.mem_append_left _ z))
              · exact .inr (.inr (z.up fun x hx => List.mem_append_left _ hx))
            · exact .inr (.inl (List.mem_append_right _ hb))
          · rw [List.map_append]
            by_cases hji : j = i
            · rw [hji, hts] at hcj
              cases hcj
              exact List.mem_append_right _ (by simp)
            · exact List.mem_append_left _ (ho' j c (by omega) hcj)
          · rw [List.map_append, List.length_append]
            show 2 * unmet _ (h'.map (·.1) ++ [(eCr w (t, s)).w]) + (pend'.length + 1) ≤ _
            omega
      · obtain ⟨h', pend', x5, x6, x7, H', ha', hp', hc', ho', hl', hm', rfl⟩ := hI
        rw [List.length_map] at ho'
        refine hR _ ⟨h', pend', some (.int a), x5, x6, x7, H', hp', fun b hb => ?_, by omega, rfl⟩ ?_
        · rcases hc' b hb with rfl | z | z
          · refine .inr fun c hc => ?_
            obtain ⟨j, hj⟩ := List.getElem?_of_mem hc
            exact ho' j c (List.getElem?_eq_some_iff.mp hj).1 hj
          · exact .inl z
          · exact .inr z
        · show 2 * unmet _ (keysD (eHm h')) + (pend'.map PyData.int).length < 2 * unmet _ (keysD (eHm h)) + ((a :: ps).map PyData.int).length
          rw [eHm_keys, eHm_keys, List.length_map, List.length_map, List.length_cons]
          omega
      · rcases hc b hb with z | z
        · rcases List.mem_cons.mp z with z | z
          · exact .inl z
          · exact .inr (.inl z)
        · exact .inr (.inr z)
  · intro p hp
    have : p = (r, []) := by simpa using hp
    subst this
    exact ⟨fun c hc => (nomatch hc), .nil, by simp, h0, h1⟩
  · have h2 := unmet_lt (n := w.rooms.toNat) (ks := []) h0 (by omega) (by simp)
    rw [List.nil_append] at h2
    have := unmet_le w.rooms.toNat []
    show 1 + unmet w.rooms.toNat [r] ≤ _
    omega
end K
set_option Elab.async false
set_option maxRecDepth 100000
set_option linter.all false
set_option autoImplicit false
set_option maxHeartbeats 4000000
set_option Elab.async false
set_option maxRecDepth 100000
set_option linter.all false
set_option autoImplicit false
set_option maxHeartbeats 4000000
namespace K
open PySem L2 Dl
variable [TabF]
/-! ### opposite and plain walks of the law; reach -/
structure IsMax (v : Int) (l : List Int) : Prop where
  mem : v ∈ l
  le : ∀ y ∈ l, y ≤ v
theorem IsMax.uniq {v u : Int} {l : List Int} (h : IsMax v l) (k : IsMax u l) : v = u := by
  have := h.le _ k.mem
  have := k.le _ h.mem
  omega
def amts (l : List Int) : List Int := l.map fun i => (i.natAbs : Int)
def sizes (w : Web) (l : List Stp) : List Int := 2 :: l.flatMap fun s => [((w.e s).p.natAbs : Int), ((w.e s).q.natAbs : Int)]
def IsReach (w : Web) (k : Wlk) (v : Int) : Prop := ∃ most base, IsMax most (amts (nums k)) ∧ IsMax base (sizes w k.steps) ∧ v = 2 * (most + base) * base ^ k.steps.length
theorem IsReach.uniq {w : Web} {k : Wlk} {v u : Int} (h : IsReach w k v) (g : IsReach w k u) : v = u := by
  obtain ⟨a, b, h1, h2, rfl⟩ := h
  obtain ⟨c, d, h3, h4, rfl⟩ := g
  rw [h1.uniq h3, h2.uniq h4]
theorem max2_or (x y : Int) : (max2 x y = x ∨ max2 x y = y) ∧ x ≤ max2 x y ∧ y ≤ max2 x y := by
  unfold max2
  split
  · exact ⟨.inr rfl, by omega, by omega⟩
  · exact ⟨.inl rfl, by omega, by omega⟩
theorem IsMax.two {v a b : Int} {l : List Int} (h : IsMax v l) : IsMax (max2 (max2 v a) b) (l ++ [a, b]) := by
  have h1 := h.mem
  obtain ⟨o1, p1, q1⟩ := max2_or v a
  obtain ⟨o2, p2, q2⟩ := max2_or (max2 v a) b
  refine ⟨?_, fun y hy => ?_⟩
  · simp only [List.mem_append, List.mem_cons, List.not_mem_nil, or_false]
    rcases o2 with e | e
    · rw [e]
      rcases o1 with e | e
      · rw [e]
        exact .inl h1
      · exact .inr (.inl e)
    · exact .inr (.inr e)
  · simp only [List.mem_append, List.mem_cons, List.not_mem_nil, or_false] at hy
    rcases hy with hy | rfl | rfl
    · have := h.le y hy
      omega
    · omega
    · omega
end K
set_option Elab.async false
set_option maxRecDepth 100000
set_option linter.all false
set_option autoImplicit false
set_option maxHeartbeats 4000000
namespace K
open PySem L2 Dl
variable [TabF]
theorem eqf_shR8 {d : Px} {e b : Nat} (h : Sho e b d) {P : Rv → Prop} : eqD false (.str (PyData.shown d)) (.str (PyData.shown d)) P = P (.d (.bool true)) := by
  have e : PyData.eqv (.str (PyData.shown d)) (.str (PyData.shown d)) = true := by simp [PyData.eqv]
  simp only [eqD, sh_str h.ok, e, true_and]
  rfl
abbrev C_law_like : Cn := fun rs g Q => ∃ x : Px, rs = [.d x, .d x] ∧ ((∃ l, x = .tuple l) ∨ ∃ l, x = .list l) ∧ Sho 40 1000000 x ∧ Q (.d (.bool true)) g
def w_law_like : WS :=
  (sRet (eSc (eqD false) (eCB reprM (aCons (eName 0) aNil)) (eCB reprM (aCons (eName 1) aNil))))
theorem len_law_like (rs : List Rv) (g : Option Nat) (Q : Rv → Option Nat → Prop) (h : C_law_like rs g Q) : rs.length = 2 := by
  obtain ⟨_, rfl, _⟩ := h
  rfl
theorem spec_law_like (rs : List Rv) (g : Option Nat) (Q : Rv → Option Nat → Prop) (h : C_law_like rs g Q) : w_law_like (startC 2 rs g) (endP Q) fun _ _ => False := by
  obtain ⟨x, rfl, hx, sx, hQ⟩ := h
  have e2 := @eqf_shR8 _ x 40 1000000 sx
  simp only [w_law_like]
  simp -dsimp only [startC, List.map_cons, List.map_nil, List.cons_append, List.nil_append, List.length_cons, List.length_nil, Nat.reduceSub, Nat.reduceAdd, List.replicate_succ, List.replicate_zero]
  rcases hx with ⟨l, rfl⟩ | ⟨l, rfl⟩
  · try simp -dsimp only [rR_]
    refine ⟨sx, sx, ?_⟩
    rw [e2]
    exact hQ
  · try simp -dsimp only [rR_]
    refine ⟨sx, sx, ?_⟩
    rw [e2]
    exact hQ
abbrev C_law_common : Cn := fun rs g Q => ∃ a b : Int, rs = [.d (.int a), .d (.int b)] ∧ True ∧ Q (.d (.int (gcdI a b))) g
def w_law_common : WS :=
  (sSeq (sPar2 0 1 (eCB absC (aCons (eName 0) aNil)) (eCB absC (aCons (eName 1) aNil)))
  (sSeq (sWh (wB (eScL 1 gtD (eC (.int 0))))
  (sPar2 0 1 (eName 1) (eOp modD (eCB intC (aCons (eName 0) aNil)) (eName 1))))
  (sRet (eName 0))))
theorem len_law_common (rs : List Rv) (g : Option Nat) (Q : Rv → Option Nat → Prop) (h : C_law_common rs g Q) : rs.length = 2 := by
  obtain ⟨_, _, rfl, _⟩ := h
  rfl
theorem spec_law_common (rs : List Rv) (g : Option Nat) (Q : Rv → Option Nat → Prop) (h : C_law_common rs g Q) : w_law_common (startC 2 rs g) (endP Q) fun _ _ => False := by
  obtain ⟨a, b, rfl, _, hQ⟩ := h
  simp only [w_law_common]
  simp -dsimp only [startC, List.map_cons, List.map_nil, List.cons_append, List.nil_append, List.length_cons, List.length_nil, Nat.reduceSub, Nat.reduceAdd, List.replicate_succ, List.replicate_zero]
  simp -dsimp only [rR_, sWh]
  refine whW_ind (fun c => ∃ x y : Int, 0 ≤ x ∧ 0 ≤ y ∧ gcdI x y = gcdI a b ∧ c = ⟨[some (.d (.int x)), some (.d (.int y))], g⟩) (fun c => slot1 c.env[1]?) (fun c hI R hR => ?_) _ ⟨_, _, by omega, by omega, ?_, rfl⟩
  · obtain ⟨x, y, hx, hy, hg, rfl⟩ := hI
    try simp -dsimp only [rR_]
    by_cases h0 : 0 < y
    · obtain ⟨e1, e2, e3⟩ := gcd_step hx h0
      rw [if_pos h0]
      exact ⟨by omega, hR _ ⟨y, x.fmod y, by omega, e2, by rw [e1]; exact hg, rfl⟩ (by show (x.fmod y).natAbs < y.natAbs; omega)⟩
    · rw [if_neg h0]
      have : y = 0 := by omega
      subst this
      have e : gcdI x 0 = x := by unfold gcdI; simp; omega
      rw [← hg, e] at hQ
      exact hQ
  · unfold gcdI
    simp
end K
set_option Elab.async false
set_option maxRecDepth 100000
set_option linter.all false
set_option autoImplicit false
set_option maxHeartbeats 4000000
namespace K
open PySem L2 Dl
variable [TabF]
theorem eqv_negs (es : List Nat) : PyData.eqvAll (negL es) (negL es) = true := by
  unfold negL
  induction es with
  | nil => simp [PyData.eqvAll]
  | cons a l ih => simp [PyData.eqvAll, PyData.eqv, ih]
theorem lt_self (ps : List Nat) (r n : Int) : ltP (eOrd ps r n) (eOrd ps r n) = false := by
  have h := eqv_negs (partsN ps n.natAbs).2
  unfold eOrd
  simp [Dl.ltP, Ob.lexAt, PySem.SeqAt.pairEq, PyData.eqv, h]
theorem WPr.of {w : Web} {r r2 : Int} {ps : List Nat} (h : WPr w r ps) (c : Conn w.ties r r2) : WPr w r2 ps :=
  ⟨h.1, fun q => (h.2 q).trans ⟨fun ⟨a, t, b, d, e⟩ => ⟨a, t, b, c.symm.trans d, e⟩, fun ⟨a, t, b, d, e⟩ => ⟨a, t, b, c.trans d, e⟩⟩⟩
abbrev C_law_two_right : Cn := fun rs g Q => ∃ (w : Web) (ps : List Nat) (r n r2 n2 : Int), rs = [.d (eW w), .d (.list (eNp ps)), .d (.tuple [.int r, .int n]), .d (.tuple [.int r2, .int n2])] ∧ RmOk w r ∧ RmOk w r2 ∧ n ≠ 0 ∧ n2 ≠ 0 ∧ Conn w.ties r r2 ∧ WPr w r ps ∧ Q (.d (.bool true)) g
def w_law_two_right : WS :=
  (sSeq (sAsg (eLst (aCons (eSc ltTD (eCallP C_law_key (aCons (eName 1) (aCons (eName 2) aNil))) (eCallP C_law_key (aCons (eName 1) (aCons (eName 3) aNil)))) (aCons (eSc ltTD (eCallP C_law_key (aCons (eName 1) (aCons (eName 3) aNil))) (eCallP C_law_key (aCons (eName 1) (aCons (eName 2) aNil)))) (aCons (eC (.bool false)) aNil)))) (gN 4))
  (sSeq (sAsg (eLst (aCons (eCallX Ccomes_before (aCons (eName 0) (aCons (eName 2) (aCons (eName 3) aNil)))) (aCons (eCallX Ccomes_before (aCons (eName 0) (aCons (eName 3) (aCons (eName 2) aNil)))) (aCons (eCallX Ccomes_before (aCons (eName 0) (aCons (eName 2) (aCons (eName 2) aNil)))) aNil)))) (gN 5))
  (sRet (eCallP C_law_like (aCons (eName 5) (aCons (eName 4) aNil))))))
theorem len_law_two_right (rs : List Rv) (g : Option Nat) (Q : Rv → Option Nat → Prop) (h : C_law_two_right rs g Q) : rs.length = 4 := by
  obtain ⟨_, _, _, _, _, _, rfl, _⟩ := h
  rfl
theorem spec_law_two_right (rs : List Rv) (g : Option Nat) (Q : Rv → Option Nat → Prop) (h : C_law_two_right rs g Q) : w_law_two_right (startC 6 rs g) (endP Q) fun _ _ => False := by
  obtain ⟨w, ps, r, n, r2, n2, rfl, R, R2, h0, h2, cn, W, hQ⟩ := h
  obtain ⟨p1, p2⟩ := W.two R
  have o1 := ord_ok ps r n
  have o2 := ord_ok ps r2 n2
  simp only [w_law_two_right]
  simp -dsimp only [startC, List.map_cons, List.map_nil, List.cons_append, List.nil_append, List.length_cons, List.length_nil, Nat.reduceSub, Nat.reduceAdd, List.replicate_succ, List.replicate_zero]
  try simp -dsimp only [rR_]
  refine ⟨ps, r, n, rfl, h0, p1, by omega, ?_⟩
  try simp -dsimp only [rR_]
  refine ⟨ps, r2, n2, rfl, h2, p1, by omega, ?_⟩
  try simp -dsimp only [rR_]
  refine ⟨o1.1, o2.1, ord_cmp ps ps r n r2 n2, o1.2, ?_⟩
  generalize hb1 : ltP (eOrd ps r n) (eOrd ps r2 n2) = b1
  try simp -dsimp only [rR_]
  refine ⟨ps, r2, n2, rfl, h2, p1, by omega, ?_⟩
  try simp -dsimp only [rR_]
  refine ⟨ps, r, n, rfl, h0, p1, by omega, ?_⟩
  try simp -dsimp only [rR_]
  refine ⟨o2.1, o1.1, ord_cmp ps ps r2 n2 r n, o2.2, ?_⟩
  generalize hb2 : ltP (eOrd ps r2 n2) (eOrd ps r n) = b2
  try simp -dsimp only [rR_]
  refine ⟨by decide, ?_⟩
  simp -dsimp only [rR_, eCallX]
  have nz : ¬ (n = 0 ∨ n2 = 0) := fun z => z.elim h0 h2
  have nz2 : ¬ (n2 = 0 ∨ n = 0) := fun z => z.elim h2 h0
  have nz3 : ¬ (n = 0 ∨ n = 0) := fun z => z.elim h0 h0
  refine ⟨w, r, n, r2, n2, rfl, R, fun z => absurd z nz, fun _ _ z => absurd cn z, fun _ _ _ qs hq => ?_⟩
  obtain rfl : qs = ps := hq.uniq W
  rw [hb1]
  try simp -dsimp only [rR_]
  refine ⟨w, r2, n2, r, n, rfl, R2, fun z => absurd z nz2, fun _ _ z => absurd cn.symm z, fun _ _ _ qs2 hq2 => ?_⟩
  obtain rfl : qs2 = qs := hq2.uniq (W.of cn)
  rw [hb2]
  try simp -dsimp only [rR_]
  refine ⟨w, r, n, r, n, rfl, R, fun z => absurd z nz3, fun _ _ z => absurd .refl z, fun _ _ _ qs3 hq3 => ?_⟩
  rw [lt_self]
  try simp -dsimp only [rR_]
  refine ⟨by decide, _, rfl, .inr ⟨_, rfl⟩, ?_, ?_⟩
  · refine (Sho.lst (e := 0) (b := 5) (n := 3) (fun x hx => ?_) (by simp)).mono (by decide) (by decide)
    simp only [List.mem_cons, List.not_mem_nil, or_false] at hx
    have tr : ∀ b : Bool, Sho 0 5 (.bool b) := fun b => by
      cases b <;> exact ⟨by decide +kernel, rfl, by decide, by decide +kernel, by decide +kernel⟩
    rcases hx with rfl | rfl | rfl
    · exact tr _
    · exact tr _
    · exact tr _
  · try simp -dsimp only [rR_]
    exact hQ
end K
set_option Elab.async false
set_option maxRecDepth 100000
set_option linter.all false
set_option autoImplicit false
set_option maxHeartbeats 4000000
namespace K
open PySem L2 Dl
variable [TabF]
theorem sub_len : ∀ (S ks : List Int), S.Nodup → (∀ x ∈ S, x ∈ ks) → S.length ≤ ks.length
  | [], _, _, _ => Nat.zero_le _
  | x :: S, ks, nd, h => by
    obtain ⟨n1, n2⟩ := List.nodup_cons.mp nd
    have hx := h x (by simp)
    have := sub_len S (ks.erase x) n2 fun y hy => (List.mem_erase_of_ne (fun e => n1 (by rw [← e]; exact hy))).mpr (h y (List.mem_cons_of_mem _ hy))
    have l := List.length_erase_of_mem hx
    have l0 : 0 < ks.length := List.length_pos_of_mem hx
    show S.length + 1 ≤ ks.length
    omega
theorem nodup_of_len : ∀ (S ks : List Int), S.Nodup → (∀ x ∈ S, x ∈ ks) → ks.length ≤ S.length → ks.Nodup
  | [], ks, _, _, h => by
    have : ks = [] := List.length_eq_zero_iff.mp (by simpa using h)
    rw [this]
    exact List.nodup_nil
  | x :: S, ks, nd, h, hl => by
    obtain ⟨n1, n2⟩ := List.nodup_cons.mp nd
    have hx := h x (by simp)
    have sub : ∀ y ∈ S, y ∈ ks.erase x := fun y hy => (List.mem_erase_of_ne (fun e => n1 (by rw [← e]; exact hy))).mpr (h y (List.mem_cons_of_mem _ hy))
    have l := List.length_erase_of_mem hx
    have l0 : 0 < ks.length := List.length_pos_of_mem hx
    have hl : ks.length ≤ S.length + 1 := hl
    have ih := nodup_of_len S (ks.erase x) n2 sub (by omega)
    refine (List.perm_cons_erase hx).nodup_iff.mpr (List.nodup_cons.mpr ⟨fun z => ?_, ih⟩)
    have := sub_len (x :: S) (ks.erase x) nd fun y hy => by
      rcases List.mem_cons.mp hy with e | e
      · exact e ▸ z
      · exact sub y e
    have : S.length + 1 ≤ (ks.erase x).length := this
    omega
theorem hm_nodup {w : Web} {r : Int} {h : List (Int × List (Int × Int))} (H : Hm w r h) : (h.map (·.1)).Nodup := by
  refine nodup_of_len (((List.range w.rooms.toNat).filter fun a : Nat => (h.map (·.1)).contains (a : Int)).map fun a : Nat => (a : Int)) _ ?_ (fun x hx => ?_) ?_
  · refine List.Pairwise.map _ (fun a b hab z => hab (by omega)) (List.Pairwise.filter _ List.nodup_range)
  · obtain ⟨a, ha, rfl⟩ := List.mem_map.mp hx
    have := (List.mem_filter.mp ha).2
    exact List.contains_iff_mem.mp this
  · have un := H.un
    rw [List.length_map, List.length_map]
    have part : ∀ l : List Nat, (l.filter fun a : Nat => (h.map (·.1)).contains (a : Int)).length + (l.filter fun a : Nat => !((h.map (·.1)).contains (a : Int))).length = l.length := by
      intro l
      induction l with
      | nil => rfl
      | cons a l ih =>
        by_cases c : (h.map (·.1)).contains (a : Int) = true
        · rw [List.filter_cons_of_pos (by exact c), List.filter_cons_of_neg (by rw [c]; decide)]
          simp only [List.length_cons]
          omega
        · rw [List.filter_cons_of_neg (by exact c), List.filter_cons_of_pos (by simpa using c)]
          simp only [List.length_cons]
          omega
    have p := part (List.range w.rooms.toNat)
    rw [List.length_range] at p
    unfold unmet at un
    omega
theorem ch_conn {w : Web} {r h : Int} {cs : List (Int × Int)} (H : Ch w r cs h) : (∀ c ∈ cs, CrOk w c.1 c.2) → Conn w.ties r h := by
  induction H with
  | nil => exact fun _ => .refl
  | snoc c H e ih =>
    intro ok
    obtain ⟨⟨x, hx⟩, hs⟩ := ok c (by simp)
    have e2 : w.e ⟨c.1, c.2, 0⟩ = rev x c.2 := e_of hx
    have hm : x ∈ w.ties := by
      obtain ⟨i, _, e⟩ := hx
      exact List.mem_of_getElem? e
    rw [e2] at e ⊢
    refine .step (ih fun d hd => ok d (List.mem_append_left _ hd)) ⟨x, hm, ?_⟩
    unfold rev at e ⊢
    rcases hs with h | h
    · rw [if_pos h] at e ⊢
      exact .inl ⟨e, rfl⟩
    · rw [if_neg (by omega)] at e ⊢
      exact .inr ⟨e, rfl⟩
abbrev C_law_piece : Cn := fun rs g Q => ∃ (w : Web) (r : Int), rs = [.d (eW w), .d (.int r)] ∧ RmOk w r ∧ ∀ l, IsPiece w.ties r l → Q (.own (l.map .int)) g
def w_law_piece : WS :=
  (sRet (eCB sortIC (aCons (eLstK (eCallP C_law_home (aCons (eName 0) (aCons (eName 1) aNil)))) aNil)))
theorem len_law_piece (rs : List Rv) (g : Option Nat) (Q : Rv → Option Nat → Prop) (h : C_law_piece rs g Q) : rs.length = 2 := by
  obtain ⟨_, _, rfl, _⟩ := h
  rfl
theorem spec_law_piece (rs : List Rv) (g : Option Nat) (Q : Rv → Option Nat → Prop) (h : C_law_piece rs g Q) : w_law_piece (startC 2 rs g) (endP Q) fun _ _ => False := by
  obtain ⟨w, r, rfl, R, hQ⟩ := h
  simp only [w_law_piece]
  simp -dsimp only [startC, List.map_cons, List.map_nil, List.cons_append, List.nil_append, List.length_cons, List.length_nil, Nat.reduceSub, Nat.reduceAdd, List.replicate_succ, List.replicate_zero]
  simp -dsimp only [rR_, eLstK]
  refine ⟨w, r, rfl, R.wo, R.tl, R.rl, R.r0, R.r1, fun h H hc => ?_⟩
  try simp -dsimp only [rR_]
  refine ⟨h.map (·.1), by unfold eHm; rw [List.map_map, List.map_map]; rfl, fun ms pm so => ?_⟩
  refine hQ ms ⟨asc_of pm so (hm_nodup H), fun x => pm.mem_iff.trans ⟨fun hx => ?_, fun cx => ?_⟩⟩
  · obtain ⟨p, hp, rfl⟩ := List.mem_map.mp hx
    obtain ⟨q1, q2, _⟩ := H.en p hp
    exact ch_conn q2 q1
  · induction cx with
    | refl => exact H.st
    | step _ a ih =>
      obtain ⟨c, hc', y, hy, e⟩ := adj_out a
      have := hc _ ih c hc'
      have he : eCr w c = rev y c.2 := e_of (s := ⟨c.1, c.2, 0⟩) hy
      rw [he, e] at this
      exact this
end K
set_option Elab.async false
set_option maxRecDepth 100000
set_option linter.all false
set_option autoImplicit false
set_option maxHeartbeats 4000000
namespace K
open PySem L2 Dl
variable [TabF]
/-- a drawn number: no great divisor without the primes; not too great -/
structure Nice (ps : List Nat) (k : Int) (e : Nat) : Prop where
  nz : k ≠ 0
  rs : ∀ d, d ∣ k.natAbs → (∀ p ∈ ps, ¬ p ∣ d) → d ≤ 10000000000
  sz : k.natAbs < 2 ^ e
theorem Nice.up {ps : List Nat} {k : Int} {e f : Nat} (h : Nice ps k e) (l : e ≤ f) : Nice ps k f := ⟨h.nz, h.rs, Nat.lt_of_lt_of_le h.sz (Nat.pow_le_pow_right (by decide) l)⟩
theorem mul_1000 {a p e : Nat} (h : a < 2 ^ e) (hp : p ≤ 1000) : a * p < 2 ^ (e + 10) := by
  rw [Nat.pow_add]
  have h1 : a * p ≤ a * 1000 := Nat.mul_le_mul_left a hp
  have h2 : (2 : Nat) ^ 10 = 1024 := by decide
  rw [h2]
  generalize 2 ^ e = y at h
  omega
theorem Nice.mul {ps : List Nat} {k : Int} {e p : Nat} (h : Nice ps k e) (hp : p ∈ ps) (pr : IsPr p) (p1 : p ≤ 1000) : Nice ps (k * (p : Int)) (e + 10) := by
  have p2 := pr.1
  have ea : (k * (p : Int)).natAbs = k.natAbs * p := by rw [Int.natAbs_mul]; rfl
  refine ⟨Int.mul_ne_zero h.nz (by omega), fun d hd nd => ?_, ?_⟩
  · rw [ea] at hd
    refine h.rs d (Nat.Coprime.dvd_of_dvd_mul_right ?_ hd) nd
    show Nat.gcd d p = 1
    rcases pr.2 (Nat.gcd d p) (Nat.gcd_dvd_right d p) with z | z
    · exact z
    · exact absurd (z ▸ Nat.gcd_dvd_left d p) (nd p hp)
  · rw [ea]
    exact mul_1000 h.sz p1
theorem WPr.le {w : Web} {r : Int} {ps : List Nat} (R : RmOk w r) (h : WPr w r ps) : ∀ p ∈ ps, IsPr p ∧ 2 ≤ p ∧ p ≤ 1000 := fun p hp => by
  obtain ⟨a, t, ht, _, c⟩ := (h.2 p).mp hp
  have o := R.wo.tie t ht
  have o1 := o.p1
  have o2 := o.q1
  exact ⟨a, a.1, pr_le a o.p0 o.q0 (by omega) (by omega) c⟩
theorem WPr.len {w : Web} {r : Int} {ps : List Nat} (R : RmOk w r) (h : WPr w r ps) : ps.length ≤ 500 := by
  have le := h.le R
  have pw : (ps.map fun q => (q + 1) / 2).Pairwise (· < ·) := by
    refine List.pairwise_map.mpr (h.1.imp_of_mem fun {a b} ha hb hab => ?_)
    obtain ⟨pa, a2, _⟩ := le a ha
    obtain ⟨pb, b2, _⟩ := le b hb
    by_cases z : (a + 1) / 2 < (b + 1) / 2
    · exact z
    · exfalso
      have e : b = 2 * (b / 2) := by omega
      rcases pb.2 2 ⟨b / 2, e⟩ with q | q
      · omega
      · omega
  have := asc_len (d := 501) _ 1 pw (fun q hq => by
    obtain ⟨a, ha, rfl⟩ := List.mem_map.mp hq
    obtain ⟨_, a2, a3⟩ := le a ha
    omega) (by decide)
  rw [List.length_map] at this
  omega
abbrev C_law_turn : Cn := fun rs g Q => ∃ (w : Web) (r : Int) (ps : List Nat) (n : Nat), rs = [.gen, .d (eW w), .d (.int r), .d (.list (eNp ps))] ∧ g = some n ∧ RmOk w r ∧ WPr w r ps ∧ n + 4000 ≤ 2 ^ 40 ∧
  ∀ (r2 k : Int) (m : Nat), Conn w.ties r r2 → Nice ps k 300000 → m ≤ n + 2100 → Q (.d (.tuple [.int r2, .int k])) (some m)
def w_law_turn : WS :=
  (sSeq (sAsg (eOp mulD (eCallG C_law_of (aCons (eName 0) (aCons (eLst (aCons (eC (.int 1)) (aCons (eC (.int 1)) (aCons (eUn negD (eC (.int 1))) aNil)))) aNil))) (eCallG C_law_of (aCons (eName 0) (aCons (eLst (aCons (eC (.int 1)) (aCons (eC (.int 1)) (aCons (eC (.int 1)) (aCons (eC (.int 1)) (aCons (eC (.int 7)) (aCons (eC (.int 1009)) (aCons (eOp addD (eOp powD (eC (.int 10)) (eC (.int 9))) (eC (.int 7))) (aCons (eC (.int 3)) (aCons (eC (.int 2)) aNil)))))))))) aNil)))) (gN 4))
  (sSeq (sFor (iLst (eName 3)) (gN 5)
  (sFor (iRg1 (aCons (eIf (wB (eSc gtD (eCallG C_law_draw (aCons (eName 0) (aCons (eC (.int 6)) aNil))) (eC (.int 0)))) (eCallG C_law_draw (aCons (eName 0) (aCons (eC (.int 3)) aNil))) (eCallG C_law_draw (aCons (eName 0) (aCons (eC (.int 40)) aNil)))) aNil)) (gN 6)
  (sAsg (eOp mulD (eName 4) (eName 5)) (gN 4))))
  (sRet (eTup (aCons (eCallG C_law_of (aCons (eName 0) (aCons (eCallP C_law_piece (aCons (eName 1) (aCons (eName 2) aNil))) aNil))) (aCons (eName 4) aNil))))))
theorem len_law_turn (rs : List Rv) (g : Option Nat) (Q : Rv → Option Nat → Prop) (h : C_law_turn rs g Q) : rs.length = 4 := by
  obtain ⟨_, _, _, _, rfl, _⟩ := h
  rfl
theorem spec_law_turn (rs : List Rv) (g : Option Nat) (Q : Rv → Option Nat → Prop) (h : C_law_turn rs g Q) : w_law_turn (startC 7 rs g) (endP Q) fun _ _ => False := by
  obtain ⟨w, r, ps, n, rfl, rfl, R, W, hn, hQ⟩ := h
  have hp := W.le R
  have hl := W.len R
  simp only [w_law_turn]
  simp -dsimp only [startC, List.map_cons, List.map_nil, List.cons_append, List.nil_append, List.length_cons, List.length_nil, Nat.reduceSub, Nat.reduceAdd, List.replicate_succ, List.replicate_zero]
  try simp -dsimp only [rR_]
  refine ⟨by decide, _, n, rfl, rfl, by omega, by simp, by simp, fun x hx m1 hm1 => ?_⟩
  obtain ⟨a, rfl, a0, a1, a2⟩ : ∃ i : Int, x = .int i ∧ i ≠ 0 ∧ -1 ≤ i ∧ i ≤ 1 := by
    simp only [List.mem_cons, List.not_mem_nil, or_false] at hx
    rcases hx with rfl | rfl | rfl <;> exact ⟨_, rfl, by decide, by decide, by decide⟩
  try simp -dsimp only [rR_]
  refine ⟨⟨by decide, by decide +kernel⟩, by decide, _, m1, rfl, rfl, by omega, by simp, by simp, fun x hx m2 hm2 => ?_⟩
  obtain ⟨b, rfl, b0, b1⟩ : ∃ i : Int, x = .int i ∧ i ≠ 0 ∧ i.natAbs ≤ 1000000007 := by
    simp only [List.mem_cons, List.not_mem_nil, or_false] at hx
    rcases hx with rfl | rfl | rfl | rfl | rfl | rfl | rfl | rfl | rfl <;> exact ⟨_, rfl, by decide, by decide⟩
  try simp -dsimp only [rR_]
  refine ⟨CMul2.l (by omega) (by omega), ?_⟩
  simp only [forH]
  have k0 : Nice ps (a * b) 31 := by
    have ab : (a * b).natAbs ≤ 1000000007 := by
      rw [Int.natAbs_mul]
      have := Nat.mul_le_mul (show a.natAbs ≤ 1 by omega) b1
      omega
    have nz : a * b ≠ 0 := Int.mul_ne_zero a0 b0
    exact ⟨nz, fun d hd _ => by
      have := Nat.le_of_dvd (by omega) hd
      omega, by omega⟩
  generalize a * b = k at k0
  refine forW_ind _ (fun i c => ∃ (k : Int) (m : Nat) (x5 x6 : Option Px), Nice ps k (31 + 400 * i) ∧ m ≤ m2 + 2 * i ∧ c = ⟨[some .gen, some (.d (eW w)), some (.d (.int r)), some (.d (.list (eNp ps))), some (.d (.int k)), x5.map .d, x6.map .d], some m⟩) (fun i x c hx hI R' hR => ?_) (fun c hI => ?_) _ ⟨k, m2, none, none, k0, by omega, rfl⟩
  · obtain ⟨k, m, x5, x6, k0, hm, rfl⟩ := hI
    obtain ⟨p, hpp, rfl⟩ := map_at hx
    obtain ⟨pr, p2, p6⟩ := hp p (List.mem_of_getElem? hpp)
    have hi : i < ps.length := (List.getElem?_eq_some_iff.mp hpp).1
    try simp -dsimp only [rR_]
    refine ⟨_, _, rfl, rfl, by omega, by omega, pow9000 (by omega) (by omega), fun c1 m3 hc1a hc1b hm3 => ?_⟩
    try simp -dsimp only [rR_]
    by_cases hc : 0 < c1
    · rw [if_pos hc]
      refine ⟨_, _, rfl, rfl, by omega, by omega, pow9000 (by omega) (by omega), fun c2 m4 hc2a hc2b hm4 => ?_⟩
      try simp -dsimp only [rR_]
      simp only [forH]
      refine ⟨by unfold smI; omega, ?_⟩
      refine forW_ind _ (fun i2 c => ∃ (k : Int) (x6 : Option Px), Nice ps k (31 + 400 * i + 10 * i2) ∧ c = ⟨[some .gen, some (.d (eW w)), some (.d (.int r)), some (.d (.list (eNp ps))), some (.d (.int k)), some (.d (.int (p : Int))), x6.map .d], some m4⟩) (fun i2 x c hx hI R2 hR2 => ?_) (fun c hI => ?_) _ ⟨k, x6, k0, rfl⟩
      · obtain ⟨k, x6, k0, rfl⟩ := hI
        obtain ⟨hi2, rfl⟩ := rng_at hx
        try simp -dsimp only [rR_]
        exact ⟨CMul2.r (by omega) (by omega), hR2 _ ⟨k * (p : Int), some _, k0.mul (List.mem_of_getElem? hpp) pr p6, rfl⟩⟩
      · obtain ⟨k, x6, k0, rfl⟩ := hI
        rw [rngX_length] at k0
        exact hR _ ⟨k, m4, some _, x6, k0.up (by omega), by omega, rfl⟩
    · rw [if_neg hc]
      refine ⟨_, _, rfl, rfl, by omega, by omega, pow9000 (by omega) (by omega), fun c2 m4 hc2a hc2b hm4 => ?_⟩
      try simp -dsimp only [rR_]
      simp only [forH]
      refine ⟨by unfold smI; omega, ?_⟩
      refine forW_ind _ (fun i2 c => ∃ (k : Int) (x6 : Option Px), Nice ps k (31 + 400 * i + 10 * i2) ∧ c = ⟨[some .gen, some (.d (eW w)), some (.d (.int r)), some (.d (.list (eNp ps))), some (.d (.int k)), some (.d (.int (p : Int))), x6.map .d], some m4⟩) (fun i2 x c hx hI R2 hR2 => ?_) (fun c hI => ?_) _ ⟨k, x6, k0, rfl⟩
      · obtain ⟨k, x6, k0, rfl⟩ := hI
        obtain ⟨hi2, rfl⟩ := rng_at hx
        try simp -dsimp only [rR_]
        exact ⟨CMul2.r (by omega) (by omega), hR2 _ ⟨k * (p : Int), some _, k0.mul (List.mem_of_getElem? hpp) pr p6, rfl⟩⟩
      · obtain ⟨k, x6, k0, rfl⟩ := hI
        rw [rngX_length] at k0
        exact hR _ ⟨k, m4, some _, x6, k0.up (by omega), by omega, rfl⟩
  · obtain ⟨k, m, x5, x6, k0, hm, rfl⟩ := hI
    have le : (eNp ps).length = ps.length := by simp [eNp]
    rw [le] at hm k0
    try simp -dsimp only [rR_]
    refine ⟨w, r, rfl, R, fun l hl => ?_⟩
    try simp -dsimp only [rR_]
    have ne : l.map PyData.int ≠ [] := fun z => by
      have := (hl.mem r).mpr .refl
      rw [List.map_eq_nil_iff.mp z] at this
      cases this
    have ll : l.length ≤ 1000 := by
      have := nodup_len w.rooms.toNat l (hl.asc.imp fun h => by omega) fun x hx => by
        have := ((hl.mem x).mp hx).range R.wo ⟨R.r0, R.r1⟩
        omega
      have := R.rl
      omega
    refine ⟨_, m, rfl, rfl, by omega, ne, by simp; omega, fun x hx m5 hm5 => ?_⟩
    obtain ⟨y, hy, rfl⟩ := List.mem_map.mp hx
    try simp -dsimp only [rR_]
    exact ⟨by decide, hQ y k m5 ((hl.mem y).mp hy) (k0.up (by omega)) (by omega)⟩
end K
set_option Elab.async false
set_option maxRecDepth 100000
set_option linter.all false
set_option autoImplicit false
set_option maxHeartbeats 4000000
namespace K
open PySem L2 Dl
variable [TabF]
def addN (F : List Nat) (d : Nat) : List Nat := if d ∈ F then F else F ++ [d]
theorem addN_mem {F : List Nat} {d q : Nat} : q ∈ addN F d ↔ q ∈ F ∨ q = d := by
  unfold addN
  by_cases h : d ∈ F
  · rw [if_pos h]
    exact ⟨.inl, fun z => z.elim id fun e => e ▸ h⟩
  · rw [if_neg h]
    simp
theorem addN_nd {F : List Nat} {d : Nat} (h : F.Nodup) : (addN F d).Nodup := by
  unfold addN
  by_cases hd : d ∈ F
  · rw [if_pos hd]
    exact h
  · rw [if_neg hd]
    exact List.nodup_append.mpr ⟨h, List.nodup_cons.mpr ⟨by simp, List.nodup_nil⟩, fun a ha b hb e => by
      have : b = d := by simpa using hb
      subst this
      exact hd (e ▸ ha)⟩
theorem addN_addN {F : List Nat} {d : Nat} : addN (addN F d) d = addN F d := by
  have : d ∈ addN F d := addN_mem.mpr (.inr rfl)
  generalize addN F d = G at this
  unfold addN
  rw [if_pos this]
abbrev C_law_primes : Cn := fun rs g Q => ∃ (w : Web) (r : Int), rs = [.d (eW w), .d (.int r)] ∧ RmOk w r ∧ ∀ ps, WPr w r ps → Q (.own (eNp ps)) g
def w_lw : WS :=
  (sWh (wB (eSc (eqD false) (eOp modD (eCB intC (aCons (eName 8) aNil)) (eName 9)) (eC (.int 0))))
  (sSeq (sAsg (eOp fdivD (eName 8) (eName 9)) (gN 8))
  (sIf (wB (eScR 3 (inD true) (eName 9))) (sExp (eApp 3 (eName 9))) sNil)))
def w_le : WS :=
  (sFor (iRg2 (aCons (eC (.int 2)) (aCons (eC (.int 1001)) aNil))) (gN 9)
  (sSeq w_lw
  (sIf (wB (eScL 8 (eqD false) (eC (.int 1)))) sBrk sNil)))
def w_law_primes : WS :=
  (sSeq (sPar2 2 3 (eCallP C_law_piece (aCons (eName 0) (aCons (eName 1) aNil))) (eLst aNil))
  (sSeq (sFor (iTpl (eIxN 0 (eC (.int 1)))) (gT 4 (gsCons (gN 4) (gsCons (gN 5) (gsCons (gN 6) (gsCons (gN 7) gsNil)))))
  (sSeq (sIf (wB (eScR 2 (inD true) (eName 4))) sCnt sNil)
  (sFor (iTpl (eTup (aCons (eCB absC (aCons (eName 6) aNil)) (aCons (eCB absC (aCons (eName 7) aNil)) aNil)))) (gN 8)
  w_le)))
  (sRet (eCB sortIC (aCons (eName 3) aNil)))))
theorem len_law_primes (rs : List Rv) (g : Option Nat) (Q : Rv → Option Nat → Prop) (h : C_law_primes rs g Q) : rs.length = 2 := by
  obtain ⟨_, _, rfl, _⟩ := h
  rfl
def envP (w : Web) (r v u p q : Int) (X2 : List Px) (F : List Nat) (N : Int) (x9 : Option Px) : List (Option Rv) := [some (.d (eW w)), some (.d (.int r)), some (.own X2), some (.own (eNp F)), some (.d (.int v)), some (.d (.int u)), some (.d (.int p)), some (.d (.int q)), some (.d (.int N)), x9.map .d]
theorem run_lw {w : Web} {r v u p q : Int} {X2 : List Px} {F : List Nat} {d L : Nat} {g : Option Nat} {P : Fl → Prop} (d2 : 2 ≤ d) (dh : d ≤ 1001) (l0 : 0 < L) (fl : F.length ≤ 2000)
    (hP : P (.nx ⟨envP w r v u p q X2 (if L % d = 0 then addN F d else F) ((divOut d L).1 : Int) (some (.int (d : Int))), g⟩)) :
    w_lw ⟨envP w r v u p q X2 F (L : Int) (some (.int (d : Int))), g⟩ P (fun _ _ => False) := by
  simp only [w_lw]
  simp -dsimp only [rR_, sWh]
  refine whW_ind (fun c => ∃ (m : Nat) (G : List Nat), 0 < m ∧ (divOut d m).1 = (divOut d L).1 ∧ ((m = L ∧ G = F) ∨ (L % d = 0 ∧ G = addN F d)) ∧ c = ⟨envP w r v u p q X2 G (m : Int) (some (.int (d : Int))), g⟩) (fun c => slot1 c.env[8]?) (fun c hI R' hR' => ?_) _ ⟨L, F, l0, rfl, .inl ⟨rfl, rfl⟩, rfl⟩
  obtain ⟨m, G, m1, d1, hG, rfl⟩ := hI
  have ef : Int.fmod (m : Int) (d : Int) = ((m % d : Nat) : Int) := by
    rw [Int.fmod_eq_emod_of_nonneg _ (by omega)]
    rfl
  have ed : Int.fdiv (m : Int) (d : Int) = ((m / d : Nat) : Int) := by
    rw [Int.fdiv_eq_ediv_of_nonneg _ (by omega)]
    rfl
  simp -dsimp only [rR_, envP, Option.map_some]
  refine ⟨by omega, ?_⟩
  rw [ef]
  by_cases h0 : m % d = 0
  · have e0 : (((m % d : Nat) : Int) == 0) = true := by rw [h0]; rfl
    obtain ⟨s1, s2, s3⟩ := divOut_step d2 m1 h0
    rw [if_pos e0]
    refine ⟨CDiv2.s (by omega) (by omega) (by omega), ?_⟩
    rw [ed]
    rw [s1] at d1
    have hmu : ((m / d : Nat) : Int).natAbs < (m : Int).natAbs := by omega
    have lG : G.length ≤ 2001 := by
      rcases hG with ⟨_, rfl⟩ | ⟨_, rfl⟩
      · omega
      · unfold addN
        by_cases z : d ∈ F
        · rw [if_pos z]
          omega
        · rw [if_neg z, List.length_append]
          simp
          omega
    have nG : L % d = 0 ∧ addN G d = addN F d := by
      rcases hG with ⟨rfl, rfl⟩ | ⟨z, rfl⟩
      · exact ⟨h0, rfl⟩
      · exact ⟨z, addN_addN⟩
    rw [inN_l]
    try simp -dsimp only [rR_]
    by_cases hm : d ∈ G
    · simp -dsimp only [rR_, hm, decide_true, Bool.not_true]
      exact hR' _ ⟨m / d, G, s3, d1, .inr ⟨nG.1, by rw [← nG.2]; unfold addN; rw [if_pos hm]⟩, rfl⟩ hmu
    · simp -dsimp only [rR_, hm, decide_false, Bool.not_false]
      refine ⟨by simp [eNp]; omega, ?_⟩
      exact hR' _ ⟨m / d, G ++ [d], s3, d1, .inr ⟨nG.1, by rw [← nG.2]; unfold addN; rw [if_neg hm]⟩, by simp [envP, eNp]⟩ hmu
  · have e0 : ¬ (((m % d : Nat) : Int) == 0) = true := by
      rw [beq_iff_eq]
      omega
    rw [if_neg e0]
    rw [divOut_end m1 h0] at d1
    have eG : G = if L % d = 0 then addN F d else F := by
      rcases hG with ⟨rfl, rfl⟩ | ⟨z, rfl⟩
      · rw [if_neg h0]
      · rw [if_pos z]
    rw [← d1, ← eG] at hP
    exact hP
theorem run_le {w : Web} {r v u p q : Int} {X2 : List Px} {F : List Nat} {N : Nat} {x9 : Option Px} {g : Option Nat} {P : Fl → Prop} (n0 : 0 < N) (n1 : N ≤ 1000) (nd : F.Nodup) (fb : ∀ q ∈ F, q ≤ 1000)
    (hP : ∀ (F' : List Nat) (N' : Int) (x9 : Option Px), F'.Nodup → (∀ q, q ∈ F' ↔ (q ∈ F ∨ (IsPr q ∧ q ∣ N))) → P (.nx ⟨envP w r v u p q X2 F' N' x9, g⟩)) :
    w_le ⟨envP w r v u p q X2 F (N : Int) x9, g⟩ P (fun _ _ => False) := by
  simp only [w_le]
  generalize hW : w_lw = W
  try simp -dsimp only [rR_]
  simp only [forH]
  refine ⟨by unfold smI; omega, by unfold smI; omega, ?_⟩
  refine forW_ind _ (fun i c => ∃ (L : Nat) (ds F' : List Nat) (x9 : Option Px), PInv N (2 + i) L ds ∧ F'.Nodup ∧ (∀ q, q ∈ F' ↔ (q ∈ F ∨ q ∈ ds)) ∧ c = ⟨envP w r v u p q X2 F' (L : Int) x9, g⟩) (fun i x c hx hI R hR => ?_) (fun c hI => ?_) _ ⟨N, [], F, x9, PInv.start n0, nd, fun q => by simp, rfl⟩
  · obtain ⟨L, ds, F', x9, I, nd', mem, rfl⟩ := hI
    obtain ⟨hi, rfl⟩ := rng_at hx
    have hi2 : i < 999 := hi
    have ei : ((2 : Int) + (i : Int)) = ((2 + i : Nat) : Int) := by omega
    rw [ei]
    have fl : F'.length ≤ 1002 := nat_len nd' fun q hq => by
      rcases (mem q).mp hq with z | z
      · have := fb q z
        omega
      · have := ((I.mem q).mp z).2.1
        omega
    have st := I.step
    have st1 : PInv N (2 + (i + 1)) (divOut (2 + i) L).1 (if L % (2 + i) = 0 then ds ++ [2 + i] else ds) := st
    simp -dsimp only [rR_, envP]
    rw [← hW]
    refine run_lw (d := 2 + i) (L := L) (F := F') (by omega) (by omega) I.l0 (by omega) ?_
    have nd2 : (if L % (2 + i) = 0 then addN F' (2 + i) else F').Nodup := by
      by_cases z : L % (2 + i) = 0
      · rw [if_pos z]
        exact addN_nd nd'
      · rw [if_neg z]
        exact nd'
    have mem2 : ∀ q, q ∈ (if L % (2 + i) = 0 then addN F' (2 + i) else F') ↔ (q ∈ F ∨ q ∈ (if L % (2 + i) = 0 then ds ++ [2 + i] else ds)) := fun q => by
      by_cases z : L % (2 + i) = 0
      · rw [if_pos z, if_pos z, addN_mem, mem q, List.mem_append, List.mem_singleton]
        exact or_assoc
      · rw [if_neg z, if_neg z]
        exact mem q
    generalize (if L % (2 + i) = 0 then addN F' (2 + i) else F') = F2 at nd2 mem2 ⊢
    generalize (if L % (2 + i) = 0 then ds ++ [2 + i] else ds) = D2 at st1 mem2
    simp -dsimp only [rR_, envP, Option.map_some]
    by_cases h1 : (divOut (2 + i) L).1 = 1
    · have e1 : ((((divOut (2 + i) L).1 : Nat) : Int) == 1) = true := by rw [h1]; rfl
      rw [if_pos e1]
      refine hP F2 _ (some _) nd2 fun q => (mem2 q).trans ⟨fun z => z.imp id fun z => ?_, fun z => z.imp id fun z => ?_⟩
      · obtain ⟨a, _, b⟩ := (st1.mem q).mp z
        exact ⟨a, b⟩
      · refine (st1.mem q).mpr ⟨z.1, Nat.lt_of_not_le fun y => ?_, z.2⟩
        have := st1.keep q z.1 y z.2
        rw [h1] at this
        have := Nat.le_of_dvd (by decide) this
        have := z.1.1
        omega
    · have e1 : ¬ ((((divOut (2 + i) L).1 : Nat) : Int) == 1) = true := by
        rw [beq_iff_eq]
        omega
      rw [if_neg e1]
      exact hR _ ⟨_, D2, F2, some _, st1, nd2, mem2, rfl⟩
  · obtain ⟨L, ds, F', x9, I, nd', mem, rfl⟩ := hI
    rw [rngX_length] at I
    have I1 : PInv N 1001 L ds := I
    refine hP F' _ x9 nd' fun q => (mem q).trans ⟨fun z => z.imp id fun z => ?_, fun z => z.imp id fun z => ?_⟩
    · obtain ⟨a, _, b⟩ := (I1.mem q).mp z
      exact ⟨a, b⟩
    · refine (I1.mem q).mpr ⟨z.1, ?_, z.2⟩
      have := Nat.le_of_dvd n0 z.2
      omega
theorem pr_two {q : Nat} {a b : Int} (hq : IsPr q) : q ∣ (a * b).natAbs ↔ (q ∣ a.natAbs ∨ q ∣ b.natAbs) := by
  rw [Int.natAbs_mul]
  exact ⟨pr_mul hq, fun h => h.elim (fun z => Nat.dvd_trans z (Nat.dvd_mul_right _ _)) fun z => Nat.dvd_trans z (Nat.dvd_mul_left _ _)⟩
theorem spec_law_primes (rs : List Rv) (g : Option Nat) (Q : Rv → Option Nat → Prop) (h : C_law_primes rs g Q) : w_law_primes (startC 10 rs g) (endP Q) fun _ _ => False := by
  obtain ⟨w, r, rfl, R, hQ⟩ := h
  generalize hW : w_le = W
  simp only [w_law_primes, hW]
  simp -dsimp only [startC, List.map_cons, List.map_nil, List.cons_append, List.nil_append, List.length_cons, List.length_nil, Nat.reduceSub, Nat.reduceAdd, List.replicate_succ, List.replicate_zero]
  try simp -dsimp only [rR_]
  refine ⟨w, r, rfl, R, fun l hl => ?_⟩
  have eW1 : ∀ q : Px → Prop, ixD (eW w) (.int 1) q = q (.tuple (w.ties.map eT)) := fun q => by unfold eW; rw [ixt1]
  simp -dsimp only [rR_, eW1]
  simp only [forH]
  refine ⟨by decide, ?_⟩
  refine forW_ind _ (fun i c => ∃ (found : List Nat) (x4 x5 x6 x7 x8 x9 : Option Px), found.Nodup ∧ (∀ q, q ∈ found ↔ (IsPr q ∧ ∃ t ∈ w.ties.take i, Conn w.ties r t.v ∧ q ∣ (t.p * t.q).natAbs)) ∧ c = ⟨[some (.d (eW w)), some (.d (.int r)), some (.own (l.map .int)), some (.own (eNp found)), x4.map .d, x5.map .d, x6.map .d, x7.map .d, x8.map .d, x9.map .d], g⟩) (fun i x c hx hI R' hR => ?_) (fun c hI => ?_) _ ⟨[], none, none, none, none, none, none, List.nodup_nil, fun q => by simp, rfl⟩
  · obtain ⟨found, x4, x5, x6, x7, x8, x9, nd, mem, rfl⟩ := hI
    obtain ⟨t, ht, rfl⟩ := map_at hx
    have ok := R.wo.tie t (List.mem_of_getElem? ht)
    have p1 := ok.p1
    have q1 := ok.q1
    have p0 := ok.p0
    have q0 := ok.q0
    have tk : w.ties.take (i + 1) = w.ties.take i ++ [t] := by rw [List.take_succ, ht]; rfl
    simp -dsimp only [rR_, eT]
    rw [inT_l]
    try simp -dsimp only [rR_]
    by_cases hin : t.v ∈ l
    · have cn := (hl.mem t.v).mp hin
      simp -dsimp only [rR_, hin, decide_true, Bool.not_true]
      have fb : ∀ q ∈ found, q ≤ 1000 := fun q hq => by
        obtain ⟨a, t', h', _, c⟩ := (mem q).mp hq
        have o := R.wo.tie t' (List.mem_of_mem_take h')
        have o1 := o.p1
        have o2 := o.q1
        exact pr_le a o.p0 o.q0 (by omega) (by omega) c
      simp -dsimp only [rR_, forW]
      rw [← hW]
      refine ⟨by decide, ?_⟩
      refine run_le (N := t.p.natAbs) (F := found) (by omega) (by omega) nd fb fun F1 N1 z9 nd1 m1 => ?_
      simp -dsimp only [rR_, envP, Option.map_some]
      refine run_le (N := t.q.natAbs) (F := F1) (by omega) (by omega) nd1 (fun q hq => by
        rcases (m1 q).mp hq with z | z
        · exact fb q z
        · have := Nat.le_of_dvd (by omega) z.2
          omega) fun F2 N2 z9 nd2 m2 => ?_
      refine hR _ ⟨F2, some _, some _, some _, some _, some _, z9, nd2, fun q => ?_, rfl⟩
      rw [m2 q, m1 q, mem q, tk]
      constructor
      · rintro ((⟨a, t', h', b, c⟩ | ⟨a, b⟩) | ⟨a, b⟩)
        · exact ⟨a, t', List.mem_append.mpr (.inl h'), b, c⟩
        · exact ⟨a, t, List.mem_append.mpr (.inr (by simp)), cn, (pr_two a).mpr (.inl b)⟩
        · exact ⟨a, t, List.mem_append.mpr (.inr (by simp)), cn, (pr_two a).mpr (.inr b)⟩
      · rintro ⟨a, t', h', b, c⟩
        rcases List.mem_append.mp h' with h' | h'
        · exact .inl (.inl ⟨a, t', h', b, c⟩)
        · have e : t' = t := by simpa using h'
          subst e
          rcases (pr_two a).mp c with z | z
          · exact .inl (.inr ⟨a, z⟩)
          · exact .inr ⟨a, z⟩
    · simp -dsimp only [rR_, hin, decide_false, Bool.not_false]
      refine hR _ ⟨found, some _, some _, some _, some _, x8, x9, nd, fun q => ?_, rfl⟩
      rw [mem q, tk]
      constructor
      · rintro ⟨a, t', h', b, c⟩
        exact ⟨a, t', List.mem_append.mpr (.inl h'), b, c⟩
      · rintro ⟨a, t', h', b, c⟩
        rcases List.mem_append.mp h' with h' | h'
        · exact ⟨a, t', h', b, c⟩
        · have e : t' = t := by simpa using h'
          subst e
          exact absurd ((hl.mem _).mpr b) hin
  · obtain ⟨found, x4, x5, x6, x7, x8, x9, nd, mem, rfl⟩ := hI
    rw [List.length_map, List.take_length] at mem
    try simp -dsimp only [rR_]
    refine ⟨found.map fun q : Nat => (q : Int), by rw [List.map_map]; rfl, fun ms pm so => ?_⟩
    have nn : ∀ z ∈ ms, 0 ≤ z := fun z hz => by
      obtain ⟨q, _, rfl⟩ := List.mem_map.mp (pm.mem_iff.mp hz)
      omega
    have em : eNp (ms.map Int.toNat) = ms.map PyData.int := by
      unfold eNp
      rw [List.map_map]
      refine List.map_congr_left fun z hz => ?_
      have := nn z hz
      show PyData.int ((z.toNat : Nat) : Int) = PyData.int z
      rw [Int.toNat_of_nonneg this]
    try simp -dsimp only [rR_]
    rw [← em]
    refine hQ _ ⟨?_, fun q => ?_⟩
    · have nd2 : ms.Nodup := (pm.nodup_iff).mpr (List.Pairwise.map _ (fun a b hab => by
        intro z
        exact hab (by omega)) nd)
      exact List.pairwise_map.mpr ((so.and nd2).imp_of_mem fun {a b} ha hb h => by
        have := nn a ha
        have := nn b hb
        obtain ⟨h1, h2⟩ := h
        have h2 : a ≠ b := h2
        omega)
    · rw [← mem q, List.mem_map]
      constructor
      · rintro ⟨z, hz, rfl⟩
        obtain ⟨q, hq, rfl⟩ := List.mem_map.mp (pm.mem_iff.mp hz)
        exact hq
      · exact fun hq => ⟨(q : Int), pm.mem_iff.mpr (List.mem_map.mpr ⟨q, hq, rfl⟩), rfl⟩
end K
set_option Elab.async false
set_option maxRecDepth 100000
set_option linter.all false
set_option autoImplicit false
set_option maxHeartbeats 4000000
namespace K
open PySem L2 Dl
variable [TabF]
theorem Sho.tup3 {e a b c : Nat} {x y z : Px} (hx : Sho e a x) (hy : Sho e b y) (hz : Sho e c z) : Sho (e + 1) (a + b + c + 9) (.tuple [x, y, z]) := by
  refine ⟨by simp [PyData.showable, PyData.showableAll, hx.sh, hy.sh, hz.sh], by simp [PyData.hasDict, PyData.hasDictAll, hx.nd, hy.nd, hz.nd], ?_, ?_, ?_⟩
  · have := hx.dp
    have := hy.dp
    have := hz.dp
    simp only [PyData.depth, PyData.depthAll]
    omega
  · have t := tupleText_len_le (PyData.shownAll [x, y, z])
    have := hx.ln
    have := hy.ln
    have := hz.ln
    simp only [PyData.shownAll, List.map_cons, List.map_nil, List.sum_cons, List.sum_nil, List.length_cons, List.length_nil] at t
    show (tupleText (PyData.shownAll [x, y, z])).length ≤ _
    simp only [PyData.shownAll]
    omega
  · show PyData.strOk (tupleText (PyData.shownAll [x, y, z])) = true
    refine ok_tuple fun t ht => ?_
    simp only [PyData.shownAll, List.mem_cons, List.not_mem_nil, or_false] at ht
    rcases ht with rfl | rfl | rfl
    · exact hx.ok
    · exact hy.ok
    · exact hz.ok
theorem lg_of {n e : Nat} (h : n < 2 ^ e) (he : e ≤ 1920) (h0 : 0 < e) : n.log2 < 1920 := by
  by_cases z : n = 0
  · subst z
    rw [Nat.log2_zero]
    decide
  · exact (Nat.log2_lt z).mpr (Nat.lt_of_lt_of_le h (Nat.pow_le_pow_right (by decide) he))
theorem strip_sz {p : Nat} (hp : 2 ≤ p) : ∀ (f n e : Nat), n < 2 ^ e → 0 < n → (strip p f n).2 ≤ e
  | 0, n, e, _, _ => Nat.zero_le _
  | f + 1, n, e, h, h0 => by
    unfold strip
    by_cases z : n % p = 0
    · rw [if_pos z]
      have e0 : e ≠ 0 := fun y => by
        subst y
        have : n % p = n := Nat.mod_eq_of_lt (by omega)
        omega
      obtain ⟨d, rfl⟩ : ∃ d, e = d + 1 := ⟨e - 1, by omega⟩
      have hpos : 0 < n / p := Nat.div_pos (Nat.le_of_dvd h0 (Nat.dvd_of_mod_eq_zero z)) (by omega)
      have hlt : n / p < 2 ^ d := by
        have h1 : n / p ≤ n / 2 := Nat.div_le_div_left hp (by decide)
        have h2 : n / 2 < 2 ^ d := by
          rw [Nat.div_lt_iff_lt_mul (by decide), ← Nat.pow_succ]
          exact h
        omega
      have := strip_sz hp f (n / p) d hlt hpos
      show (strip p f (n / p)).2 + 1 ≤ d + 1
      omega
    · rw [if_neg z]
      exact Nat.zero_le _
theorem divOut_le {p n : Nat} (hp : 2 ≤ p) (h0 : 0 < n) : (divOut p n).1 ≤ n := Nat.le_of_dvd h0 (divOut_dvd hp n n (Nat.le_refl n) h0).1
theorem parts_sz : ∀ (ps : List Nat) (n e : Nat), (∀ p ∈ ps, 2 ≤ p) → n < 2 ^ e → 0 < n → ∀ x ∈ (partsN ps n).2, x ≤ e
  | [], _, _, _, _, _, x, hx => by cases hx
  | p :: ps, n, e, hp, h, h0, x, hx => by
    have p2 := hp p (by simp)
    have hx : x ∈ (divOut p n).2 :: (partsN ps (divOut p n).1).2 := hx
    rcases List.mem_cons.mp hx with rfl | hx
    · exact strip_sz p2 n n e h h0
    · exact parts_sz ps _ e (fun q hq => hp q (List.mem_cons_of_mem _ hq)) (Nat.lt_of_le_of_lt (divOut_le p2 h0) h) (divOut_pos p2 n n (Nat.le_refl n) h0) x hx
theorem parts_dvd : ∀ (ps : List Nat) (n : Nat), (∀ p ∈ ps, 2 ≤ p) → 0 < n → (partsN ps n).1 ∣ n ∧ ∀ p ∈ ps, ¬ p ∣ (partsN ps n).1
  | [], n, _, _ => ⟨Nat.dvd_refl n, fun p hp => by cases hp⟩
  | p :: ps, n, hp, h0 => by
    have p2 := hp p (by simp)
    obtain ⟨a1, a2, _⟩ := divOut_dvd p2 n n (Nat.le_refl n) h0
    obtain ⟨b1, b2⟩ := parts_dvd ps (divOut p n).1 (fun q hq => hp q (List.mem_cons_of_mem _ hq)) (divOut_pos p2 n n (Nat.le_refl n) h0)
    refine ⟨Nat.dvd_trans b1 a1, fun q hq => ?_⟩
    rcases List.mem_cons.mp hq with rfl | hq
    · exact fun z => a2 (Nat.dvd_trans z b1)
    · exact b2 q hq
theorem eParts_sho {ps : List Nat} {k : Int} {e : Nat} (h : Nice ps k e) (he : e ≤ 1000000) (hp : ∀ p ∈ ps, 2 ≤ p) (hl : ps.length ≤ 500) : Sho 40 1000000 (eParts ps k) := by
  have n0 := h.nz
  obtain ⟨d1, d2⟩ := parts_dvd ps k.natAbs hp (by omega)
  have r := h.rs _ d1 d2
  have ex := parts_sz ps k.natAbs e hp h.sz (by omega)
  have ln := partsN_ln ps k.natAbs
  have s1 : Sho 0 1921 (.int (sgnI k)) := Sho.int (by
    refine lg_of (e := 64) ?_ (by decide) (by decide)
    unfold sgnI
    split <;> decide)
  have s2 : Sho 0 1921 (.int ((partsN ps k.natAbs).1 : Int)) := Sho.int (lg_of (e := 64) (by rw [Int.natAbs_natCast]; omega) (by decide) (by decide))
  have s3 : Sho 1 (500 * 1921 + 2 * 500 + 3) (.tuple (eNp (partsN ps k.natAbs).2)) := Sho.tup (fun x hx => by
    obtain ⟨y, hy, rfl⟩ := List.mem_map.mp hx
    have := ex y hy
    exact Sho.int (lg_of (e := 64) (by rw [Int.natAbs_natCast]; omega) (by decide) (by decide))) (by simp [eNp]; omega)
  have t := Sho.tup3 (s1.mono (e' := 1) (by decide) (Nat.le_refl _)) (s2.mono (e' := 1) (by decide) (Nat.le_refl _)) s3
  exact t.mono (by decide) (by decide)
theorem primes_sho {ps : List Nat} (hp : ∀ p ∈ ps, p ≤ 1000) (hl : ps.length ≤ 500) : Sho 40 1000000 (.tuple (eNp ps)) := by
  have s3 : Sho 1 (500 * 1921 + 2 * 500 + 3) (.tuple (eNp ps)) := Sho.tup (fun x hx => by
    obtain ⟨y, hy, rfl⟩ := List.mem_map.mp hx
    have := hp y hy
    exact Sho.int (lg_of (e := 64) (by rw [Int.natAbs_natCast]; omega) (by decide) (by decide))) (by simp [eNp]; omega)
  exact s3.mono (by decide) (by decide)
theorem Nice.divs {ps : List Nat} {k j : Int} {e : Nat} (h : Nice ps k e) (hj : j ∣ k) : Nice ps j e := by
  have h1 : j.natAbs ∣ k.natAbs := Int.natAbs_dvd_natAbs.mpr hj
  have k0 := h.nz
  exact ⟨fun z => by
    subst z
    exact k0 (Int.zero_dvd.mp hj), fun d hd nd => h.rs d (Nat.dvd_trans hd h1) nd, Nat.lt_of_le_of_lt (Nat.le_of_dvd (by omega) h1) h.sz⟩
theorem Nice.neg {ps : List Nat} {k : Int} {e : Nat} (h : Nice ps k e) : Nice ps (-k) e := h.divs ⟨-1, by omega⟩
abbrev C_law_turn_right : Cn := fun rs g Q => ∃ (w : Web) (r : Int) (n : Nat), rs = [.gen, .d (eW w), .d (.int r)] ∧ g = some n ∧ RmOk w r ∧ n + 20000 ≤ 2 ^ 40 ∧ ∀ m : Nat, m ≤ n + 10000 → Q (.d (.bool true)) (some m)
def w_lo : WS :=
  (sFor (iLst (eName 4)) (gN 5)
  (sSeq (sIf (wNot (wTru (eCallP C_law_like (aCons (eCallX Cturn_parts (aCons (eName 1) (aCons (eIxN 5 (eC (.int 0))) (aCons (eIxN 5 (eC (.int 1))) aNil)))) (aCons (eCallP C_law_parts (aCons (eName 3) (aCons (eIxN 5 (eC (.int 1))) aNil))) aNil))))) (sRet (eC (.bool false))) sNil)
  (sIf (wNot (wTru (eCallP C_law_two_right (aCons (eName 1) (aCons (eName 3) (aCons (eName 5) (aCons (eCallG C_law_of (aCons (eName 0) (aCons (eName 4) aNil))) aNil))))))) (sRet (eC (.bool false))) sNil)))
def w_law_turn_right : WS :=
  (sSeq (sAsg (eCallP C_law_primes (aCons (eName 1) (aCons (eName 2) aNil))) (gN 3))
  (sSeq (sIf (wNot (wTru (eCallP C_law_like (aCons (eCallP Cprimes_of (aCons (eName 1) (aCons (eName 2) aNil))) (aCons (eCB tupC (aCons (eName 3) aNil)) aNil))))) (sRet (eC (.bool false))) sNil)
  (sSeq (sAsg (eLc (iRg1 (aCons (eC (.int 4)) aNil)) (gN 6) wYes (eCallG C_law_turn (aCons (eName 0) (aCons (eName 1) (aCons (eName 2) (aCons (eName 3) aNil))))) [6]) (gN 4))
  (sSeq (sExp (eApp 4 (eTup (aCons (eIx (eIxN 4 (eC (.int 0))) (eC (.int 0))) (aCons (eUn negD (eIx (eIxN 4 (eC (.int 0))) (eC (.int 1)))) aNil)))))
  (sSeq (sExp (eApp 4 (eTup (aCons (eCallG C_law_of (aCons (eName 0) (aCons (eCallP C_law_piece (aCons (eName 1) (aCons (eName 2) aNil))) aNil))) (aCons (eIx (eIxN 4 (eC (.int 1))) (eC (.int 1))) aNil)))))
  (sSeq (sIf (wB (eScL 3 (eqD true) (eLst aNil))) (sExp (eApp 4 (eTup (aCons (eIx (eIxN 4 (eC (.int 2))) (eC (.int 0))) (aCons (eOp mulD (eOp fdivD (eIx (eIxN 4 (eC (.int 2))) (eC (.int 1))) (eCallP C_law_common (aCons (eIx (eIxN 4 (eC (.int 2))) (eC (.int 1))) (aCons (eIxN 3 (eC (.int 0))) aNil)))) (eCallG C_law_of (aCons (eName 0) (aCons (eName 3) aNil)))) aNil))))) sNil)
  (sSeq w_lo
  (sRet (eC (.bool true))))))))))
theorem len_law_turn_right (rs : List Rv) (g : Option Nat) (Q : Rv → Option Nat → Prop) (h : C_law_turn_right rs g Q) : rs.length = 3 := by
  obtain ⟨_, _, _, rfl, _⟩ := h
  rfl
def TuOk (w : Web) (r : Int) (ps : List Nat) (t : Int × Int) : Prop := Conn w.ties r t.1 ∧ Nice ps t.2 400000
def envT (w : Web) (r : Int) (ps : List Nat) (z : Rv) (x5 x6 : Option Px) : List (Option Rv) := [some .gen, some (.d (eW w)), some (.d (.int r)), some (.d (.list (eNp ps))), some z, x5.map .d, x6.map .d]
theorem RmOk.to {w : Web} {r r2 : Int} (R : RmOk w r) (c : Conn w.ties r r2) : RmOk w r2 := by
  obtain ⟨a, b⟩ := c.range R.wo ⟨R.r0, R.r1⟩
  exact ⟨R.wo, R.tl, R.rl, a, b⟩
theorem run_lo {w : Web} {r : Int} {ps : List Nat} {ts : List (Int × Int)} {x5 x6 : Option Px} {n : Nat} {P : Fl → Prop} (R : RmOk w r) (W : WPr w r ps) (ht : ∀ t ∈ ts, TuOk w r ps t) (tl : ts.length ≤ 100) (hn : n + 1000 ≤ 2 ^ 40)
    (hP : ∀ (x5 x6 : Option Px) (m : Nat), m ≤ n + 100 → P (.nx ⟨envT w r ps (.d (.list (ts.map eC2))) x5 x6, some m⟩)) :
    w_lo ⟨envT w r ps (.own (ts.map eC2)) x5 x6, some n⟩ P (fun _ _ => False) := by
  have hp := W.le R
  have hl := W.len R
  simp only [w_lo]
  simp -dsimp only [rR_, envT]
  simp only [forH]
  refine forW_ind _ (fun i c => ∃ (x5 x6 : Option Px) (m : Nat), m ≤ n + i ∧ c = ⟨envT w r ps (.d (.list (ts.map eC2))) x5 x6, some m⟩) (fun i x c hx hI R' hR => ?_) (fun c hI => ?_) _ ⟨x5, x6, n, by omega, rfl⟩
  · obtain ⟨x5, x6, m, hm, rfl⟩ := hI
    obtain ⟨t, hti, rfl⟩ := map_at hx
    have hi : i < ts.length := (List.getElem?_eq_some_iff.mp hti).1
    obtain ⟨cn, ni⟩ := ht t (List.mem_of_getElem? hti)
    have n0 := ni.nz
    have sho := eParts_sho ni (by decide) (fun p hq => (hp p hq).2.1) hl
    simp -dsimp only [rR_, envT, eC2, eCallX]
    refine ⟨w, t.1, t.2, rfl, R.to cn, fun z => absurd z n0, fun _ qs hq => ?_⟩
    obtain rfl : qs = ps := hq.uniq (W.of cn)
    try simp -dsimp only [rR_]
    refine ⟨qs, t.2, rfl, n0, fun p h => by have := (hp p h).2; omega, by omega, ?_⟩
    try simp -dsimp only [rR_]
    refine ⟨_, rfl, .inl ⟨_, rfl⟩, sho, ?_⟩
    try simp -dsimp only [rR_]
    have ne : ts.map eC2 ≠ [] := fun z => by
      rw [List.map_eq_nil_iff] at z
      subst z
      exact Nat.not_lt_zero _ hi
    refine ⟨_, m, rfl, rfl, by omega, ne, by rw [List.length_map]; omega, fun x hx m2 hm2 => ?_⟩
    obtain ⟨u, hu, rfl⟩ := List.mem_map.mp hx
    obtain ⟨cu, nu⟩ := ht u hu
    simp -dsimp only [rR_, eC2]
    refine ⟨w, qs, t.1, t.2, u.1, u.2, rfl, R.to cn, R.to cu, n0, nu.nz, cn.symm.trans cu, W.of cn, ?_⟩
    try simp -dsimp only [rR_]
    exact hR _ ⟨some _, x6, m2, by omega, rfl⟩
  · obtain ⟨x5, x6, m, hm, rfl⟩ := hI
    rw [List.length_map] at hm
    exact hP x5 x6 m (by omega)
theorem spec_law_turn_right (rs : List Rv) (g : Option Nat) (Q : Rv → Option Nat → Prop) (h : C_law_turn_right rs g Q) : w_law_turn_right (startC 7 rs g) (endP Q) fun _ _ => False := by
  obtain ⟨w, r, n, rfl, rfl, R, hn, hQ⟩ := h
  generalize hV : w_lo = V
  simp only [w_law_turn_right, hV]
  simp -dsimp only [startC, List.map_cons, List.map_nil, List.cons_append, List.nil_append, List.length_cons, List.length_nil, Nat.reduceSub, Nat.reduceAdd, List.replicate_succ, List.replicate_zero]
  try simp -dsimp only [rR_]
  refine ⟨w, r, rfl, R, fun ps W => ?_⟩
  have hp := W.le R
  have hl := W.len R
  try simp -dsimp only [rR_]
  refine ⟨w, r, rfl, ⟨R.wo, R.tl, R.rl, R.r0, R.r1⟩, fun qs hq => ?_⟩
  obtain rfl : qs = ps := hq.uniq W
  try simp -dsimp only [rR_]
  refine ⟨_, rfl, .inl ⟨_, rfl⟩, primes_sho (fun p h => (hp p h).2.2) hl, ?_⟩
  try simp -dsimp only [rR_]
  rw [if_neg (by decide)]
  refine ⟨by unfold smI; omega, by simp [nown], ?_⟩
  simp only [lcH]
  have e4 : rngX 0 (Int.toNat 4) = [0, 1, 2, 3].map PyData.int := rfl
  rw [e4]
  refine lcW_drw PyData.int eC2 (fun _ (t : Int × Int) => Conn w.ties r t.1 ∧ Nice qs t.2 300000) 2100 (n + 8400) [0, 1, 2, 3] [] n (fun c hc n2 R2 S hn2 hR => ?_) (by simp) (by simp) (fun bs m hb hm => ?_)
  · simp -dsimp only [rR_, Turn1, wipeE]
    refine ⟨w, r, qs, n2, rfl, rfl, R, W, by omega, fun r2 k m3 cn ni hm3 => ?_⟩
    try simp -dsimp only [rR_]
    exact ⟨rfl, hR (r2, k) m3 ⟨cn, ni⟩ hm3⟩
  have hm : m ≤ n + 8400 := by simpa using hm
  have hlb := hb.length
  have hkb := hb.snd (H := fun (t : Int × Int) => Conn w.ties r t.1 ∧ Nice qs t.2 300000) fun a b h => h
  obtain ⟨b0, b1, b2, b3, rfl⟩ : ∃ b0 b1 b2 b3, bs = [b0, b1, b2, b3] := by
    match bs, hlb with
    | [a, b, c, d], _ => exact ⟨a, b, c, d, rfl⟩
  have k0 := hkb b0 (by simp)
  have k1 := hkb b1 (by simp)
  have k2 := hkb b2 (by simp)
  have k3 := hkb b3 (by simp)
  simp -dsimp only [rR_, eC2]
  refine ⟨by decide, w, r, rfl, R, fun l hlp => ?_⟩
  try simp -dsimp only [rR_]
  have ne : l.map PyData.int ≠ [] := fun z => by
    have := (hlp.mem r).mpr .refl
    rw [List.map_eq_nil_iff.mp z] at this
    cases this
  have ll : l.length ≤ 1000 := by
    have := nodup_len w.rooms.toNat l (hlp.asc.imp fun h => by omega) fun x hx => by
      have := ((hlp.mem x).mp hx).range R.wo ⟨R.r0, R.r1⟩
      omega
    have := R.rl
    omega
  refine ⟨_, m, rfl, rfl, by omega, ne, by simp; omega, fun x hx m5 hm5 => ?_⟩
  obtain ⟨y, hy, rfl⟩ := List.mem_map.mp hx
  have cy := (hlp.mem y).mp hy
  try simp -dsimp only [rR_]
  refine ⟨by decide, ?_⟩
  have fin : ∀ (ts : List (Int × Int)), ts.length ≤ 7 → (∀ t ∈ ts, TuOk w r qs t) → ∀ m, m ≤ n + 8500 → V ⟨envT w r qs (.own (ts.map eC2)) none none, some m⟩ (fun fl => match fl with
      | .nx c1 => sRet (eC (.bool true)) c1 (endP Q) fun _ _ => False
      | o => endP Q o) (fun _ _ => False) := fun ts tl ht m hm => by
    rw [← hV]
    refine run_lo R W ht (by omega) (by omega) fun x5 x6 m2 hm2 => ?_
    simp -dsimp only [rR_, envT]
    exact hQ m2 (by omega)
  have shp : ∀ x ∈ eNp qs, Shp 60 x := fun x hx => by
    obtain ⟨q, _, rfl⟩ := List.mem_map.mp hx
    exact Shp.int _
  have ok6 : ∀ t ∈ [b0, b1, b2, b3, (b0.1, -b0.2), (y, b1.2)], TuOk w r qs t := fun t ht => by
    simp only [List.mem_cons, List.not_mem_nil, or_false] at ht
    rcases ht with rfl | rfl | rfl | rfl | rfl | rfl
    · exact ⟨k0.1, k0.2.up (by decide)⟩
    · exact ⟨k1.1, k1.2.up (by decide)⟩
    · exact ⟨k2.1, k2.2.up (by decide)⟩
    · exact ⟨k3.1, k3.2.up (by decide)⟩
    · exact ⟨k0.1, k0.2.neg.up (by decide)⟩
    · exact ⟨cy, k1.2.up (by decide)⟩
  refine ⟨by decide, ?_⟩
  rw [eqt_nil shp]
  cases qs with
  | nil =>
    simp -dsimp only [rR_, eNp]
    have := fin _ (by simp) ok6 m5 (by omega)
    simp -dsimp only [envT, eC2, eNp, eLstK, eRem, eDisp0, eDispW, eIxW, wPairs, ↓ixW_d, eMaxL, ↓inDD_l, ↓sumC_l, ↓sumC_t, ↓ifdiv_i, sSeq, sAsg, sRet, sIf, sExp, ↓sFor_eq, sPar2, sPar3, ↓sSetI_eq, eRevT, ↓revD_t, eRevL, ↓revLD_l, eDisp1, eDIx, ↓eDIn_t, ↓eDIn_f, sDctP, sRetD, eDIxC, ePop0, ↓dicD_eq, ↓slotDc_k, ↓dicR_k, ↓hdX_c, isDic, ↓sSetIA_eq, ↓sSetIM_eq, sUnp2, ↓sAug_eq, ↓slotA_d, ↓sSetG_eq, sRetG, sGL, sGP, sNil, sBrk, sCnt, sNo, ↓eName_eq, ↓slotE_d, ↓slotE_gen, ↓slotE_scr, ↓slotE_own, eC, eOp, eUn, eSc, eScL, eScR, eCh, eAnd, eOr, eNot, eIf, eTup, eLst, eCB, eIx, eIxN, eSl, eSlN, eSlS, eAddN, eLenN, eApp, eExt, ePop, ↓eCallP_eq, ↓eCallG_eq, eIsi, eGL, eGS, eGC, eGP, aNil, aCons, ↓wB_eq, wTru, wTruN, wAnd, wOr, wNot, wYes, gN, ↓gT_d, ↓gL_own, ↓gL_d, ↓gsC, ↓gsN, oNone, ↓oSome_eq, ↓asI_i, iLst, iTpl, iRg1, iRg2, iRg3, iEnm, iEnmT, iZp, iZpT, iZp3, iScr, ↓eLc_eq, hasD, ↓slotD_eq, ↓slotK_d, ↓slotK_own, ↓ownD_eq, ↓slotO_own, isOwn, scrD, putE, asDs, ↓asD_d, ↓asD_own, ↓argR_d, ↓argR_own, ↓argR_gen, ↓argR_scr, ↓asL_own, ↓asL_d, ↓asT_d, ↓asB_d, ↓sub_i, ↓iadd_i, ↓strC_i, ↓mul_i, ↓fdiv_i, ↓fdivB_i, ↓mod_i, ↓pow_i, ↓lt_i, ↓le_i, ↓gt_i, ↓ge_i, ↓add_i, ↓add_l, ↓add_t, ↓cat_i, ↓cat_l, ↓cat_t, ↓neg_i, ↓eqf_i, ↓eqt_i, ↓lenC_l, ↓lenC_t, ↓absC_i, ↓intC_i, ↓tupC_l, ↓tupC_t, ↓max2C_i, ↓min2C_i, ↓lenC_s, ↓reprC_b, ↓reprA_b, ↓reprA_i, ↓reprA_t, ↓reprC_i, ↓reprN_n, ↓reprN_b, ↓reprN_i, ↓reprN_t, ↓gcdC_i, ↓isBD_f, ↓isBD_t, ↓eqf_rb, ↓eqt_rb, ↓eqt_ri, ↓slD_t, ↓max3C_i, ↓ixt0, ↓ixt1, ↓ixt2, ↓ixt3, ↓ixl0, ↓ixl1, ↓ixtl, ↓ixll, truD, lenD, startC, endP, List.map_cons, List.map_nil, List.length_cons, List.length_nil, List.cons_append, List.nil_append, List.getElem?_cons_zero, List.getElem?_cons_succ, List.set_cons_zero, List.set_cons_succ, List.replicate_succ, List.replicate_zero, Nat.reduceSub, Nat.reduceAdd, Nat.reduceLT, Option.isSome_some, true_and, and_true, ne_eq, not_false_eq_true, reduceCtorEq, if_true, if_false, Bool.false_eq_true, decide_eq_true_eq, List.mem_cons, List.not_mem_nil, or_self, or_false, false_or, ↓reprM_n, ↓reprM_b, ↓reprM_i, ↓reprM_t, ↓reprM_l, eHeard, ↓lam_eq, ↓lamM_n, ↓lamM_c, ↓dropO_d, ↓dropO_g, ↓dropO_s, ↓dropO_n, ↓dropO_o, ↓dropO_k, ↓wrapR_t, ↓wrapR_f, sRaise2, ↓rz2_d, eCallB, ↓nog_eq, ↓dropG_n, ↓dropG_g, ↓dropG_d, ↓dropG_o, ↓dropG_s, ↓dropG_k] at this
    exact this
  | cons p0 qs' =>
    obtain ⟨pr0, p02, p03⟩ := hp p0 (by simp)
    have ixl2 : ∀ (a b d : Px) (l : List Px) (k : Px → Prop), ixD (.list (a :: b :: d :: l)) (.int 2) k = k d := fun a b d l k => by
      simp only [ixD, atI, ixN, List.length_cons]
      rw [if_pos (by omega), if_pos (by omega)]; rfl
    have g0 : 0 < gcdI b2.2 p0 := gcd_pos (by omega)
    have gd : gcdI b2.2 p0 ≤ (p0 : Int) := by
      unfold gcdI
      have := Nat.gcd_le_right (b2.2.natAbs) (show 0 < (p0 : Int).natAbs by omega)
      omega
    have gv : gcdI b2.2 p0 ∣ b2.2 := by
      unfold gcdI
      exact Int.ofNat_dvd_left.mpr (Nat.gcd_dvd_left _ _)
    obtain ⟨j, hj⟩ := gv
    have ej : b2.2.fdiv (gcdI b2.2 p0) = j := by
      rw [Int.fdiv_eq_ediv_of_nonneg _ (by omega)]
      conv => lhs; lhs; rw [hj]
      exact Int.mul_ediv_cancel_left _ (by omega)
    have nj : Nice (p0 :: qs') j 300020 := (k2.2.divs ⟨gcdI b2.2 p0, by rw [Int.mul_comm]; exact hj⟩).up (by decide)
    have ie : (!(eNp (p0 :: qs')).isEmpty) = true := rfl
    have m0 : (eNp (p0 :: qs'))[0]? = some (PyData.int (p0 : Int)) := rfl
    have i0 : ∀ q : Px → Prop, ixD (.list (eNp (p0 :: qs'))) (.int 0) q = q (.int (p0 : Int)) := fun q => by
      show ixD (.list (PyData.int (p0 : Int) :: eNp qs')) (.int 0) q = _
      exact ixl0
    have nE : eNp (p0 :: qs') ≠ [] := by simp [eNp]
    have lE : (eNp (p0 :: qs')).length ≤ 1000000 := by simp only [eNp, List.length_map]; omega
    have memE : ∀ x ∈ eNp (p0 :: qs'), ∃ q ∈ p0 :: qs', x = .int (q : Int) := fun x hx => by
      obtain ⟨q, hq, rfl⟩ := List.mem_map.mp hx
      exact ⟨q, hq, rfl⟩
    generalize hE : eNp (p0 :: qs') = E at ie i0 nE lE memE ⊢
    simp -dsimp only [rR_, ie, i0, ixl2]
    refine ⟨b2.2, p0, rfl, trivial, ?_⟩
    try simp -dsimp only [rR_]
    refine ⟨CDiv2.s (by omega) (by omega) (by omega), ?_⟩
    rw [ej]
    refine ⟨_, m5, rfl, rfl, by omega, nE, lE, fun x hx m6 hm6 => ?_⟩
    obtain ⟨q, hq, rfl⟩ := memE x hx
    obtain ⟨pq, q2, q3⟩ := hp q hq
    try simp -dsimp only [rR_]
    refine ⟨CMul2.r (by omega) (by omega), by decide, ?_⟩
    have := fin ([b0, b1, b2, b3, (b0.1, -b0.2), (y, b1.2)] ++ [(b2.1, j * (q : Int))]) (by simp) (fun t ht => by
      rcases List.mem_append.mp ht with h | h
      · exact ok6 t h
      · have e : t = (b2.1, j * (q : Int)) := by simpa using h
        rw [e]
        exact ⟨k2.1, (nj.mul hq pq q3).up (by decide)⟩) m6 (by omega)
    simp -dsimp only [envT, eC2, hE, eLstK, eRem, eDisp0, eDispW, eIxW, wPairs, ↓ixW_d, eMaxL, ↓inDD_l, ↓sumC_l, ↓sumC_t, ↓ifdiv_i, sSeq, sAsg, sRet, sIf, sExp, ↓sFor_eq, sPar2, sPar3, ↓sSetI_eq, eRevT, ↓revD_t, eRevL, ↓revLD_l, eDisp1, eDIx, ↓eDIn_t, ↓eDIn_f, sDctP, sRetD, eDIxC, ePop0, ↓dicD_eq, ↓slotDc_k, ↓dicR_k, ↓hdX_c, isDic, ↓sSetIA_eq, ↓sSetIM_eq, sUnp2, ↓sAug_eq, ↓slotA_d, ↓sSetG_eq, sRetG, sGL, sGP, sNil, sBrk, sCnt, sNo, ↓eName_eq, ↓slotE_d, ↓slotE_gen, ↓slotE_scr, ↓slotE_own, eC, eOp, eUn, eSc, eScL, eScR, eCh, eAnd, eOr, eNot, eIf, eTup, eLst, eCB, eIx, eIxN, eSl, eSlN, eSlS, eAddN, eLenN, eApp, eExt, ePop, ↓eCallP_eq, ↓eCallG_eq, eIsi, eGL, eGS, eGC, eGP, aNil, aCons, ↓wB_eq, wTru, wTruN, wAnd, wOr, wNot, wYes, gN, ↓gT_d, ↓gL_own, ↓gL_d, ↓gsC, ↓gsN, oNone, ↓oSome_eq, ↓asI_i, iLst, iTpl, iRg1, iRg2, iRg3, iEnm, iEnmT, iZp, iZpT, iZp3, iScr, ↓eLc_eq, hasD, ↓slotD_eq, ↓slotK_d, ↓slotK_own, ↓ownD_eq, ↓slotO_own, isOwn, scrD, putE, asDs, ↓asD_d, ↓asD_own, ↓argR_d, ↓argR_own, ↓argR_gen, ↓argR_scr, ↓asL_own, ↓asL_d, ↓asT_d, ↓asB_d, ↓sub_i, ↓iadd_i, ↓strC_i, ↓mul_i, ↓fdiv_i, ↓fdivB_i, ↓mod_i, ↓pow_i, ↓lt_i, ↓le_i, ↓gt_i, ↓ge_i, ↓add_i, ↓add_l, ↓add_t, ↓cat_i, ↓cat_l, ↓cat_t, ↓neg_i, ↓eqf_i, ↓eqt_i, ↓lenC_l, ↓lenC_t, ↓absC_i, ↓intC_i, ↓tupC_l, ↓tupC_t, ↓max2C_i, ↓min2C_i, ↓lenC_s, ↓reprC_b, ↓reprA_b, ↓reprA_i, ↓reprA_t, ↓reprC_i, ↓reprN_n, ↓reprN_b, ↓reprN_i, ↓reprN_t, ↓gcdC_i, ↓isBD_f, ↓isBD_t, ↓eqf_rb, ↓eqt_rb, ↓eqt_ri, ↓slD_t, ↓max3C_i, ↓ixt0, ↓ixt1, ↓ixt2, ↓ixt3, ↓ixl0, ↓ixl1, ↓ixtl, ↓ixll, truD, lenD, startC, endP, List.map_cons, List.map_nil, List.length_cons, List.length_nil, List.cons_append, List.nil_append, List.getElem?_cons_zero, List.getElem?_cons_succ, List.set_cons_zero, List.set_cons_succ, List.replicate_succ, List.replicate_zero, Nat.reduceSub, Nat.reduceAdd, Nat.reduceLT, Option.isSome_some, true_and, and_true, ne_eq, not_false_eq_true, reduceCtorEq, if_true, if_false, Bool.false_eq_true, decide_eq_true_eq, List.mem_cons, List.not_mem_nil, or_self, or_false, false_or, ↓reprM_n, ↓reprM_b, ↓reprM_i, ↓reprM_t, ↓reprM_l, eHeard, ↓lam_eq, ↓lamM_n, ↓lamM_c, ↓dropO_d, ↓dropO_g, ↓dropO_s, ↓dropO_n, ↓dropO_o, ↓dropO_k, ↓wrapR_t, ↓wrapR_f, sRaise2, ↓rz2_d, eCallB, ↓nog_eq, ↓dropG_n, ↓dropG_g, ↓dropG_d, ↓dropG_o, ↓dropG_s, ↓dropG_k] at this ⊢
    exact this
end K
set_option Elab.async false
set_option maxRecDepth 100000
set_option linter.all false
set_option autoImplicit false
set_option maxHeartbeats 4000000
namespace K
open PySem L2 Dl
variable [TabF]
theorem hit {h : HndO} {r : List HndO} {x : Xn} {k : Px → Prop} {d : Px} (e : x.cls = h.cls) (v : h.out.val x = some d) (q : k d) : heardX (h :: r) x k := by
  unfold heardX
  rw [if_pos e]
  exact ⟨d, v, q⟩
theorem mis {h : HndO} {r : List HndO} {x : Xn} {k : Px → Prop} (e : x.cls ≠ h.cls) (q : heardX r x k) : heardX (h :: r) x k := by
  unfold heardX
  rw [if_neg e]
  exact q
theorem sh_rg (i : Int) : SeqAt.shaped (.tuple [.str "range", .int i] : Px) = true := by
  simp [SeqAt.shaped, PyData.canLay0, PyData.canLayAll0, PyData.depth, PyData.depthAll]; decide +kernel
theorem sh_rm (i : Int) : SeqAt.shaped (.tuple [.str "room", .int i] : Px) = true := by
  simp [SeqAt.shaped, PyData.canLay0, PyData.canLayAll0, PyData.depth, PyData.depthAll]; decide +kernel
theorem ev2 (s : Str) (i : Int) : PyData.eqv (.tuple [.str s, .int i]) (.tuple [.str s, .int i]) = true := by simp [PyData.eqv, PyData.eqvAll]
theorem eqt_rg (i : Int) {P : Rv → Prop} : eqD true (.tuple [.str "range", .int i]) (.tuple [.str "range", .int i]) P = P (.d (.bool false)) := by
  simp only [eqD, sh_rg, ev2, true_and]
  rfl
theorem eqt_rm (i : Int) {P : Rv → Prop} : eqD true (.tuple [.str "room", .int i]) (.tuple [.str "room", .int i]) P = P (.d (.bool false)) := by
  simp only [eqD, sh_rm, ev2, true_and]
  rfl
theorem eqf_rm (i : Int) {P : Rv → Prop} : eqD false (.tuple [.str "room", .int i]) (.tuple [.str "room", .int i]) P = P (.d (.bool true)) := by
  simp only [eqD, sh_rm, ev2, true_and]
  rfl
abbrev C_law_refused_right : Cn := fun rs g Q => ∃ (w : Web) (r o : Int) (n : Nat), rs = [.gen, .d (eW w), .d (.int r), .d (.int o)] ∧ g = some n ∧ RmOk w r ∧ RmOk w o ∧ ¬ Conn w.ties r o ∧ n + 10 ≤ 2 ^ 40 ∧ ∀ m : Nat, m ≤ n + 2 → Q (.d (.bool true)) (some m)
def w_law_refused_right : WS :=
  (sSeq (sAsg (eOp addD (eC (.int 1)) (eCallG C_law_draw (aCons (eName 0) (aCons (eC (.int 9)) aNil)))) (gN 4))
  (sSeq (sIf (wB (eSc (eqD true) (eHeard false (eCallX Cturn_parts (aCons (eName 1) (aCons (eName 2) (aCons (eC (.int 0)) aNil)))) ["NotInOne", "OutOfRange"] [⟨"OutOfRange", 1, .tup [.st "range", .fl "value"]⟩, ⟨"NotInOne", 1, .tup [.st "room", .fl "room"]⟩]) (eTup (aCons (eC (.str "range")) (aCons (eC (.int 0)) aNil))))) (sRet (eC (.bool false))) sNil)
  (sSeq (sAsg (eCallG C_law_of (aCons (eName 0) (aCons (eLst (aCons (eTup (aCons (eTup (aCons (eName 2) (aCons (eC (.int 0)) aNil))) (aCons (eTup (aCons (eName 3) (aCons (eName 4) aNil))) aNil))) (aCons (eTup (aCons (eTup (aCons (eName 2) (aCons (eName 4) aNil))) (aCons (eTup (aCons (eName 3) (aCons (eC (.int 0)) aNil))) aNil))) (aCons (eTup (aCons (eTup (aCons (eName 2) (aCons (eC (.int 0)) aNil))) (aCons (eTup (aCons (eName 2) (aCons (eC (.int 0)) aNil))) aNil))) (aCons (eTup (aCons (eTup (aCons (eName 3) (aCons (eC (.int 0)) aNil))) (aCons (eTup (aCons (eName 2) (aCons (eC (.int 1)) aNil))) aNil))) aNil))))) aNil))) (gN 5))
  (sSeq (sIf (wB (eSc (eqD true) (eHeard false (eCallX Ccomes_before (aCons (eName 1) (aCons (eIxN 5 (eC (.int 0))) (aCons (eIxN 5 (eC (.int 1))) aNil)))) ["NotInOne", "OutOfRange"] [⟨"OutOfRange", 1, .tup [.st "range", .fl "value"]⟩, ⟨"NotInOne", 1, .tup [.st "room", .fl "room"]⟩]) (eTup (aCons (eC (.str "range")) (aCons (eC (.int 0)) aNil))))) (sRet (eC (.bool false))) sNil)
  (sSeq (sIf (wB (eSc (eqD true) (eHeard false (eCallX Ccomes_before (aCons (eName 1) (aCons (eTup (aCons (eName 2) (aCons (eName 4) aNil))) (aCons (eTup (aCons (eName 3) (aCons (eUn negD (eName 4)) aNil))) aNil)))) ["NotInOne", "OutOfRange"] [⟨"OutOfRange", 1, .tup [.st "range", .fl "value"]⟩, ⟨"NotInOne", 1, .tup [.st "room", .fl "room"]⟩]) (eTup (aCons (eC (.str "room")) (aCons (eName 3) aNil))))) (sRet (eC (.bool false))) sNil)
  (sRet (eSc (eqD false) (eHeard false (eCallX Ccomes_before (aCons (eName 1) (aCons (eTup (aCons (eName 3) (aCons (eName 4) aNil))) (aCons (eTup (aCons (eName 2) (aCons (eC (.int 1)) aNil))) aNil)))) ["NotInOne", "OutOfRange"] [⟨"OutOfRange", 1, .tup [.st "range", .fl "value"]⟩, ⟨"NotInOne", 1, .tup [.st "room", .fl "room"]⟩]) (eTup (aCons (eC (.str "room")) (aCons (eName 2) aNil))))))))))
theorem len_law_refused_right (rs : List Rv) (g : Option Nat) (Q : Rv → Option Nat → Prop) (h : C_law_refused_right rs g Q) : rs.length = 4 := by
  obtain ⟨_, _, _, _, rfl, _⟩ := h
  rfl
theorem spec_law_refused_right (rs : List Rv) (g : Option Nat) (Q : Rv → Option Nat → Prop) (h : C_law_refused_right rs g Q) : w_law_refused_right (startC 6 rs g) (endP Q) fun _ _ => False := by
  obtain ⟨w, r, o, n, rfl, rfl, R, O, nc, hn, hQ⟩ := h
  have nc2 : ¬ Conn w.ties o r := fun z => nc z.symm
  simp only [w_law_refused_right]
  simp -dsimp only [startC, List.map_cons, List.map_nil, List.cons_append, List.nil_append, List.length_cons, List.length_nil, Nat.reduceSub, Nat.reduceAdd, List.replicate_succ, List.replicate_zero]
  try simp -dsimp only [rR_]
  refine ⟨_, _, rfl, rfl, by omega, by omega, pow9000 (by omega) (by omega), fun c m1 hca hcb hm1 => ?_⟩
  simp -dsimp only [rR_, eCallX]
  have f0 : ¬ (1 + c = 0) := by omega
  refine ⟨w, r, 0, rfl, R, fun _ => ⟨by decide, hit rfl rfl ?_⟩, fun z => absurd rfl z⟩
  simp -dsimp only [rR_, eqt_rg]
  refine ⟨by decide, by decide, by decide, by decide, by decide, by decide, by decide, by decide, by decide, by decide, by decide, by decide, by decide, by decide, _, m1, rfl, rfl, by omega, by simp, by simp, fun x hx m2 hm2 => ?_⟩
  obtain ⟨a1, a2, b1, b2, rfl, hab, hz⟩ : ∃ a1 a2 b1 b2 : Int, x = .tuple [.tuple [.int a1, .int a2], .tuple [.int b1, .int b2]] ∧ RmOk w a1 ∧ (a2 = 0 ∨ b2 = 0) := by
    simp only [List.mem_cons, List.not_mem_nil, or_false] at hx
    rcases hx with rfl | rfl | rfl | rfl
    · exact ⟨_, _, _, _, rfl, R, .inl rfl⟩
    · exact ⟨_, _, _, _, rfl, R, .inr rfl⟩
    · exact ⟨_, _, _, _, rfl, R, .inl rfl⟩
    · exact ⟨_, _, _, _, rfl, O, .inl rfl⟩
  simp -dsimp only [rR_, eCallX]
  refine ⟨w, a1, a2, b1, b2, rfl, hab, fun _ => ⟨by decide, hit rfl rfl ?_⟩, fun z1 z2 => absurd hz fun y => y.elim z1 z2, fun z1 z2 => absurd hz fun y => y.elim z1 z2⟩
  simp -dsimp only [rR_, eqt_rg, eCallX]
  refine ⟨by decide, by decide, by decide, w, r, 1 + c, o, -(1 + c), rfl, R, fun z => absurd z (by omega), fun _ _ _ => ⟨.inl rfl, mis (by show ("NotInOne" : Str) ≠ "OutOfRange"; decide) (hit rfl rfl ?_)⟩, fun _ _ z => absurd z nc⟩
  simp -dsimp only [rR_, eqt_rm, eCallX]
  refine ⟨by decide, by decide, by decide, w, o, 1 + c, r, 1, rfl, O, fun z => absurd z (by omega), fun _ _ _ => ⟨.inl rfl, mis (by show ("NotInOne" : Str) ≠ "OutOfRange"; decide) (hit rfl rfl ?_)⟩, fun _ _ z => absurd z nc2⟩
  simp -dsimp only [rR_, eqf_rm]
  exact ⟨by decide, hQ m2 (by omega)⟩
end K
set_option Elab.async false
set_option maxRecDepth 100000
set_option linter.all false
set_option autoImplicit false
set_option maxHeartbeats 4000000
namespace K
open PySem L2 Dl
variable [TabF]
def hw : Web := ⟨2, [⟨0, 1, 4, -6⟩, ⟨1, 1, 1, -1⟩]⟩
theorem hw_wo : WebOk hw 1000 := ⟨by decide, fun t ht => by
  simp only [hw, List.mem_cons, List.not_mem_nil, or_false] at ht
  rcases ht with rfl | rfl
  · exact ⟨by decide, by decide, by decide, by decide, by decide, by decide, by decide, by decide⟩
  · exact ⟨by decide, by decide, by decide, by decide, by decide, by decide, by decide, by decide⟩⟩
theorem hw_rm (r : Int) (h0 : 0 ≤ r) (h1 : r < 2) : RmOk hw r := ⟨hw_wo, by decide, by decide, h0, h1⟩
theorem hw_10 : Conn hw.ties 1 0 := .step .refl ⟨⟨0, 1, 4, -6⟩, by simp [hw], .inr ⟨rfl, rfl⟩⟩
theorem hw_cn (r s : Int) (h0 : 0 ≤ r) (h1 : r < 2) (k0 : 0 ≤ s) (k1 : s < 2) : Conn hw.ties r s := by
  have a : r = 0 ∨ r = 1 := by omega
  have b : s = 0 ∨ s = 1 := by omega
  rcases a with rfl | rfl <;> rcases b with rfl | rfl
  · exact .refl
  · exact hw_10.symm
  · exact hw_10
  · exact .refl
theorem pr_2 : IsPr 2 := ⟨by decide, fun d h => by
  have := Nat.le_of_dvd (by decide) h
  have h0 : d ≠ 0 := fun z => by subst z; revert h; decide
  omega⟩
theorem pr_3 : IsPr 3 := ⟨by decide, fun d h => by
  have := Nat.le_of_dvd (by decide) h
  have h0 : d ≠ 0 := fun z => by subst z; revert h; decide
  have h2 : d ≠ 2 := fun z => by subst z; revert h; decide
  omega⟩
theorem pr_dv {q p : Nat} (hq : IsPr q) (hp : IsPr p) (h : q ∣ p) : q = p := by
  rcases hp.2 q h with z | z
  · have := hq.1
    omega
  · exact z
theorem hw_pr : WPr hw 1 [2, 3] := ⟨by decide, fun q => by
  constructor
  · intro h
    simp only [List.mem_cons, List.not_mem_nil, or_false] at h
    rcases h with rfl | rfl
    · exact ⟨pr_2, ⟨0, 1, 4, -6⟩, by simp [hw], hw_10, by decide⟩
    · exact ⟨pr_3, ⟨0, 1, 4, -6⟩, by simp [hw], hw_10, by decide⟩
  · rintro ⟨hq, t, ht, _, hd⟩
    simp only [hw, List.mem_cons, List.not_mem_nil, or_false] at ht
    rcases ht with rfl | rfl
    · have hd : q ∣ 2 * (2 * (2 * 3)) := hd
      rcases pr_mul hq hd with z | z
      · rw [pr_dv hq pr_2 z]; simp
      · rcases pr_mul hq z with z | z
        · rw [pr_dv hq pr_2 z]; simp
        · rcases pr_mul hq z with z | z
          · rw [pr_dv hq pr_2 z]; simp
          · rw [pr_dv hq pr_3 z]; simp
    · have hd : q ∣ 1 := hd
      have := Nat.le_of_dvd (by decide) hd
      have := hq.1
      omega⟩
def hrow : List (Int × Int) := [(0, 1), (0, -1), (1, 1), (0, 2), (1, -2), (0, 3), (0, 4), (1, 6), (0, 9), (0, -9), (1, 9), (0, 8), (0, 5), (1, 10)]
theorem hrow_ok : ∀ t ∈ hrow, 0 ≤ t.1 ∧ t.1 < 2 ∧ t.2 ≠ 0 := by decide
def hlt (a b : Int × Int) : Bool := ltP (eOrd [2, 3] a.1 a.2) (eOrd [2, 3] b.1 b.2)
theorem hand_tab : (hrow.map fun a => hrow.map fun b => hlt a b) = (List.range 14).map fun k : Nat => (List.range 14).map fun j : Nat => decide ((k : Int) < (j : Int)) := by decide +kernel
theorem hand_60 : eParts [2, 3] 60 = .tuple [.int 1, .int 5, .tuple [.int 2, .int 1]] := rfl
theorem hand_126 : eParts [2, 3] (-126) = .tuple [.int (-1), .int 7, .tuple [.int 1, .int 2]] := rfl
abbrev C_law_hand_right : Cn := fun rs g Q => rs = [] ∧ Q (.d (.bool true)) g
def w_hr3 : WS :=
  (sRet (eCallP C_law_like (aCons (eName 2) (aCons (eLc (iRg1 (aCons (eLenN 1) aNil)) (gN 5) wYes (eLc (iRg1 (aCons (eLenN 1) aNil)) (gN 6) wYes (eScL 6 gtD (eName 5)) [6]) [5]) aNil))))
def w_hr2 : WS :=
  (sAsg (eLc (iLst (eName 1)) (gN 3) wYes (eLc (iLst (eName 1)) (gN 4) wYes (eCallX Ccomes_before (aCons (eName 0) (aCons (eName 3) (aCons (eName 4) aNil)))) [4]) [3]) (gN 2))
def w_hr1 : WS :=
  (sAsg (eLst (aCons (eTup (aCons (eC (.int 0)) (aCons (eC (.int 1)) aNil))) (aCons (eTup (aCons (eC (.int 0)) (aCons (eUn negD (eC (.int 1))) aNil))) (aCons (eTup (aCons (eC (.int 1)) (aCons (eC (.int 1)) aNil))) (aCons (eTup (aCons (eC (.int 0)) (aCons (eC (.int 2)) aNil))) (aCons (eTup (aCons (eC (.int 1)) (aCons (eUn negD (eC (.int 2))) aNil))) (aCons (eTup (aCons (eC (.int 0)) (aCons (eC (.int 3)) aNil))) (aCons (eTup (aCons (eC (.int 0)) (aCons (eC (.int 4)) aNil))) (aCons (eTup (aCons (eC (.int 1)) (aCons (eC (.int 6)) aNil))) (aCons (eTup (aCons (eC (.int 0)) (aCons (eC (.int 9)) aNil))) (aCons (eTup (aCons (eC (.int 0)) (aCons (eUn negD (eC (.int 9))) aNil))) (aCons (eTup (aCons (eC (.int 1)) (aCons (eC (.int 9)) aNil))) (aCons (eTup (aCons (eC (.int 0)) (aCons (eC (.int 8)) aNil))) (aCons (eTup (aCons (eC (.int 0)) (aCons (eC (.int 5)) aNil))) (aCons (eTup (aCons (eC (.int 1)) (aCons (eC (.int 10)) aNil))) aNil))))))))))))))) (gN 1))
def w_law_hand_right : WS :=
  (sSeq (sAsg (eTup (aCons (eC (.int 2)) (aCons (eTup (aCons (eTup (aCons (eC (.int 0)) (aCons (eC (.int 1)) (aCons (eC (.int 4)) (aCons (eUn negD (eC (.int 6))) aNil))))) (aCons (eTup (aCons (eC (.int 1)) (aCons (eC (.int 1)) (aCons (eC (.int 1)) (aCons (eUn negD (eC (.int 1))) aNil))))) aNil))) aNil))) (gN 0))
  (sSeq (sIf (wNot (wTru (eCallP C_law_like (aCons (eLst (aCons (eCallP Cprimes_of (aCons (eName 0) (aCons (eC (.int 1)) aNil))) (aCons (eCallX Cturn_parts (aCons (eName 0) (aCons (eC (.int 0)) (aCons (eC (.int 60)) aNil)))) (aCons (eCallX Cturn_parts (aCons (eName 0) (aCons (eC (.int 1)) (aCons (eUn negD (eC (.int 126))) aNil)))) aNil)))) (aCons (eLst (aCons (eTup (aCons (eC (.int 2)) (aCons (eC (.int 3)) aNil))) (aCons (eTup (aCons (eC (.int 1)) (aCons (eC (.int 5)) (aCons (eTup (aCons (eC (.int 2)) (aCons (eC (.int 1)) aNil))) aNil)))) (aCons (eTup (aCons (eUn negD (eC (.int 1))) (aCons (eC (.int 7)) (aCons (eTup (aCons (eC (.int 1)) (aCons (eC (.int 2)) aNil))) aNil)))) aNil)))) aNil))))) (sRet (eC (.bool false))) sNil)
  (sSeq w_hr1
  (sSeq w_hr2
  w_hr3))))
theorem len_law_hand_right (rs : List Rv) (g : Option Nat) (Q : Rv → Option Nat → Prop) (h : C_law_hand_right rs g Q) : rs.length = 0 := by
  obtain ⟨rfl, _⟩ := h
  rfl
def hdue : List Px := (List.range 14).map fun k : Nat => PyData.list ((List.range 14).map fun j : Nat => PyData.bool (decide ((k : Int) < (j : Int))))
theorem hdue_sho : Sho 40 1000000 (.list hdue) := by
  have tr : ∀ b : Bool, Sho 0 5 (.bool b) := fun b => by
    cases b <;> exact ⟨by decide +kernel, rfl, by decide, by decide +kernel, by decide +kernel⟩
  have in1 : ∀ x ∈ hdue, Sho 1 (14 * 5 + 2 * 14 + 3) x := fun x hx => by
    obtain ⟨k, _, rfl⟩ := List.mem_map.mp hx
    exact Sho.lst (fun y hy => by
      obtain ⟨j, _, rfl⟩ := List.mem_map.mp hy
      exact tr _) (by simp)
  exact (Sho.lst (n := 14) in1 (by simp [hdue])).mono (by decide) (by decide)
theorem hdue_eq : (hrow.map fun a => PyData.list (hrow.map fun b => PyData.bool (hlt a b))) = hdue := by
  have e := congrArg (List.map fun l : List Bool => (PyData.list (l.map PyData.bool) : Px)) hand_tab
  rw [List.map_map, List.map_map] at e
  have e1 : (hrow.map fun a => PyData.list (hrow.map fun b => PyData.bool (hlt a b)) : List Px) = hrow.map ((fun l : List Bool => (PyData.list (l.map PyData.bool) : Px)) ∘ fun a => hrow.map fun b => hlt a b) := List.map_congr_left fun a _ => by
    simp only [Function.comp, List.map_map]
    rfl
  rw [e1, e]
  unfold hdue
  exact List.map_congr_left fun k _ => by
    simp only [Function.comp, List.map_map]
    rfl
theorem run_hr2 {P : Fl → Prop} {x2 : Option Px} {g : Option Nat}
    (hP : P (.nx ⟨[some (.d (eW hw)), some (.d (.list (hrow.map eC2))), some (.own hdue), none, none, none, none], g⟩)) :
    w_hr2 ⟨[some (.d (eW hw)), some (.own (hrow.map eC2)), x2.map .d, none, none, none, none], g⟩ P (fun _ _ => False) := by
  simp only [w_hr2]
  try simp -dsimp only [rR_]
  refine ⟨by cases x2 <;> simp [nown], ?_⟩
  simp only [lcH]
  refine lcW_mpa eC2 (fun a : Int × Int => PyData.list (hrow.map fun b => PyData.bool (hlt a b))) hrow (fun a ha R S hR => ?_) (by decide) ?_
  · obtain ⟨a0, a1, a2⟩ := hrow_ok a ha
    simp -dsimp only [rR_, Turn1, wipeE, eC2]
    refine ⟨by cases x2 <;> simp [nown], ?_⟩
    simp only [lcH]
    refine lcW_mpa eC2 (fun b : Int × Int => PyData.bool (hlt a b)) hrow (fun b hb R2 S2 hR2 => ?_) (by decide) ?_
    · obtain ⟨b0, b1, b2⟩ := hrow_ok b hb
      simp -dsimp only [rR_, Turn1, wipeE, eC2, eCallX]
      refine ⟨hw, a.1, a.2, b.1, b.2, rfl, hw_rm _ a0 a1, fun z => absurd z fun y => y.elim a2 b2, fun _ _ z => absurd (hw_cn _ _ a0 a1 b0 b1) z, fun _ _ _ ps hps => ?_⟩
      obtain rfl : ps = [2, 3] := hps.uniq (hw_pr.of (hw_cn _ _ (by decide) (by decide) a0 a1))
      try simp -dsimp only [rR_]
      exact hR2
    · try simp -dsimp only [rR_]
      refine ⟨?_, hR⟩
      simp [wipeE, eC2]
  · try simp -dsimp only [rR_]
    rw [hdue_eq]
    exact hP
theorem run_hr3 {P : Fl → Prop} {g : Option Nat} (hP : P (.rt (.d (.bool true)) g)) :
    w_hr3 ⟨[some (.d (eW hw)), some (.d (.list (hrow.map eC2))), some (.own hdue), none, none, none, none], g⟩ P (fun _ _ => False) := by
  have l14 : (hrow.map eC2).length = 14 := rfl
  simp only [w_hr3]
  try simp -dsimp only [rR_]
  rw [l14]
  refine ⟨by unfold smI; omega, by simp [nown], ?_⟩
  simp only [lcH]
  have e14 : rngX 0 (Int.toNat ((14 : Nat) : Int)) = (List.range 14).map fun k : Nat => PyData.int (k : Int) := rfl
  rw [e14]
  refine lcW_mpa (fun k : Nat => PyData.int (k : Int)) (fun k : Nat => PyData.list ((List.range 14).map fun j : Nat => PyData.bool (decide ((k : Int) < (j : Int))))) (List.range 14) (fun a ha R S hR => ?_) (by decide) ?_
  · simp -dsimp only [rR_, Turn1, wipeE]
    rw [l14]
    refine ⟨by unfold smI; omega, by simp [nown], ?_⟩
    simp only [lcH]
    rw [e14]
    refine lcW_mpa (fun k : Nat => PyData.int (k : Int)) (fun j : Nat => PyData.bool (decide ((a : Int) < (j : Int)))) (List.range 14) (fun b hb R2 S2 hR2 => ?_) (by decide) ?_
    · simp -dsimp only [rR_, Turn1, wipeE]
      exact hR2
    · try simp -dsimp only [rR_]
      refine ⟨?_, hR⟩
      simp [wipeE]
  · try simp -dsimp only [rR_]
    refine ⟨_, rfl, .inr ⟨_, rfl⟩, hdue_sho, ?_⟩
    try simp -dsimp only [rR_]
    exact hP
theorem hand_sho : Sho 40 1000000 (.list [.tuple (eNp [2, 3]), eParts [2, 3] 60, eParts [2, 3] (-126)]) := by
  rw [hand_60, hand_126]
  have I : ∀ i : Int, i.natAbs ≤ 1000 → Sho 0 1921 (.int i) := fun i h => Sho.int (lg_of (e := 64) (by omega) (by decide) (by decide))
  have L : ∀ i : Int, i.natAbs ≤ 1000 → Sho 1 1921 (.int i) := fun i h => (I i h).mono (by decide) (Nat.le_refl _)
  have T : ∀ a b : Int, a.natAbs ≤ 1000 → b.natAbs ≤ 1000 → Sho 1 (2 * 1921 + 2 * 2 + 3) (.tuple [.int a, .int b]) := fun a b ha hb => Sho.tup (fun x hx => by
    simp only [List.mem_cons, List.not_mem_nil, or_false] at hx
    rcases hx with rfl | rfl
    · exact I _ ha
    · exact I _ hb) (by simp)
  have T3 : ∀ a b c d : Int, a.natAbs ≤ 1000 → b.natAbs ≤ 1000 → c.natAbs ≤ 1000 → d.natAbs ≤ 1000 → Sho 2 20000 (.tuple [.int a, .int b, .tuple [.int c, .int d]]) := fun a b c d ha hb hc hd =>
    (Sho.tup3 (L a ha) (L b hb) (T c d hc hd)).mono (by decide) (by decide)
  refine (Sho.lst (e := 2) (b := 20000) (n := 3) (fun x hx => ?_) (by decide)).mono (by decide) (by decide)
  simp only [List.mem_cons, List.not_mem_nil, or_false] at hx
  rcases hx with rfl | rfl | rfl
  · exact (T 2 3 (by decide) (by decide)).mono (by decide) (by decide)
  · exact T3 1 5 2 1 (by decide) (by decide) (by decide) (by decide)
  · exact T3 (-1) 7 1 2 (by decide) (by decide) (by decide) (by decide)
theorem run_hr1 {P : Fl → Prop} {g : Option Nat} (hP : P (.nx ⟨[some (.d (eW hw)), some (.own (hrow.map eC2)), none, none, none, none, none], g⟩)) :
    w_hr1 ⟨[some (.d (eW hw)), none, none, none, none, none, none], g⟩ P (fun _ _ => False) := by
  simp only [w_hr1]
  try simp -dsimp only [rR_]
  refine ⟨by decide, by decide, by decide, by decide, by decide, by decide, by decide, by decide, by decide, by decide, by decide, by decide, by decide, by decide, by decide, ?_⟩
  exact hP
theorem spec_law_hand_right (rs : List Rv) (g : Option Nat) (Q : Rv → Option Nat → Prop) (h : C_law_hand_right rs g Q) : w_law_hand_right (startC 7 rs g) (endP Q) fun _ _ => False := by
  obtain ⟨rfl, hQ⟩ := h
  generalize hA : w_hr2 = A
  generalize hB : w_hr3 = B
  generalize hC : w_hr1 = C
  simp only [w_law_hand_right, hA, hB, hC]
  simp -dsimp only [startC, List.map_cons, List.map_nil, List.cons_append, List.nil_append, List.length_cons, List.length_nil, Nat.reduceSub, Nat.reduceAdd, List.replicate_succ, List.replicate_zero]
  simp -dsimp only [rR_, eCallX]
  have ehw : (PyData.tuple [.int 2, .tuple [.tuple [.int 0, .int 1, .int 4, .int (-6)], .tuple [.int 1, .int 1, .int 1, .int (-1)]]] : Px) = eW hw := rfl
  rw [ehw]
  refine ⟨by decide, by decide, by decide, by decide, hw, 1, rfl, ⟨hw_wo, by decide, by decide, by decide, by decide⟩, fun ps hps => ?_⟩
  obtain rfl : ps = [2, 3] := hps.uniq hw_pr
  simp -dsimp only [rR_, eCallX]
  refine ⟨hw, 0, 60, rfl, hw_rm 0 (by decide) (by decide), fun z => absurd z (by decide), fun _ ps hps => ?_⟩
  obtain rfl : ps = [2, 3] := hps.uniq (hw_pr.of hw_10)
  simp -dsimp only [rR_, eCallX]
  refine ⟨hw, 1, -126, rfl, hw_rm 1 (by decide) (by decide), fun z => absurd z (by decide), fun _ ps hps => ?_⟩
  obtain rfl : ps = [2, 3] := hps.uniq hw_pr
  simp -dsimp only [rR_, eCallX]
  refine ⟨by decide, by decide, by decide, by decide, by decide, by decide, by decide, _, rfl, .inr ⟨_, rfl⟩, hand_sho, ?_⟩
  simp -dsimp only [rR_, eCallX]
  rw [if_neg (by decide), ← hC]
  refine run_hr1 ?_
  try simp -dsimp only [rR_]
  rw [← hA]
  refine run_hr2 (x2 := none) ?_
  try simp -dsimp only [rR_]
  rw [← hB]
  refine run_hr3 ?_
  try simp -dsimp only [rR_]
  exact hQ
end K
set_option Elab.async false
set_option maxRecDepth 100000
set_option linter.all false
set_option autoImplicit false
set_option maxHeartbeats 4000000
namespace K
open PySem L2 Dl
variable [TabF]
abbrev Claw : Cn := fun rs g Q => ∃ (ns : List Int), rs = [.scr ns] ∧ g = none ∧ ns.length ≤ 100 ∧ ∀ g', Q (.d (.bool true)) g'
def w_lz : WS :=
  (sSeq (sAsg (eCallG C_law_draw (aCons (eName 2) (aCons (eIxN 3 (eC (.int 0))) aNil))) (gN 6))
  (sSeq (sIf (wOr (wNot (wTru (eCallG C_law_turn_right (aCons (eName 2) (aCons (eName 3) (aCons (eName 6) aNil)))))) (wNot (wTru (eCallG C_law_turn_right (aCons (eName 2) (aCons (eName 3) (aCons (eOp subD (eIxN 3 (eC (.int 0))) (eC (.int 1))) aNil))))))) (sRet (eC (.bool false))) sNil)
  (sSeq (sAsg (eCallG C_law_draw (aCons (eName 2) (aCons (eC (.int 1)) aNil))) (gN 7))
  (sIf (wNot (wTru (eCallG C_law_refused_right (aCons (eName 2) (aCons (eName 3) (aCons (eName 7) (aCons (eOp subD (eIxN 3 (eC (.int 0))) (eC (.int 1))) aNil))))))) (sRet (eC (.bool false))) sNil))))
def wlaw : WS :=
  (sSeq (sIf (wNot (wTru (eCallP C_law_hand_right aNil))) (sRet (eC (.bool false))) sNil)
  (sSeq (sFor (iRg1 (aCons (eC (.int 2)) aNil)) (gN 1)
  (sSeq (sSetG 2 C_law_begun (aCons (eName 0) (aCons (eName 1) aNil)))
  (sSeq (sAsg (eCallG C_law_web (aCons (eName 2) (aCons (eOp addD (eC (.int 1)) (eCallG C_law_draw (aCons (eName 2) (aCons (eC (.int 3)) aNil)))) (aCons (eOp addD (eC (.int 1)) (eCallG C_law_draw (aCons (eName 2) (aCons (eC (.int 4)) aNil)))) (aCons (eCallG C_law_of (aCons (eName 2) (aCons (eLst (aCons (eC (.int 1)) (aCons (eC (.int 6)) (aCons (eC (.int 30)) (aCons (eC (.int 1000)) aNil))))) aNil))) aNil))))) (gN 3))
  (sSeq (sAsg (eIxN 3 (eC (.int 0))) (gN 4))
  (sSeq (sAsg (eIf (wOr (wB (eScL 4 gtD (eC (.int 2)))) (wB (eSc (eqD false) (eCallG C_law_draw (aCons (eName 2) (aCons (eC (.int 2)) aNil))) (eC (.int 0))))) (eTup aNil) (eTup (aCons (eTup (aCons (eName 4) (aCons (eName 4) (aCons (eC (.int 6)) (aCons (eUn negD (eC (.int 1000))) aNil))))) aNil))) (gN 5))
  (sSeq (sAsg (eTup (aCons (eAddN 4 (eC (.int 1))) (aCons (eOp addD (eIxN 3 (eC (.int 1))) (eName 5)) aNil))) (gN 3))
  w_lz))))))
  (sRet (eC (.bool true)))))
theorem lenlaw (rs : List Rv) (g : Option Nat) (Q : Rv → Option Nat → Prop) (h : Claw rs g Q) : rs.length = 1 := by
  obtain ⟨a, rfl, _⟩ := h
  rfl
theorem no_conn {ts ms : List Tie} {L : Int} (h : ∀ t ∈ ts, t.v < L ∧ t.w < L) (hm : ∀ t ∈ ms, t.v = L ∧ t.w = L) {x : Int} (c : Conn (ts ++ ms) L x) : x = L := by
  induction c with
  | refl => rfl
  | step c a ih =>
    obtain ⟨t, ht, e⟩ := a
    rw [ih] at e
    rcases List.mem_append.mp ht with z | z
    · have := h t z
      rcases e with ⟨e1, e2⟩ | ⟨e1, e2⟩ <;> omega
    · have := hm t z
      rcases e with ⟨e1, e2⟩ | ⟨e1, e2⟩ <;> omega
theorem run_lz {w : Web} {n : Nat} {y0 : Option Rv} {x1 x4 x5 x6 x7 : Option Px} {R : Fl → Prop} (wo : WebOk w 1000) (hr : 2 ≤ w.rooms) (hr2 : w.rooms ≤ 1000) (tl : w.ties.length ≤ 1000) (nc : ¬ Conn w.ties 0 (w.rooms - 1)) (hn : n + 60000 ≤ 2 ^ 40)
    (hR : ∀ (x6 x7 : Option Px) (m : Nat), R (.nx ⟨[y0, x1.map .d, some .gen, some (.d (eW w)), x4.map .d, x5.map .d, x6.map .d, x7.map .d], some m⟩)) :
    w_lz ⟨[y0, x1.map .d, some .gen, some (.d (eW w)), x4.map .d, x5.map .d, x6.map .d, x7.map .d], some n⟩ R (fun _ _ => False) := by
  have eW0 : ∀ q : Px → Prop, ixD (eW w) (.int 0) q = q (.int w.rooms) := fun q => by unfold eW; rw [ixt0]
  have RO : ∀ r, 0 ≤ r → r < w.rooms → RmOk w r := fun r a b => ⟨wo, tl, hr2, a, b⟩
  simp only [w_lz]
  simp -dsimp only [rR_, eW0]
  refine ⟨_, _, rfl, rfl, by omega, by omega, pow9000 (by omega) (by omega), fun a m1 haa hab hm1 => ?_⟩
  try simp -dsimp only [rR_]
  refine ⟨w, a, m1, rfl, rfl, RO a (by omega) (by omega), by omega, fun m2 hm2 => ?_⟩
  simp -dsimp only [rR_, eW0]
  refine ⟨w, w.rooms - 1, m2, rfl, rfl, RO _ (by omega) (by omega), by omega, fun m3 hm3 => ?_⟩
  simp -dsimp only [rR_, eW0]
  refine ⟨_, _, rfl, rfl, by omega, by omega, pow9000 (by omega) (by omega), fun b m4 hba hbb hm4 => ?_⟩
  have b0 : b = 0 := by omega
  subst b0
  simp -dsimp only [rR_, eW0]
  refine ⟨w, 0, w.rooms - 1, m4, rfl, rfl, RO 0 (by omega) (by omega), RO _ (by omega) (by omega), nc, by omega, fun m5 hm5 => ?_⟩
  try simp -dsimp only [rR_]
  exact hR (some _) (some _) m5
theorem speclaw (rs : List Rv) (g : Option Nat) (Q : Rv → Option Nat → Prop) (h : Claw rs g Q) : wlaw (startC 8 rs g) (endP Q) fun _ _ => False := by
  obtain ⟨ns, rfl, rfl, hl, hQ⟩ := h
  generalize hW : w_lz = W
  simp only [wlaw, hW]
  simp -dsimp only [startC, List.map_cons, List.map_nil, List.cons_append, List.nil_append, List.length_cons, List.length_nil, Nat.reduceSub, Nat.reduceAdd, List.replicate_succ, List.replicate_zero]
  try simp -dsimp only [rR_]
  refine ⟨rfl, ?_⟩
  try simp -dsimp only [rR_]
  rw [if_neg (by decide)]
  refine ⟨by unfold smI; omega, ?_⟩
  simp only [forH]
  refine forW_ind _ (fun i c => ∃ (x1 x3 x4 x5 x6 x7 : Option Px) (y2 : Option Rv) (g : Option Nat), c = ⟨[some (.scr ns), x1.map .d, y2, x3.map .d, x4.map .d, x5.map .d, x6.map .d, x7.map .d], g⟩) (fun i x c hx hI R hR => ?_) (fun c hI => ?_) _ ⟨none, none, none, none, none, none, none, none, rfl⟩
  · obtain ⟨x1, x3, x4, x5, x6, x7, y2, g, rfl⟩ := hI
    obtain ⟨hi, rfl⟩ := rng_at hx
    have hi3 : i < 2 := by omega
    simp -dsimp only [rR_, Int.zero_add]
    refine ⟨fun j hj => ?_, ns, (i : Int), rfl, rfl, by omega, by omega, hl, rfl, 0, rfl, ?_⟩
    · match j with
      | 0 => simp
      | 1 => simp
      | 2 => exact absurd rfl hj
      | 3 => cases x3 <;> simp
      | 4 => cases x4 <;> simp
      | 5 => cases x5 <;> simp
      | 6 => cases x6 <;> simp
      | 7 => cases x7 <;> simp
      | n + 8 => simp
    try simp -dsimp only [rR_]
    refine ⟨_, _, rfl, rfl, by omega, by omega, pow9000 (by omega) (by omega), fun c0 m1 hc0a hc0b hm1 => ?_⟩
    try simp -dsimp only [rR_]
    refine ⟨_, _, rfl, rfl, by omega, by omega, pow9000 (by omega) (by omega), fun c1 m2 hc1a hc1b hm2 => ?_⟩
    try simp -dsimp only [rR_]
    refine ⟨by decide, _, m2, rfl, rfl, by omega, by simp, by simp, fun x hx m3 hm3 => ?_⟩
    obtain ⟨e, rfl, he1, he4⟩ : ∃ r : Int, x = .int r ∧ 1 ≤ r ∧ r ≤ 1000 := by
      simp only [List.mem_cons, List.not_mem_nil, or_false] at hx
      rcases hx with rfl | rfl | rfl | rfl <;> exact ⟨_, rfl, by decide, by decide⟩
    try simp -dsimp only [rR_]
    refine ⟨_, _, e, m3, rfl, rfl, by omega, by omega, by omega, by omega, by omega, by omega, by omega, fun w m4 hwo hwr hwt hm4 => ?_⟩
    have wo : WebOk w 1000 := hwo.up (by omega)
    have eW0 : ∀ q : Px → Prop, ixD (eW w) (.int 0) q = q (.int w.rooms) := fun q => by unfold eW; rw [ixt0]
    have eW1 : ∀ q : Px → Prop, ixD (eW w) (.int 1) q = q (.tuple (w.ties.map eT)) := fun q => by unfold eW; rw [ixt1]
    simp -dsimp only [rR_, eW0, eW1]
    have mid : ∀ (ms : List Tie) (m5 : Nat) (x5 : Px), (ms = [] ∨ ms = [⟨w.rooms, w.rooms, 6, -1000⟩]) → m5 ≤ 2000 → W ⟨[some (.scr ns), some (.d (.int (i : Int))), some .gen, some (.d (eW ⟨w.rooms + 1, w.ties ++ ms⟩)), some (.d (.int w.rooms)), some (.d x5), x6.map .d, x7.map .d], some m5⟩ (fun fl => match fl with
        | .nx c2 => R c2
        | .ct c2 => R c2
        | .bk c2 => sRet (eC (.bool true)) c2 (endP Q) fun _ _ => False
        | .rt r gs => Q r gs) (fun _ _ => False) := fun ms m5 x5 hms hm5 => by
      have wm : ∀ t ∈ ms, t = ⟨w.rooms, w.rooms, 6, -1000⟩ := fun t ht => by
        rcases hms with rfl | rfl
        · cases ht
        · simpa using ht
      have r0 := wo.r0
      rw [← hW]
      refine run_lz (x1 := some _) (x4 := some _) (x5 := some _) (n := m5) ⟨by show 1 ≤ w.rooms + 1; omega, fun t ht => ?_⟩ (by show 2 ≤ w.rooms + 1; omega) (by show w.rooms + 1 ≤ 1000; omega) ?_ ?_ (by omega) (fun x6 x7 m => hR _ ⟨some _, some _, some _, some _, x6, x7, _, _, rfl⟩)
      · rcases List.mem_append.mp ht with h | h
        · have o := wo.tie t h
          have := o.v1
          have := o.w1
          exact ⟨o.v0, by show t.v < w.rooms + 1; omega, o.w0, by show t.w < w.rooms + 1; omega, o.p0, o.p1, o.q0, o.q1⟩
        · rw [wm t h]
          exact ⟨by show 0 ≤ w.rooms; omega, by show w.rooms < w.rooms + 1; omega, by show 0 ≤ w.rooms; omega, by show w.rooms < w.rooms + 1; omega, (by decide : (6 : Int) ≠ 0), (by decide : (((6 : Int).natAbs : Nat) : Int) ≤ 1000), (by decide : (-1000 : Int) ≠ 0), (by decide : (((-1000 : Int).natAbs : Nat) : Int) ≤ 1000)⟩
      · show (w.ties ++ ms).length ≤ 1000
        rw [List.length_append]
        rcases hms with rfl | rfl <;> simp <;> omega
      · show ¬ Conn (w.ties ++ ms) 0 (w.rooms + 1 - 1)
        rw [show w.rooms + 1 - 1 = w.rooms by omega]
        intro z
        have := no_conn (L := w.rooms) (fun t ht => ⟨(wo.tie t ht).v1, (wo.tie t ht).w1⟩) (fun t ht => by rw [wm t ht]; exact ⟨rfl, rfl⟩) z.symm
        omega
    have lw : w.ties.length ≤ 10 := by omega
    have m4b : m4 ≤ 710 := by omega
    have eN : ∀ (ms : List Tie), (PyData.tuple [PyData.int (w.rooms + 1), PyData.tuple (List.map eT w.ties ++ ms.map eT)] : Px) = eW ⟨w.rooms + 1, w.ties ++ ms⟩ := fun ms => by
      unfold eW
      rw [List.map_append]
    have more : ∀ m5, m5 ≤ 2000 → W ⟨[some (.scr ns), some (.d (.int (i : Int))), some .gen, some (.d (eW ⟨w.rooms + 1, w.ties ++ []⟩)), some (.d (.int w.rooms)), some (.d (.tuple [])), x6.map .d, x7.map .d], some m5⟩ _ (fun _ _ => False) := fun m5 hm5 => mid [] m5 (.tuple []) (.inl rfl) hm5
    have more2 : ∀ m5, m5 ≤ 2000 → W ⟨[some (.scr ns), some (.d (.int (i : Int))), some .gen, some (.d (eW ⟨w.rooms + 1, w.ties ++ [⟨w.rooms, w.rooms, 6, -1000⟩]⟩)), some (.d (.int w.rooms)), some (.d (.tuple [eT ⟨w.rooms, w.rooms, 6, -1000⟩])), x6.map .d, x7.map .d], some m5⟩ _ (fun _ _ => False) := fun m5 hm5 => mid _ m5 _ (.inr rfl) hm5
    simp only [← eN, List.map_nil, List.map_cons] at more more2
    by_cases h2 : 2 < w.rooms
    · rw [if_pos h2]
      exact ⟨by decide, by simp; omega, by decide, more m4 (by omega)⟩
    · rw [if_neg h2]
      refine ⟨_, _, rfl, rfl, by omega, by omega, pow9000 (by omega) (by omega), fun d m5 hda hdb hm5 => ?_⟩
      simp -dsimp only [rR_, eW1]
      by_cases hd : d = 0
      · have e1 : (d == 0) = true := by rw [hd]; rfl
        simp -dsimp only [rR_, e1, eW1]
        exact ⟨by decide, by simp; omega, by decide, more m5 (by omega)⟩
      · have e1 : (d == 0) = false := by rw [beq_eq_false_iff_ne]; exact hd
        simp -dsimp only [rR_, e1, eW1]
        exact ⟨by decide, by decide, by simp; omega, by decide, more2 m5 (by omega)⟩
  · obtain ⟨x1, x3, x4, x5, x6, x7, y2, g, rfl⟩ := hI
    try simp -dsimp only [rR_]
    exact hQ _
end K
set_option Elab.async false
set_option maxRecDepth 100000
set_option linter.all false
set_option autoImplicit false
set_option maxHeartbeats 4000000
namespace K
open PySem L2 Dl
variable [TabF]
theorem def_fn {P : Program} {w : World} {K : PySem.W.Frag} {mg : Str → Option Value} {base : Heap} {x qual : Str} {st : Stmt} {f : Addr} {fd : FuncData} {N ps : List Str} {k : Nat} {Pr : Cn} (nog : Bool) (F : FunD K x qual (defArgs st) (defBody st) (defScope st) [] [] f fd) (S : FnScope N ps (defScope st)) (hmg : mg x = some (.ref f)) (bi : Binds K fd ps [])
    (fw : WS) (len : ∀ rs g Q, Pr rs g Q → rs.length = ps.length) (hn : nog = true → ∀ rs g Q, Pr rs g Q → g = none) (spec : ∀ rs g Q, Pr rs g Q → fw (startC N.length rs g) (endP Q) fun _ _ => False)
    (hbody : ∀ (cdv : Value) (A : Around) (outer : List Env) (s : Shared) (H : Hp) (E : XK) (Δ : Dx), RoomG k (A.deeper (PyProof.Rows.envOfC qual (defScope st) s.heap.objs.size f cdv)) → Δ.K = K → (nog = true → Δ.a0 = none) →
      PSs (cxOf CX0 P w K mg base N qual (defScope st) f cdv A outer s H E).nox (defBody st) (tS Δ fw)) : FnG P w K mg base CX0 (k + 1) f fd ps (spD K Pr) := by
  refine fnG_of F S (fun vs H Q E h => ?_) (fun cdv A outer s H vs Q E hr h => ?_)
  · obtain ⟨am, G, rs, g, q, _, _, _, h3, h4, _⟩ := h
    rw [← h3.length]
    exact len rs g q h4
  · obtain ⟨am, G, rs, g, q, h1, ht, h2, h3, h4, h5⟩ := h
    refine ⟨_, PSs.nox (hbody cdv A outer s H E (dx0 K am g G H) hr rfl (fun z => by rw [hn z rs g q h4]; rfl)), am, G, _, _, _, start_ok h1 ht h2 h3, spec rs g q h4, ⟨fun c am' F' σ' H' p l o => ?_, fun _ _ _ _ _ z => z.elim, fun _ _ _ _ _ z => z.elim, fun r g' am' F' H' v p l fn s => ?_⟩, fun _ _ _ _ _ z => z.elim⟩
    · exact h5 _ _ am' F' _ H' p l o.fin .non
    · exact h5 r g' am' F' v H' p l fn s
theorem nog_law_begun (rs : List Rv) (g : Option Nat) (Q : Rv → Option Nat → Prop) (h : C_law_begun rs g Q) : g = none := by
  obtain ⟨_, _, _, e, _⟩ := h
  exact e
theorem noglaw (rs : List Rv) (g : Option Nat) (Q : Rv → Option Nat → Prop) (h : Claw rs g Q) : g = none := by
  obtain ⟨_, _, e, _⟩ := h
  exact e
section
variable {P : Program} {w : World} {K : PySem.W.Frag} {mg : Str → Option Value} {base : Heap}
theorem ini_NotInOne {f C : Addr} {fd : FuncData} (F : FunD K "__init__" "NotInOne.__init__" (defArgs i_NotInOne) (defBody i_NotInOne) (defScope i_NotInOne) [] [] f fd) (na : PySem.W.findIn K (.ref C) "room" = some none) (T : OexC K C) : FnOk P w K mg base CX0 1 f fd ["self", "room"] (spIni C "room") :=
  ini_ok (N := ["self", "room"]) F ⟨rfl, rfl, rfl, by decide +kernel, rfl, by decide +kernel, by decide +kernel⟩ rfl T na (fun cdv A outer s H E => pss_one (ps_ost (pv 0) (pv 1)))
theorem ini_OutOfRange {f C : Addr} {fd : FuncData} (F : FunD K "__init__" "OutOfRange.__init__" (defArgs i_OutOfRange) (defBody i_OutOfRange) (defScope i_OutOfRange) [] [] f fd) (na : PySem.W.findIn K (.ref C) "value" = some none) (T : OexC K C) : FnOk P w K mg base CX0 1 f fd ["self", "value"] (spIni C "value") :=
  ini_ok (N := ["self", "value"]) F ⟨rfl, rfl, rfl, by decide +kernel, rfl, by decide +kernel, by decide +kernel⟩ rfl T na (fun cdv A outer s H E => pss_one (ps_ost (pv 0) (pv 1)))
abbrev n_law_heard : List Str := ["call", "e"]
abbrev p_law_heard : List Str := ["call"]
theorem sc_law_heard : FnScope n_law_heard p_law_heard (defScope s_law_heard) := ⟨rfl, rfl, rfl, by decide +kernel, rfl, by decide +kernel, by decide +kernel⟩
theorem h_law_heard {X : Cx} {g : Addr} {q : Str} {X_NotInOne : Addr} (x_NotInOne : XKit X.prog X.w X.K X.mg X.base "NotInOne" "room" X_NotInOne) {X_OutOfRange : Addr} (x_OutOfRange : XKit X.prog X.w X.K X.mg X.base "OutOfRange" "value" X_OutOfRange) (cdg : Value) : GivesG X n_law_heard "_law_heard" "call" q (defScope s_law_heard) g cdg (defBody s_law_heard) (TTh X.K false [(X_OutOfRange, ⟨"OutOfRange", 1, .tup [.st "range", .fl "value"]⟩), (X_NotInOne, ⟨"NotInOne", 1, .tup [.st "room", .fl "room"]⟩)]) := by
  have S := sc_law_heard
  exact heard_ret (hs := [(X_OutOfRange, ⟨"OutOfRange", 1, .tup [.st "range", .fl "value"]⟩), (X_NotInOne, ⟨"NotInOne", 1, .tup [.st "room", .fl "room"]⟩)]) (fun _ => rfl) S.nd (by
    intro h hh
    simp only [List.mem_cons, List.not_mem_nil, or_false] at hh
    rcases hh with rfl | rfl <;> (show 1 < 2; decide)) (by decide) (fun s H => (.cons rfl rfl (names_of x_OutOfRange (by rfl)) (fun a o cls d pn z fs => claR_ok (cl := "OutOfRange") (ie := 1) (ps := [.st "range", .fl "value"]) a o cls d pn (pa_cons pe_str (pa_cons (pe_xf x_OutOfRange.c.f x_OutOfRange.na z fs (pe_var rfl (Or.inl rfl))) pa_nil))) (.cons rfl rfl (names_of x_NotInOne (by rfl)) (fun a o cls d pn z fs => claR_ok (cl := "NotInOne") (ie := 1) (ps := [.st "room", .fl "room"]) a o cls d pn (pa_cons pe_str (pa_cons (pe_xf x_NotInOne.c.f x_NotInOne.na z fs (pe_var rfl (Or.inl rfl))) pa_nil))) .nil)))
abbrev n_law_like : List Str := ["got", "due"]
abbrev p_law_like : List Str := ["got", "due"]
theorem sc_law_like : FnScope n_law_like p_law_like (defScope s_law_like) := ⟨rfl, rfl, rfl, by decide +kernel, rfl, by decide +kernel, by decide +kernel⟩
theorem k_law_like {f : Addr} {fd : FuncData} (hKK : K = TabF.K) (hCN : ∀ a, TabF.C a = none) (F : FunD K "_law_like" "_law_like" (defArgs s_law_like) (defBody s_law_like) (defScope s_law_like) [] [] f fd) (hm : mg "_law_like" = some (.ref f)) (b_repr : mg "repr" = none) : CalD P w K mg base 1 "_law_like" C_law_like := by
  have S := sc_law_like
  refine def_ok false F S hm (F.bindsN fun _ _ _ _ _ _ us hl => match us, hl with | [_, _], _ => rfl) w_law_like len_law_like (fun z => nomatch z) spec_law_like (fun cdv A outer s H E Δ hr hK ha0 => ?_)
  have hu := hu_of hr.toRoom
  exact (dss_one (ds_ret (de_cmp' (sc_eq hr.units) (de_cb (cl_reprM hr hK) (by rfl) b_repr (by decide +kernel) (da_cons (de_name 0) da_nil)) (de_cb (cl_reprM hr hK) (by rfl) b_repr (by decide +kernel) (da_cons (de_name 1) da_nil)) (nomark _))))
abbrev nways_out : List Str := ["web", "room", "ways", "number", "tie"]
abbrev pways_out : List Str := ["web", "room"]
theorem scways_out : FnScope nways_out pways_out (defScope sways_out) := ⟨rfl, rfl, rfl, by decide +kernel, rfl, by decide +kernel, by decide +kernel⟩
theorem kways_out {f : Addr} {fd : FuncData} (hKK : K = TabF.K) (hCN : ∀ a, TabF.C a = none) (F : FunD K "ways_out" "ways_out" (defArgs sways_out) (defBody sways_out) (defScope sways_out) [] [] f fd) (hm : mg "ways_out" = some (.ref f)) (b_enumerate : mg "enumerate" = none) (b_tuple : mg "tuple" = none) : CalD P w K mg base 1 "ways_out" Cways_out := by
  have S := scways_out
  refine def_ok false F S hm (F.bindsN fun _ _ _ _ _ _ us hl => match us, hl with | [_, _], _ => rfl) wways_out lenways_out (fun z => nomatch z) specways_out (fun cdv A outer s H E Δ hr hK ha0 => ?_)
  have hu := hu_of hr.toRoom
  exact (dss_cons (ds_set 2 S.nd (de_lst da_nil))
  (dss_cons (ds_for PassesOwn.never rfl (di_enT hK (by rfl) b_enumerate (da_cons (de_ixN 0 de_int (fun _ _ => rfl)) da_nil)) (dg_tup (n := 2) rfl (dgs_cons (dg_name 3 S.nd) (dgs_cons (dg_name 4 S.nd) dgs_nil)))
  (dss_cons (ds_if (dt_cmpNR 1 (sc_eq hr.units) (de_ixN 4 de_int (fun _ _ => rfl)) (nomark _)) (dss_one (ds_expr (de_app 2 (de_tup (da_cons (de_name 3) (da_cons de_int da_nil)))))) dss_nil)
  (dss_one (ds_if (dt_cmpNR 1 (sc_eq hr.units) (de_ixN 4 de_int (fun _ _ => rfl)) (nomark _)) (dss_one (ds_expr (de_app 2 (de_tup (da_cons (de_name 3) (da_cons (de_un do_neg de_int) da_nil)))))) dss_nil))))
  (dss_one (ds_ret (de_ct (cl_tup hK) (by rfl) b_tuple (by decide +kernel) (da_cons (de_name 2) da_nil))))))
abbrev nends_of : List Str := ["web", "tie", "side", "v", "w", "p", "q"]
abbrev pends_of : List Str := ["web", "tie", "side"]
theorem scends_of : FnScope nends_of pends_of (defScope sends_of) := ⟨rfl, rfl, rfl, by decide +kernel, rfl, by decide +kernel, by decide +kernel⟩
theorem kends_of {f : Addr} {fd : FuncData} (hKK : K = TabF.K) (hCN : ∀ a, TabF.C a = none) (F : FunD K "ends_of" "ends_of" (defArgs sends_of) (defBody sends_of) (defScope sends_of) [] [] f fd) (hm : mg "ends_of" = some (.ref f)) : CalD P w K mg base 1 "ends_of" Cends_of := by
  have S := scends_of
  refine def_ok false F S hm (F.bindsN fun _ _ _ _ _ _ us hl => match us, hl with | [_, _, _], _ => rfl) wends_of lenends_of (fun z => nomatch z) specends_of (fun cdv A outer s H E Δ hr hK ha0 => ?_)
  have hu := hu_of hr.toRoom
  exact (dss_cons (ds_asg (de_ix (de_ixN 0 de_int (fun _ _ => rfl)) (de_name 1) (fun _ _ => rfl)) (dg_tup (n := 4) rfl (dgs_cons (dg_name 3 S.nd) (dgs_cons (dg_name 4 S.nd) (dgs_cons (dg_name 5 S.nd) (dgs_cons (dg_name 6 S.nd) dgs_nil))))))
  (dss_cons (ds_if (dt_cmpNL 2 (sc_eq hr.units) de_int (nomark _)) (dss_one (ds_ret (de_tup (da_cons (de_name 3) (da_cons (de_name 4) (da_cons (de_name 5) (da_cons (de_name 6) da_nil))))))) dss_nil)
  (dss_one (ds_ret (de_tup (da_cons (de_name 4) (da_cons (de_name 3) (da_cons (de_name 6) (da_cons (de_name 5) da_nil)))))))))
abbrev npiece_of : List Str := ["web", "room", "met", "waiting", "at", "tie", "side", "other"]
abbrev ppiece_of : List Str := ["web", "room"]
theorem scpiece_of : FnScope npiece_of ppiece_of (defScope spiece_of) := ⟨rfl, rfl, rfl, by decide +kernel, rfl, by decide +kernel, by decide +kernel⟩
theorem kpiece_of {f : Addr} {fd : FuncData} (hKK : K = TabF.K) (hCN : ∀ a, TabF.C a = none) (F : FunD K "piece_of" "piece_of" (defArgs spiece_of) (defBody spiece_of) (defScope spiece_of) [] [] f fd) (hm : mg "piece_of" = some (.ref f)) (b_sorted : mg "sorted" = none) (b_tuple : mg "tuple" = none) (cends_of : CalD P w K mg base 1 "ends_of" Cends_of) (cways_out : CalD P w K mg base 1 "ways_out" Cways_out) : CalD P w K mg base 2 "piece_of" Cpiece_of := by
  have S := scpiece_of
  refine def_ok false F S hm (F.bindsN fun _ _ _ _ _ _ us hl => match us, hl with | [_, _], _ => rfl) wpiece_of lenpiece_of (fun z => nomatch z) specpiece_of (fun cdv A outer s H E Δ hr hK ha0 => ?_)
  have hu := hu_of hr.toRoom
  exact (dss_cons (ds_set 2 S.nd (de_lst (da_cons (de_name 1) da_nil)))
  (dss_cons (ds_set 3 S.nd (de_lst (da_cons (de_name 1) da_nil)))
  (dss_cons (ds_wh PassesOwn.never (dt_truN 3)
  (dss_cons (ds_set 4 S.nd (de_pop 3))
  (dss_one (ds_for PassesOwn.never rfl (di_t (de_callP cways_out hK (hr.mono (by decide)) (by rfl) (da_cons (de_name 0) (da_cons (de_name 4) da_nil)))) (dg_tup (n := 2) rfl (dgs_cons (dg_name 5 S.nd) (dgs_cons (dg_name 6 S.nd) dgs_nil)))
  (dss_cons (ds_set 7 S.nd (de_ix (de_callP cends_of hK (hr.mono (by decide)) (by rfl) (da_cons (de_name 0) (da_cons (de_name 5) (da_cons (de_name 6) da_nil)))) de_int (fun _ _ => rfl)))
  (dss_one (ds_if (dt_cmpNR 2 sc_notin (de_name 7) (by rfl)) (dss_cons (ds_expr (de_app 2 (de_name 7)))
  (dss_one (ds_expr (de_app 3 (de_name 7))))) dss_nil)))))))
  (dss_one (ds_ret (de_ct (cl_tup hK) (by rfl) b_tuple (by decide +kernel) (da_cons (de_cb (cl_sortI hK) (by rfl) b_sorted (by decide +kernel) (da_cons (de_name 2) da_nil)) da_nil)))))))
abbrev nprime_divisors : List Str := ["number", "left", "primes", "divisor"]
abbrev pprime_divisors : List Str := ["number"]
theorem scprime_divisors : FnScope nprime_divisors pprime_divisors (defScope sprime_divisors) := ⟨rfl, rfl, rfl, by decide +kernel, rfl, by decide +kernel, by decide +kernel⟩
theorem kprime_divisors {f : Addr} {fd : FuncData} (hKK : K = TabF.K) (hCN : ∀ a, TabF.C a = none) (F : FunD K "prime_divisors" "prime_divisors" (defArgs sprime_divisors) (defBody sprime_divisors) (defScope sprime_divisors) [] [] f fd) (hm : mg "prime_divisors" = some (.ref f)) (b_abs : mg "abs" = none) : CalD P w K mg base 1 "prime_divisors" Cprime_divisors := by
  have S := scprime_divisors
  refine def_ok false F S hm (F.bindsN fun _ _ _ _ _ _ us hl => match us, hl with | [_], _ => rfl) wprime_divisors lenprime_divisors (fun z => nomatch z) specprime_divisors (fun cdv A outer s H E Δ hr hK ha0 => ?_)
  have hu := hu_of hr.toRoom
  exact (dss_cons (ds_set 1 S.nd (de_cb cl_abs (by rfl) b_abs (by decide +kernel) (da_cons (de_name 0) da_nil)))
  (dss_cons (ds_set 2 S.nd (de_lst da_nil))
  (dss_cons (ds_set 3 S.nd de_int)
  (dss_cons (ds_wh PassesOwn.never (dt_cmpNR 1 sc_le (de_op do_mul' (de_name 3) (de_name 3)) (nomark _))
  (dss_cons (ds_if (dt_cmp (sc_eq hr.units) (de_op do_mod' (de_name 1) (de_name 3)) de_int (nomark _)) (dss_one (ds_expr (de_app 2 (de_name 3)))) dss_nil)
  (dss_cons (ds_wh PassesOwn.never (dt_cmp (sc_eq hr.units) (de_op do_mod' (de_name 1) (de_name 3)) de_int (nomark _))
  (dss_one (ds_aug 1 S.nd (de_name 3) di_fdiv')))
  (dss_one (ds_aug 3 S.nd de_int di_add')))))
  (dss_cons (ds_if (dt_cmpNL 1 sc_gt de_int (nomark _)) (dss_one (ds_expr (de_app 2 (de_name 1)))) dss_nil)
  (dss_one (ds_ret (de_name 2))))))))
abbrev nprimes_of : List Str := ["web", "room", "piece", "primes", "v", "_", "p", "q", "prime"]
abbrev pprimes_of : List Str := ["web", "room"]
theorem scprimes_of : FnScope nprimes_of pprimes_of (defScope sprimes_of) := ⟨rfl, rfl, rfl, by decide +kernel, rfl, by decide +kernel, by decide +kernel⟩
theorem kprimes_of {f : Addr} {fd : FuncData} (hKK : K = TabF.K) (hCN : ∀ a, TabF.C a = none) (F : FunD K "primes_of" "primes_of" (defArgs sprimes_of) (defBody sprimes_of) (defScope sprimes_of) [] [] f fd) (hm : mg "primes_of" = some (.ref f)) (b_sorted : mg "sorted" = none) (b_tuple : mg "tuple" = none) (cpiece_of : CalD P w K mg base 2 "piece_of" Cpiece_of) (cprime_divisors : CalD P w K mg base 1 "prime_divisors" Cprime_divisors) : CalD P w K mg base 3 "primes_of" Cprimes_of := by
  have S := scprimes_of
  refine def_ok false F S hm (F.bindsN fun _ _ _ _ _ _ us hl => match us, hl with | [_, _], _ => rfl) wprimes_of lenprimes_of (fun z => nomatch z) specprimes_of (fun cdv A outer s H E Δ hr hK ha0 => ?_)
  have hu := hu_of hr.toRoom
  exact (dss_cons (ds_set 2 S.nd (de_callP cpiece_of hK (hr.mono (by decide)) (by rfl) (da_cons (de_name 0) (da_cons (de_name 1) da_nil))))
  (dss_cons (ds_set 3 S.nd (de_lst da_nil))
  (dss_cons (ds_for PassesOwn.never rfl (di_t (de_ixN 0 de_int (fun _ _ => rfl))) (dg_tup (n := 4) rfl (dgs_cons (dg_name 4 S.nd) (dgs_cons (dg_name 5 S.nd) (dgs_cons (dg_name 6 S.nd) (dgs_cons (dg_name 7 S.nd) dgs_nil)))))
  (dss_one (ds_if (dt_cmpNR 2 sc_in (de_name 4) (by rfl)) (dss_one (ds_expr (de_ext 3 (de_lc (own := [("prime", 8)]) rfl S.nd (di_l (de_callP cprime_divisors hK (hr.mono (by decide)) (by rfl) (da_cons (de_op do_mul' (de_name 6) (de_name 7)) da_nil))) (blkOk_by (own := [("prime", 8)]) (N := nprimes_of) (sc := defScope sprimes_of) (by decide +kernel)) (fun _ _ _ _ _ Δ _ => (dg_name 8 S.nd)) (fun _ _ _ _ _ Δ e1 => (pts_one (dt_cmpNR 3 sc_notin (de_name 8) (by rfl)))) (fun _ _ _ _ _ Δ e2 => (de_name 8)))))) dss_nil)))
  (dss_one (ds_ret (de_ct (cl_tup hK) (by rfl) b_tuple (by decide +kernel) (da_cons (de_cb (cl_sortI hK) (by rfl) b_sorted (by decide +kernel) (da_cons (de_name 3) da_nil)) da_nil)))))))
abbrev nparts_for : List Str := ["primes", "turns", "sign", "rest", "exponents", "prime", "exponent"]
abbrev pparts_for : List Str := ["primes", "turns"]
theorem scparts_for : FnScope nparts_for pparts_for (defScope sparts_for) := ⟨rfl, rfl, rfl, by decide +kernel, rfl, by decide +kernel, by decide +kernel⟩
theorem kparts_for {f : Addr} {fd : FuncData} (hKK : K = TabF.K) (hCN : ∀ a, TabF.C a = none) (F : FunD K "parts_for" "parts_for" (defArgs sparts_for) (defBody sparts_for) (defScope sparts_for) [] [] f fd) (hm : mg "parts_for" = some (.ref f)) (b_abs : mg "abs" = none) (b_tuple : mg "tuple" = none) : CalD P w K mg base 1 "parts_for" Cparts_for := by
  have S := scparts_for
  refine def_ok false F S hm (F.bindsN fun _ _ _ _ _ _ us hl => match us, hl with | [_, _], _ => rfl) wparts_for lenparts_for (fun z => nomatch z) specparts_for (fun cdv A outer s H E Δ hr hK ha0 => ?_)
  have hu := hu_of hr.toRoom
  exact (dss_cons (ds_set 2 S.nd de_int)
  (dss_cons (ds_if (dt_cmpNL 1 sc_lt de_int (nomark _)) (dss_one (ds_set 2 S.nd (de_un do_neg de_int))) dss_nil)
  (dss_cons (ds_set 3 S.nd (de_cb cl_abs (by rfl) b_abs (by decide +kernel) (da_cons (de_name 1) da_nil)))
  (dss_cons (ds_set 4 S.nd (de_lst da_nil))
  (dss_cons (ds_for PassesOwn.never rfl (di_t (de_name 0)) (dg_name 5 S.nd)
  (dss_cons (ds_set 6 S.nd de_int)
  (dss_cons (ds_wh PassesOwn.never (dt_cmp (sc_eq hr.units) (de_op do_mod' (de_name 3) (de_name 5)) de_int (nomark _))
  (dss_cons (ds_aug 3 S.nd (de_name 5) di_fdiv')
  (dss_one (ds_aug 6 S.nd de_int di_add'))))
  (dss_one (ds_expr (de_app 4 (de_name 6)))))))
  (dss_one (ds_ret (de_tup (da_cons (de_name 2) (da_cons (de_name 3) (da_cons (de_ct (cl_tup hK) (by rfl) b_tuple (by decide +kernel) (da_cons (de_name 4) da_nil)) da_nil)))))))))))
abbrev norder_for : List Str := ["primes", "turn", "room", "turns", "sign", "rest", "exponents", "lowered", "exponent"]
abbrev porder_for : List Str := ["primes", "turn"]
theorem scorder_for : FnScope norder_for porder_for (defScope sorder_for) := ⟨rfl, rfl, rfl, by decide +kernel, rfl, by decide +kernel, by decide +kernel⟩
theorem korder_for {f : Addr} {fd : FuncData} (hKK : K = TabF.K) (hCN : ∀ a, TabF.C a = none) (F : FunD K "order_for" "order_for" (defArgs sorder_for) (defBody sorder_for) (defScope sorder_for) [] [] f fd) (hm : mg "order_for" = some (.ref f)) (b_sum : mg "sum" = none) (b_tuple : mg "tuple" = none) (cparts_for : CalD P w K mg base 1 "parts_for" Cparts_for) : CalD P w K mg base 2 "order_for" Corder_for := by
  have S := scorder_for
  refine def_ok false F S hm (F.bindsN fun _ _ _ _ _ _ us hl => match us, hl with | [_, _], _ => rfl) worder_for lenorder_for (fun z => nomatch z) specorder_for (fun cdv A outer s H E Δ hr hK ha0 => ?_)
  have hu := hu_of hr.toRoom
  exact (dss_cons (ds_asg (de_name 1) (dg_tup (n := 2) rfl (dgs_cons (dg_name 2 S.nd) (dgs_cons (dg_name 3 S.nd) dgs_nil))))
  (dss_cons (ds_asg (de_callP cparts_for hK (hr.mono (by decide)) (by rfl) (da_cons (de_name 0) (da_cons (de_name 3) da_nil))) (dg_tup (n := 3) rfl (dgs_cons (dg_name 4 S.nd) (dgs_cons (dg_name 5 S.nd) (dgs_cons (dg_name 6 S.nd) dgs_nil)))))
  (dss_cons (ds_set 7 S.nd (de_ct (cl_tup hK) (by rfl) b_tuple (by decide +kernel) (da_cons (de_lc (own := [("exponent", 8)]) rfl S.nd (di_t (de_name 6)) (blkOk_by (own := [("exponent", 8)]) (N := norder_for) (sc := defScope sorder_for) (by decide +kernel)) (fun _ _ _ _ _ Δ _ => (dg_name 8 S.nd)) (fun _ _ _ _ _ Δ e0 => (dts_nil)) (fun _ _ _ _ _ Δ e1 => (de_un do_neg (de_name 8)))) da_nil)))
  (dss_one (ds_ret (de_tup (da_cons (de_name 5) (da_cons (de_cb (cl_sum rfl) (by rfl) b_sum (by decide +kernel) (da_cons (de_name 6) da_nil)) (da_cons (de_name 7) (da_cons (de_name 2) (da_cons (de_un do_neg (de_name 4)) da_nil)))))))))))
abbrev ncomes_before : List Str := ["web", "first", "second", "primes"]
abbrev pcomes_before : List Str := ["web", "first", "second"]
theorem sccomes_before : FnScope ncomes_before pcomes_before (defScope scomes_before) := ⟨rfl, rfl, rfl, by decide +kernel, rfl, by decide +kernel, by decide +kernel⟩
theorem kcomes_before {f : Addr} {fd : FuncData} (hKK : K = TabF.K) (hCN : ∀ a, TabF.C a = none) (F : FunD K "comes_before" "comes_before" (defArgs scomes_before) (defBody scomes_before) (defScope scomes_before) [] [] f fd) (hm : mg "comes_before" = some (.ref f)) (corder_for : CalD P w K mg base 2 "order_for" Corder_for) (cpiece_of : CalD P w K mg base 2 "piece_of" Cpiece_of) (cprimes_of : CalD P w K mg base 3 "primes_of" Cprimes_of) {X_NotInOne : Addr} (x_NotInOne : XKit P w K mg base "NotInOne" "room" X_NotInOne) {X_OutOfRange : Addr} (x_OutOfRange : XKit P w K mg base "OutOfRange" "value" X_OutOfRange) : CalX P w K mg base 4 "comes_before" Ccomes_before := by
  have S := sccomes_before
  refine def_okX false F S hm (F.bindsN fun _ _ _ _ _ _ us hl => match us, hl with | [_, _, _], _ => rfl) wcomes_before lencomes_before (fun z => nomatch z) speccomes_before (fun cdv A outer s H E Δ hr hK ha0 tk => ?_)
  have hu := hu_of hr.toRoom
  exact (dss_cons (ds_if (PW.pt (dw_or (dt_cmp (sc_eq hr.units) (de_ixN 1 de_int (fun _ _ => rfl)) de_int (nomark _)) (dw_or1 (dt_cmp (sc_eq hr.units) (de_ixN 2 de_int (fun _ _ => rfl)) de_int (nomark _))))) (dss_one (ds_raiseK x_OutOfRange rfl tk (hr.mono (by decide)) (by rfl) (da_cons de_int da_nil))) dss_nil)
  (dss_cons (ds_if (dt_cmp sc_notin (de_ixN 2 de_int (fun _ _ => rfl)) (de_callP cpiece_of hK (hr.mono (by decide)) (by rfl) (da_cons (de_name 0) (da_cons (de_ixN 1 de_int (fun _ _ => rfl)) da_nil))) (by rfl)) (dss_one (ds_raiseK x_NotInOne rfl tk (hr.mono (by decide)) (by rfl) (da_cons (de_ixN 2 de_int (fun _ _ => rfl)) da_nil))) dss_nil)
  (dss_cons (ds_set 3 S.nd (de_callP cprimes_of hK (hr.mono (by decide)) (by rfl) (da_cons (de_name 0) (da_cons (de_ixN 1 de_int (fun _ _ => rfl)) da_nil))))
  (dss_one (ds_ret (de_cmp' (sc_ltT hr.units) (de_callP corder_for hK (hr.mono (by decide)) (by rfl) (da_cons (de_name 3) (da_cons (de_name 1) da_nil))) (de_callP corder_for hK (hr.mono (by decide)) (by rfl) (da_cons (de_name 3) (da_cons (de_name 2) da_nil))) (nomark _)))))))
abbrev nturn_parts : List Str := ["web", "room", "turns"]
abbrev pturn_parts : List Str := ["web", "room", "turns"]
theorem scturn_parts : FnScope nturn_parts pturn_parts (defScope sturn_parts) := ⟨rfl, rfl, rfl, by decide +kernel, rfl, by decide +kernel, by decide +kernel⟩
theorem kturn_parts {f : Addr} {fd : FuncData} (hKK : K = TabF.K) (hCN : ∀ a, TabF.C a = none) (F : FunD K "turn_parts" "turn_parts" (defArgs sturn_parts) (defBody sturn_parts) (defScope sturn_parts) [] [] f fd) (hm : mg "turn_parts" = some (.ref f)) (cparts_for : CalD P w K mg base 1 "parts_for" Cparts_for) (cprimes_of : CalD P w K mg base 3 "primes_of" Cprimes_of) {X_OutOfRange : Addr} (x_OutOfRange : XKit P w K mg base "OutOfRange" "value" X_OutOfRange) : CalX P w K mg base 4 "turn_parts" Cturn_parts := by
  have S := scturn_parts
  refine def_okX false F S hm (F.bindsN fun _ _ _ _ _ _ us hl => match us, hl with | [_, _, _], _ => rfl) wturn_parts lenturn_parts (fun z => nomatch z) specturn_parts (fun cdv A outer s H E Δ hr hK ha0 tk => ?_)
  have hu := hu_of hr.toRoom
  exact (dss_cons (ds_if (dt_cmpNL 2 (sc_eq hr.units) de_int (nomark _)) (dss_one (ds_raiseK x_OutOfRange rfl tk (hr.mono (by decide)) (by rfl) (da_cons de_int da_nil))) dss_nil)
  (dss_one (ds_ret (de_callP cparts_for hK (hr.mono (by decide)) (by rfl) (da_cons (de_callP cprimes_of hK (hr.mono (by decide)) (by rfl) (da_cons (de_name 0) (da_cons (de_name 1) da_nil))) (da_cons (de_name 2) da_nil))))))
abbrev n_law_hand_right : List Str := ["web", "row", "told", "one", "two", "k", "j"]
abbrev p_law_hand_right : List Str := []
theorem sc_law_hand_right : FnScope n_law_hand_right p_law_hand_right (defScope s_law_hand_right) := ⟨rfl, rfl, rfl, by decide +kernel, rfl, by decide +kernel, by decide +kernel⟩
theorem k_law_hand_right {f : Addr} {fd : FuncData} (hKK : K = TabF.K) (hCN : ∀ a, TabF.C a = none) (F : FunD K "_law_hand_right" "_law_hand_right" (defArgs s_law_hand_right) (defBody s_law_hand_right) (defScope s_law_hand_right) [] [] f fd) (hm : mg "_law_hand_right" = some (.ref f)) (b_len : mg "len" = none) (b_range : mg "range" = none) (c_law_like : CalD P w K mg base 1 "_law_like" C_law_like) (cprimes_of : CalD P w K mg base 3 "primes_of" Cprimes_of) (ccomes_before : CalX P w K mg base 4 "comes_before" Ccomes_before) (cturn_parts : CalX P w K mg base 4 "turn_parts" Cturn_parts) : CalD P w K mg base 5 "_law_hand_right" C_law_hand_right := by
  have S := sc_law_hand_right
  refine def_okN false F S hm (F.bindsN fun _ _ _ _ _ _ us hl => match us, hl with | [], _ => rfl) w_law_hand_right len_law_hand_right (fun z => nomatch z) spec_law_hand_right (fun cdv A outer s H E Δ hr hK ha0 hX0 => ?_)
  have hu := hu_of hr.toRoom
  exact (dss_cons (ds_set 0 S.nd (de_tup (da_cons de_int (da_cons (de_tup (da_cons (de_tup (da_cons de_int (da_cons de_int (da_cons de_int (da_cons (de_un do_neg de_int) da_nil))))) (da_cons (de_tup (da_cons de_int (da_cons de_int (da_cons de_int (da_cons (de_un do_neg de_int) da_nil))))) da_nil))) da_nil))))
  (dss_cons (ds_if (dt_not (dt_tru (de_callP c_law_like hK (hr.mono (by decide)) (by rfl) (da_cons (de_lst (da_cons (de_callP cprimes_of hK (hr.mono (by decide)) (by rfl) (da_cons (de_name 0) (da_cons de_int da_nil))) (da_cons (de_callX0 cturn_parts hX0 hK (hr.mono (by decide)) (by rfl) (da_cons (de_name 0) (da_cons de_int (da_cons de_int da_nil)))) (da_cons (de_callX0 cturn_parts hX0 hK (hr.mono (by decide)) (by rfl) (da_cons (de_name 0) (da_cons de_int (da_cons (de_un do_neg de_int) da_nil)))) da_nil)))) (da_cons (de_lst (da_cons (de_tup (da_cons de_int (da_cons de_int da_nil))) (da_cons (de_tup (da_cons de_int (da_cons de_int (da_cons (de_tup (da_cons de_int (da_cons de_int da_nil))) da_nil)))) (da_cons (de_tup (da_cons (de_un do_neg de_int) (da_cons de_int (da_cons (de_tup (da_cons de_int (da_cons de_int da_nil))) da_nil)))) da_nil)))) da_nil))))) (dss_one (ds_ret de_bl)) dss_nil)
  (dss_cons (ds_set 1 S.nd (de_lst (da_cons (de_tup (da_cons de_int (da_cons de_int da_nil))) (da_cons (de_tup (da_cons de_int (da_cons (de_un do_neg de_int) da_nil))) (da_cons (de_tup (da_cons de_int (da_cons de_int da_nil))) (da_cons (de_tup (da_cons de_int (da_cons de_int da_nil))) (da_cons (de_tup (da_cons de_int (da_cons (de_un do_neg de_int) da_nil))) (da_cons (de_tup (da_cons de_int (da_cons de_int da_nil))) (da_cons (de_tup (da_cons de_int (da_cons de_int da_nil))) (da_cons (de_tup (da_cons de_int (da_cons de_int da_nil))) (da_cons (de_tup (da_cons de_int (da_cons de_int da_nil))) (da_cons (de_tup (da_cons de_int (da_cons (de_un do_neg de_int) da_nil))) (da_cons (de_tup (da_cons de_int (da_cons de_int da_nil))) (da_cons (de_tup (da_cons de_int (da_cons de_int da_nil))) (da_cons (de_tup (da_cons de_int (da_cons de_int da_nil))) (da_cons (de_tup (da_cons de_int (da_cons de_int da_nil))) da_nil))))))))))))))))
  (dss_cons (ds_setLcX (own := [("one", 3)]) 2 rfl rfl rfl (sw_true rfl rfl rfl (by decide +kernel)) S.nd (di_l (de_name 1)) (blkOk_by (own := [("one", 3)]) (N := n_law_hand_right) (sc := defScope s_law_hand_right) (by decide +kernel)) (fun _ _ _ _ _ Δ _ _ => (dg_name 3 S.nd)) (fun _ _ _ _ _ Δ e0 xe0 => (dts_nil)) (fun _ _ _ _ _ Δ e1 xe1 => (de_lcX (own := [("two", 4)]) rfl S.nd (di_l (de_name 1)) (blkOk_by (own := [("two", 4)]) (N := n_law_hand_right) (sc := _) (by rfl)) (fun _ _ _ _ _ Δ _ _ => (dg_name 4 S.nd)) (fun _ _ _ _ _ Δ e0 xe0 => (dts_nil)) (fun _ _ _ _ _ Δ e2 xe2 => (de_callX0 ccomes_before (nx_of xe2 (nx_of xe1 hX0)) (e2.trans (e1.trans hK)) (hr.mono (by decide)) (by rfl) (da_cons (de_name 0) (da_cons (de_name 3) (da_cons (de_name 4) da_nil))))))))
  (dss_one (ds_ret (de_callP c_law_like hK (hr.mono (by decide)) (by rfl) (da_cons (de_name 2) (da_cons (de_lc (own := [("k", 5)]) rfl S.nd (di_r1 (by rfl) b_range (da_cons (de_lenN 1 rfl (by rfl) b_len (by decide +kernel)) da_nil)) (blkOk_by (own := [("k", 5)]) (N := n_law_hand_right) (sc := defScope s_law_hand_right) (by decide +kernel)) (fun _ _ _ _ _ Δ _ => (dg_name 5 S.nd)) (fun _ _ _ _ _ Δ e0 => (dts_nil)) (fun _ _ _ _ _ Δ e3 => (de_lc (own := [("j", 6)]) rfl S.nd (di_r1 (by rfl) b_range (da_cons (de_lenN 1 rfl (by rfl) b_len (by decide +kernel)) da_nil)) (blkOk_by (own := [("j", 6)]) (N := n_law_hand_right) (sc := _) (by rfl)) (fun _ _ _ _ _ Δ _ => (dg_name 6 S.nd)) (fun _ _ _ _ _ Δ e0 => (dts_nil)) (fun _ _ _ _ _ Δ e4 => (de_cmpNL 6 sc_gt (de_name 5) (nomark _)))))) da_nil)))))))))
abbrev n_law_begun : List Str := ["script", "k", "cells", "cell", "great", "begun"]
abbrev p_law_begun : List Str := ["script", "k"]
theorem sc_law_begun : FnScope n_law_begun p_law_begun (defScope s_law_begun) := ⟨rfl, rfl, rfl, by decide +kernel, rfl, by decide +kernel, by decide +kernel⟩
theorem k_law_begun {f : Addr} {fd : FuncData} (hKK : K = TabF.K) (hCN : ∀ a, TabF.C a = none) (F : FunD K "_law_begun" "_law_begun" (defArgs s_law_begun) (defBody s_law_begun) (defScope s_law_begun) [] [] f fd) (hm : mg "_law_begun" = some (.ref f)) (b_int : mg "int" = none) (b_len : mg "len" = none) : CalD P w K mg base 1 "_law_begun" C_law_begun := by
  have S := sc_law_begun
  refine def_ok true F S hm (F.bindsN fun _ _ _ _ _ _ us hl => match us, hl with | [_, _], _ => rfl) w_law_begun len_law_begun (fun _ => nog_law_begun) spec_law_begun (fun cdv A outer s H E Δ hr hK ha0 => ?_)
  have hu := hu_of hr.toRoom
  exact (dss_cons (ds_set 2 S.nd (de_op (do_add hK) (de_slS 0 hK (by rfl) (by first | exact Or.inl rfl | exact Or.inr (Or.inl rfl) | exact Or.inr (Or.inr rfl)) (by decide) (by decide) (do_some (de_name 1)) do_none) (de_slS 0 hK (by rfl) (by first | exact Or.inl rfl | exact Or.inr (Or.inl rfl) | exact Or.inr (Or.inr rfl)) (by decide) (by decide) do_none (do_some (de_name 1)))))
  (dss_cons (ds_setLc (own := [("cell", 3)]) 4 rfl rfl rfl (sw_true rfl rfl rfl (by decide +kernel)) S.nd (di_scr 0 hK (by rfl) (by first | exact Or.inl rfl | exact Or.inr (Or.inl rfl) | exact Or.inr (Or.inr rfl)) (by decide) (by decide)) (blkOk_by (own := [("cell", 3)]) (N := n_law_begun) (sc := defScope s_law_begun) (by decide +kernel)) (fun _ _ _ _ _ Δ _ => (dg_name 3 S.nd)) (fun _ _ _ _ _ Δ e1 => (pts_one (dt_cmpNL 3 sc_ge (de_op do_pow de_int de_int) (nomark _)))) (fun _ _ _ _ _ Δ e2 => (de_name 3)))
  (dss_cons (ds_set 5 S.nd (de_op (do_add hK) de_int (de_op do_mul' de_int (de_name 1))))
  (dss_cons (ds_for PassesOwn.never rfl (di_l (de_name 2)) (dg_name 3 S.nd)
  (dss_one (ds_set 5 S.nd (de_op do_mod' (de_ct cl_int (by rfl) b_int (by decide +kernel) (da_cons (de_op (do_add hK) (de_op do_mul' (de_name 5) de_int) (de_name 3)) da_nil)) de_int))))
  (dss_one (ds_retG (ha0 rfl) (fun Δ e3 => (de_if (dt_cmpNL 1 sc_lt (de_lenN 4 rfl (by rfl) b_len (by decide +kernel)) (nomark _)) (de_ixN 4 (de_name 1) (fun _ _ => rfl)) de_int)) (fun Δ e4 => (de_name 5)) (fun Δ e5 => (de_addN 2 (e5.trans hK) (de_lst (da_cons (de_op (do_add (e5.trans hK)) (de_op do_mul' de_int (de_name 1)) de_int) da_nil)))) (fun Δ e6 => de_int)))))))
abbrev n_law_draw : List Str := ["m", "below", "found", "spot", "cells", "added", "cell", "blend"]
abbrev p_law_draw : List Str := ["m", "below"]
theorem sc_law_draw : FnScope n_law_draw p_law_draw (defScope s_law_draw) := ⟨rfl, rfl, rfl, by decide +kernel, rfl, by decide +kernel, by decide +kernel⟩
theorem k_law_draw {f : Addr} {fd : FuncData} (hKK : K = TabF.K) (hCN : ∀ a, TabF.C a = none) (F : FunD K "_law_draw" "_law_draw" (defArgs s_law_draw) (defBody s_law_draw) (defScope s_law_draw) [] [] f fd) (hm : mg "_law_draw" = some (.ref f)) (b_int : mg "int" = none) (b_len : mg "len" = none) : CalD P w K mg base 1 "_law_draw" C_law_draw := by
  have S := sc_law_draw
  refine def_ok false F S hm (F.bindsN fun _ _ _ _ _ _ us hl => match us, hl with | [_, _], _ => rfl) w_law_draw len_law_draw (fun z => nomatch z) spec_law_draw (fun cdv A outer s H E Δ hr hK ha0 => ?_)
  have hu := hu_of hr.toRoom
  exact (dss_cons (ds_if (dt_cmp sc_gt (de_gl 0 hu (by rfl) (by first | exact Or.inl rfl | exact Or.inr (Or.inl rfl) | exact Or.inr (Or.inr rfl)) (by decide) (by decide)) de_int (nomark _)) (dss_cons (ds_set 2 S.nd (de_op do_mod' (de_ct cl_int (by rfl) b_int (by decide +kernel) (da_cons (de_gl 0 hu (by rfl) (by first | exact Or.inl rfl | exact Or.inr (Or.inl rfl) | exact Or.inr (Or.inr rfl)) (by decide) (by decide)) da_nil)) (de_name 1)))
  (dss_cons (ds_gl 0 hu (by rfl) (by first | exact Or.inl rfl | exact Or.inr (Or.inl rfl) | exact Or.inr (Or.inr rfl)) (by decide) (by decide) (de_op do_fdiv' (de_gl 0 hu (by rfl) (by first | exact Or.inl rfl | exact Or.inr (Or.inl rfl) | exact Or.inr (Or.inr rfl)) (by decide) (by decide)) (de_name 1)) (by rfl))
  (dss_one (ds_ret (de_name 2))))) dss_nil)
  (dss_cons (ds_set 3 S.nd (de_gp 0 hu (by rfl) (by first | exact Or.inl rfl | exact Or.inr (Or.inl rfl) | exact Or.inr (Or.inr rfl)) (by decide) (by decide)))
  (dss_cons (ds_gp 0 hu (by rfl) (by first | exact Or.inl rfl | exact Or.inr (Or.inl rfl) | exact Or.inr (Or.inr rfl)) (by decide) (by decide) (de_addN 3 hK de_int) (by rfl))
  (dss_cons (ds_par2 4 5 rfl S.nd (de_gc 0 hu (by rfl) (by first | exact Or.inl rfl | exact Or.inr (Or.inl rfl) | exact Or.inr (Or.inr rfl)) (by decide) (by decide)) (fun Δ e1 => (de_op (do_add (e1.trans hK)) (de_gs 0 hu (by rfl) (by first | exact Or.inl rfl | exact Or.inr (Or.inl rfl) | exact Or.inr (Or.inr rfl)) (by decide) (by decide)) (de_op do_mul' (de_op do_mul' de_int (de_name 3)) (de_name 3)))) (by rfl))
  (dss_cons (ds_set 6 S.nd (de_ixN 4 (de_op do_mod' (de_ct cl_int (by rfl) b_int (by decide +kernel) (da_cons (de_name 3) da_nil)) (de_lenN 4 rfl (by rfl) b_len (by decide +kernel))) (fun _ _ => rfl)))
  (dss_cons (ds_set 7 S.nd (de_op do_mod' (de_ct cl_int (by rfl) b_int (by decide +kernel) (da_cons (de_op (do_add hK) (de_op do_mul' (de_name 6) (de_op (do_add hK) (de_op do_mul' de_int (de_name 3)) de_int)) (de_name 5)) da_nil)) de_int))
  (dss_cons (ds_set 7 S.nd (de_op do_mod' (de_ct cl_int (by rfl) b_int (by decide +kernel) (da_cons (de_op (do_add hK) (de_op (do_add hK) (de_op do_mul' (de_name 7) (de_name 7)) (de_op do_mul' de_int (de_name 3))) (de_gs 0 hu (by rfl) (by first | exact Or.inl rfl | exact Or.inr (Or.inl rfl) | exact Or.inr (Or.inr rfl)) (by decide) (by decide))) da_nil)) de_int))
  (dss_one (ds_ret (de_op do_mod' (de_op do_fdiv' (de_op do_mod' (de_ct cl_int (by rfl) b_int (by decide +kernel) (da_cons (de_op (do_add hK) (de_op do_mul' (de_name 7) de_int) (de_name 3)) da_nil)) de_int) de_int) (de_name 1)))))))))))
abbrev n_law_of : List Str := ["m", "some"]
abbrev p_law_of : List Str := ["m", "some"]
theorem sc_law_of : FnScope n_law_of p_law_of (defScope s_law_of) := ⟨rfl, rfl, rfl, by decide +kernel, rfl, by decide +kernel, by decide +kernel⟩
theorem k_law_of {f : Addr} {fd : FuncData} (hKK : K = TabF.K) (hCN : ∀ a, TabF.C a = none) (F : FunD K "_law_of" "_law_of" (defArgs s_law_of) (defBody s_law_of) (defScope s_law_of) [] [] f fd) (hm : mg "_law_of" = some (.ref f)) (b_len : mg "len" = none) (c_law_draw : CalD P w K mg base 1 "_law_draw" C_law_draw) : CalD P w K mg base 2 "_law_of" C_law_of := by
  have S := sc_law_of
  refine def_ok false F S hm (F.bindsN fun _ _ _ _ _ _ us hl => match us, hl with | [_, _], _ => rfl) w_law_of len_law_of (fun z => nomatch z) spec_law_of (fun cdv A outer s H E Δ hr hK ha0 => ?_)
  have hu := hu_of hr.toRoom
  exact (dss_one (ds_ret (de_ixN 1 (de_callG c_law_draw hK (hr.mono (by decide)) (by rfl) (da_cons (de_name 0) (da_cons (de_lenN 1 rfl (by rfl) b_len (by decide +kernel)) da_nil))) (fun _ _ => rfl))))
abbrev n_law_web : List Str := ["m", "rooms", "ties", "greatest", "found", "k", "v", "w", "p", "q", "end"]
abbrev p_law_web : List Str := ["m", "rooms", "ties", "greatest"]
theorem sc_law_web : FnScope n_law_web p_law_web (defScope s_law_web) := ⟨rfl, rfl, rfl, by decide +kernel, rfl, by decide +kernel, by decide +kernel⟩
theorem k_law_web {f : Addr} {fd : FuncData} (hKK : K = TabF.K) (hCN : ∀ a, TabF.C a = none) (F : FunD K "_law_web" "_law_web" (defArgs s_law_web) (defBody s_law_web) (defScope s_law_web) [] [] f fd) (hm : mg "_law_web" = some (.ref f)) (b_range : mg "range" = none) (b_tuple : mg "tuple" = none) (c_law_draw : CalD P w K mg base 1 "_law_draw" C_law_draw) (c_law_of : CalD P w K mg base 2 "_law_of" C_law_of) : CalD P w K mg base 3 "_law_web" C_law_web := by
  have S := sc_law_web
  refine def_ok false F S hm (F.bindsN fun _ _ _ _ _ _ us hl => match us, hl with | [_, _, _, _], _ => rfl) w_law_web len_law_web (fun z => nomatch z) spec_law_web (fun cdv A outer s H E Δ hr hK ha0 => ?_)
  have hu := hu_of hr.toRoom
  exact (dss_cons (ds_set 4 S.nd (de_lst da_nil))
  (dss_cons (ds_for PassesOwn.never rfl (di_r1 (by rfl) b_range (da_cons (de_name 2) da_nil)) (dg_name 5 S.nd)
  (dss_cons (ds_set 6 S.nd (de_if (dt_cmpNR 1 sc_lt (de_addN 5 hK de_int) (nomark _)) (de_callG c_law_draw hK (hr.mono (by decide)) (by rfl) (da_cons (de_name 0) (da_cons (de_addN 5 hK de_int) da_nil))) (de_callG c_law_draw hK (hr.mono (by decide)) (by rfl) (da_cons (de_name 0) (da_cons (de_name 1) da_nil)))))
  (dss_cons (ds_set 7 S.nd (de_if (dt_cmpNR 1 sc_lt (de_addN 5 hK de_int) (nomark _)) (de_addN 5 hK de_int) (de_callG c_law_draw hK (hr.mono (by decide)) (by rfl) (da_cons (de_name 0) (da_cons (de_name 1) da_nil)))))
  (dss_cons (ds_asg (de_lc (own := [("end", 10)]) rfl S.nd (di_r1 (by rfl) b_range (da_cons de_int da_nil)) (blkOk_by (own := [("end", 10)]) (N := n_law_web) (sc := defScope s_law_web) (by decide +kernel)) (fun _ _ _ _ _ Δ _ => (dg_name 10 S.nd)) (fun _ _ _ _ _ Δ e0 => (dts_nil)) (fun _ _ _ _ _ Δ e1 => (de_op do_mul' (de_op (do_add (e1.trans hK)) de_int (de_callG c_law_draw (e1.trans hK) (hr.mono (by decide)) (by rfl) (da_cons (de_name 0) (da_cons (de_name 3) da_nil)))) (de_callG c_law_of (e1.trans hK) (hr.mono (by decide)) (by rfl) (da_cons (de_name 0) (da_cons (de_lst (da_cons de_int (da_cons de_int (da_cons de_int (da_cons (de_un do_neg de_int) da_nil))))) da_nil)))))) (dg_lst (n := 2) rfl (dgs_cons (dg_name 8 S.nd) (dgs_cons (dg_name 9 S.nd) dgs_nil))))
  (dss_one (ds_expr (de_app 4 (de_if (dt_cmp (sc_eq hr.units) (de_callG c_law_draw hK (hr.mono (by decide)) (by rfl) (da_cons (de_name 0) (da_cons de_int da_nil))) de_int (nomark _)) (de_tup (da_cons (de_name 6) (da_cons (de_name 7) (da_cons (de_name 8) (da_cons (de_name 9) da_nil))))) (de_tup (da_cons (de_name 7) (da_cons (de_name 6) (da_cons (de_name 9) (da_cons (de_name 8) da_nil)))))))))))))
  (dss_one (ds_ret (de_tup (da_cons (de_name 1) (da_cons (de_ct (cl_tup hK) (by rfl) b_tuple (by decide +kernel) (da_cons (de_name 4) da_nil)) da_nil)))))))
abbrev n_law_refused_right : List Str := ["m", "web", "room", "other", "far", "pair"]
abbrev p_law_refused_right : List Str := ["m", "web", "room", "other"]
theorem sc_law_refused_right : FnScope n_law_refused_right p_law_refused_right (defScope s_law_refused_right) := ⟨rfl, rfl, rfl, by decide +kernel, rfl, by decide +kernel, by decide +kernel⟩
theorem k_law_refused_right {f : Addr} {fd : FuncData} (hKK : K = TabF.K) (hCN : ∀ a, TabF.C a = none) (F : FunD K "_law_refused_right" "_law_refused_right" (defArgs s_law_refused_right) (defBody s_law_refused_right) (defScope s_law_refused_right) [] [] f fd) (hm : mg "_law_refused_right" = some (.ref f)) (c_law_draw : CalD P w K mg base 1 "_law_draw" C_law_draw) (c_law_of : CalD P w K mg base 2 "_law_of" C_law_of) (ccomes_before : CalX P w K mg base 4 "comes_before" Ccomes_before) (cturn_parts : CalX P w K mg base 4 "turn_parts" Cturn_parts) {X_NotInOne : Addr} (x_NotInOne : XKit P w K mg base "NotInOne" "room" X_NotInOne) {X_OutOfRange : Addr} (x_OutOfRange : XKit P w K mg base "OutOfRange" "value" X_OutOfRange) {a_law_heard : Addr} {d_law_heard : FuncData} (F_law_heard : FunD K "_law_heard" "_law_heard" (defArgs s_law_heard) (defBody s_law_heard) (defScope s_law_heard) [] [] a_law_heard d_law_heard) (m_law_heard : mg "_law_heard" = some (.ref a_law_heard)) {cL PL : Addr} (lamK : LamK K base mg "_law_refused_right" fd cL PL) (sn1 : SeenO K mg ["NotInOne", "OutOfRange"] [(X_OutOfRange, ⟨"OutOfRange", 1, .tup [.st "range", .fl "value"]⟩), (X_NotInOne, ⟨"NotInOne", 1, .tup [.st "room", .fl "room"]⟩)]) (sn2 : SeenO K mg ["NotInOne", "OutOfRange"] [(X_OutOfRange, ⟨"OutOfRange", 1, .tup [.st "range", .fl "value"]⟩), (X_NotInOne, ⟨"NotInOne", 1, .tup [.st "room", .fl "room"]⟩)]) (sn3 : SeenO K mg ["NotInOne", "OutOfRange"] [(X_OutOfRange, ⟨"OutOfRange", 1, .tup [.st "range", .fl "value"]⟩), (X_NotInOne, ⟨"NotInOne", 1, .tup [.st "room", .fl "room"]⟩)]) (sn4 : SeenO K mg ["NotInOne", "OutOfRange"] [(X_OutOfRange, ⟨"OutOfRange", 1, .tup [.st "range", .fl "value"]⟩), (X_NotInOne, ⟨"NotInOne", 1, .tup [.st "room", .fl "room"]⟩)]) : CalD P w K mg base 7 "_law_refused_right" C_law_refused_right := by
  have S := sc_law_refused_right
  refine def_okC false F S hm (F.bindsN fun _ _ _ _ _ _ us hl => match us, hl with | [_, _, _, _], _ => rfl) w_law_refused_right len_law_refused_right (fun z => nomatch z) spec_law_refused_right (fun A outer s H E Δ hr hK ha0 => ?_)
  have hu := hu_of hr.toRoom
  exact (dss_cons (ds_set 4 S.nd (de_op (do_add hK) de_int (de_callG c_law_draw hK (hr.mono (by decide)) (by rfl) (da_cons (de_name 0) (da_cons de_int da_nil)))))
  (dss_cons (ds_if (dt_cmp (sc_ne hr.units) (de_lam (k := 4) (hs := [(X_OutOfRange, ⟨"OutOfRange", 1, .tup [.st "range", .fl "value"]⟩), (X_NotInOne, ⟨"NotInOne", 1, .tup [.st "room", .fl "room"]⟩)]) (ns := ["NotInOne", "OutOfRange"]) lamK rfl rfl F_law_heard (by rfl) m_law_heard (F_law_heard.bindsN fun _ _ _ _ _ _ us hl => match us, hl with | [_], _ => rfl) sc_law_heard rfl (Or.inl rfl) (fun _ => h_law_heard x_NotInOne x_OutOfRange _) (hr.mono (by decide)) hK sn1 (by
    intro h hh
    simp only [List.mem_cons, List.not_mem_nil, or_false] at hh
    rcases hh with rfl | rfl <;> simp [Out.short]) (by rfl) rfl (fun _ _ _ _ _ => rfl) (fun B out s H E f cA hr Δ hKL tk => (de_callX cturn_parts tk hKL (hr.mono (by decide)) (by rfl) (da_cons (de_name 1) (da_cons (de_name 2) (da_cons de_int da_nil)))))) (de_tup (da_cons de_str (da_cons de_int da_nil))) (nomark _)) (dss_one (ds_ret de_bl)) dss_nil)
  (dss_cons (ds_set 5 S.nd (de_callG c_law_of hK (hr.mono (by decide)) (by rfl) (da_cons (de_name 0) (da_cons (de_lst (da_cons (de_tup (da_cons (de_tup (da_cons (de_name 2) (da_cons de_int da_nil))) (da_cons (de_tup (da_cons (de_name 3) (da_cons (de_name 4) da_nil))) da_nil))) (da_cons (de_tup (da_cons (de_tup (da_cons (de_name 2) (da_cons (de_name 4) da_nil))) (da_cons (de_tup (da_cons (de_name 3) (da_cons de_int da_nil))) da_nil))) (da_cons (de_tup (da_cons (de_tup (da_cons (de_name 2) (da_cons de_int da_nil))) (da_cons (de_tup (da_cons (de_name 2) (da_cons de_int da_nil))) da_nil))) (da_cons (de_tup (da_cons (de_tup (da_cons (de_name 3) (da_cons de_int da_nil))) (da_cons (de_tup (da_cons (de_name 2) (da_cons de_int da_nil))) da_nil))) da_nil))))) da_nil))))
  (dss_cons (ds_if (dt_cmp (sc_ne hr.units) (de_lam (k := 4) (hs := [(X_OutOfRange, ⟨"OutOfRange", 1, .tup [.st "range", .fl "value"]⟩), (X_NotInOne, ⟨"NotInOne", 1, .tup [.st "room", .fl "room"]⟩)]) (ns := ["NotInOne", "OutOfRange"]) lamK rfl rfl F_law_heard (by rfl) m_law_heard (F_law_heard.bindsN fun _ _ _ _ _ _ us hl => match us, hl with | [_], _ => rfl) sc_law_heard rfl (Or.inl rfl) (fun _ => h_law_heard x_NotInOne x_OutOfRange _) (hr.mono (by decide)) hK sn2 (by
    intro h hh
    simp only [List.mem_cons, List.not_mem_nil, or_false] at hh
    rcases hh with rfl | rfl <;> simp [Out.short]) (by rfl) rfl (fun _ _ _ _ _ => rfl) (fun B out s H E f cA hr Δ hKL tk => (de_callX ccomes_before tk hKL (hr.mono (by decide)) (by rfl) (da_cons (de_name 1) (da_cons (de_ixN 5 de_int (fun _ _ => rfl)) (da_cons (de_ixN 5 de_int (fun _ _ => rfl)) da_nil)))))) (de_tup (da_cons de_str (da_cons de_int da_nil))) (nomark _)) (dss_one (ds_ret de_bl)) dss_nil)
  (dss_cons (ds_if (dt_cmp (sc_ne hr.units) (de_lam (k := 4) (hs := [(X_OutOfRange, ⟨"OutOfRange", 1, .tup [.st "range", .fl "value"]⟩), (X_NotInOne, ⟨"NotInOne", 1, .tup [.st "room", .fl "room"]⟩)]) (ns := ["NotInOne", "OutOfRange"]) lamK rfl rfl F_law_heard (by rfl) m_law_heard (F_law_heard.bindsN fun _ _ _ _ _ _ us hl => match us, hl with | [_], _ => rfl) sc_law_heard rfl (Or.inl rfl) (fun _ => h_law_heard x_NotInOne x_OutOfRange _) (hr.mono (by decide)) hK sn3 (by
    intro h hh
    simp only [List.mem_cons, List.not_mem_nil, or_false] at hh
    rcases hh with rfl | rfl <;> simp [Out.short]) (by rfl) rfl (fun _ _ _ _ _ => rfl) (fun B out s H E f cA hr Δ hKL tk => (de_callX ccomes_before tk hKL (hr.mono (by decide)) (by rfl) (da_cons (de_name 1) (da_cons (de_tup (da_cons (de_name 2) (da_cons (de_name 4) da_nil))) (da_cons (de_tup (da_cons (de_name 3) (da_cons (de_un do_neg (de_name 4)) da_nil))) da_nil)))))) (de_tup (da_cons de_str (da_cons (de_name 3) da_nil))) (nomark _)) (dss_one (ds_ret de_bl)) dss_nil)
  (dss_one (ds_ret (de_cmp' (sc_eq hr.units) (de_lam (k := 4) (hs := [(X_OutOfRange, ⟨"OutOfRange", 1, .tup [.st "range", .fl "value"]⟩), (X_NotInOne, ⟨"NotInOne", 1, .tup [.st "room", .fl "room"]⟩)]) (ns := ["NotInOne", "OutOfRange"]) lamK rfl rfl F_law_heard (by rfl) m_law_heard (F_law_heard.bindsN fun _ _ _ _ _ _ us hl => match us, hl with | [_], _ => rfl) sc_law_heard rfl (Or.inl rfl) (fun _ => h_law_heard x_NotInOne x_OutOfRange _) (hr.mono (by decide)) hK sn4 (by
    intro h hh
    simp only [List.mem_cons, List.not_mem_nil, or_false] at hh
    rcases hh with rfl | rfl <;> simp [Out.short]) (by rfl) rfl (fun _ _ _ _ _ => rfl) (fun B out s H E f cA hr Δ hKL tk => (de_callX ccomes_before tk hKL (hr.mono (by decide)) (by rfl) (da_cons (de_name 1) (da_cons (de_tup (da_cons (de_name 3) (da_cons (de_name 4) da_nil))) (da_cons (de_tup (da_cons (de_name 2) (da_cons de_int da_nil))) da_nil)))))) (de_tup (da_cons de_str (da_cons (de_name 2) da_nil))) (nomark _)))))))))
abbrev n_law_ends : List Str := ["web", "tie", "side", "v", "w", "p", "q"]
abbrev p_law_ends : List Str := ["web", "tie", "side"]
theorem sc_law_ends : FnScope n_law_ends p_law_ends (defScope s_law_ends) := ⟨rfl, rfl, rfl, by decide +kernel, rfl, by decide +kernel, by decide +kernel⟩
theorem k_law_ends {f : Addr} {fd : FuncData} (hKK : K = TabF.K) (hCN : ∀ a, TabF.C a = none) (F : FunD K "_law_ends" "_law_ends" (defArgs s_law_ends) (defBody s_law_ends) (defScope s_law_ends) [] [] f fd) (hm : mg "_law_ends" = some (.ref f)) : CalD P w K mg base 1 "_law_ends" C_law_ends := by
  have S := sc_law_ends
  refine def_ok false F S hm (F.bindsN fun _ _ _ _ _ _ us hl => match us, hl with | [_, _, _], _ => rfl) w_law_ends len_law_ends (fun z => nomatch z) spec_law_ends (fun cdv A outer s H E Δ hr hK ha0 => ?_)
  have hu := hu_of hr.toRoom
  exact (dss_cons (ds_asg (de_ix (de_ixN 0 de_int (fun _ _ => rfl)) (de_name 1) (fun _ _ => rfl)) (dg_tup (n := 4) rfl (dgs_cons (dg_name 3 S.nd) (dgs_cons (dg_name 4 S.nd) (dgs_cons (dg_name 5 S.nd) (dgs_cons (dg_name 6 S.nd) dgs_nil))))))
  (dss_one (ds_ret (de_if (dt_cmpNL 2 (sc_eq hr.units) de_int (nomark _)) (de_tup (da_cons (de_name 3) (da_cons (de_name 4) (da_cons (de_name 5) (da_cons (de_name 6) da_nil))))) (de_tup (da_cons (de_name 4) (da_cons (de_name 3) (da_cons (de_name 6) (da_cons (de_name 5) da_nil)))))))))
abbrev n_law_out : List Str := ["web", "room", "found", "tie", "side"]
abbrev p_law_out : List Str := ["web", "room"]
theorem sc_law_out : FnScope n_law_out p_law_out (defScope s_law_out) := ⟨rfl, rfl, rfl, by decide +kernel, rfl, by decide +kernel, by decide +kernel⟩
theorem k_law_out {f : Addr} {fd : FuncData} (hKK : K = TabF.K) (hCN : ∀ a, TabF.C a = none) (F : FunD K "_law_out" "_law_out" (defArgs s_law_out) (defBody s_law_out) (defScope s_law_out) [] [] f fd) (hm : mg "_law_out" = some (.ref f)) (b_len : mg "len" = none) (b_range : mg "range" = none) (c_law_ends : CalD P w K mg base 1 "_law_ends" C_law_ends) : CalD P w K mg base 2 "_law_out" C_law_out := by
  have S := sc_law_out
  refine def_ok false F S hm (F.bindsN fun _ _ _ _ _ _ us hl => match us, hl with | [_, _], _ => rfl) w_law_out len_law_out (fun z => nomatch z) spec_law_out (fun cdv A outer s H E Δ hr hK ha0 => ?_)
  have hu := hu_of hr.toRoom
  exact (dss_cons (ds_set 2 S.nd (de_lst da_nil))
  (dss_cons (ds_for PassesOwn.never rfl (di_r1 (by rfl) b_range (da_cons (de_cb (cl_len hK) (by rfl) b_len (by decide +kernel) (da_cons (de_ixN 0 de_int (fun _ _ => rfl)) da_nil)) da_nil)) (dg_name 3 S.nd)
  (dss_one (ds_set 2 S.nd (de_addN 2 hK (de_lc (own := [("side", 4)]) rfl S.nd (di_t (de_tup (da_cons de_int (da_cons (de_un do_neg de_int) da_nil)))) (blkOk_by (own := [("side", 4)]) (N := n_law_out) (sc := defScope s_law_out) (by decide +kernel)) (fun _ _ _ _ _ Δ _ => (dg_name 4 S.nd)) (fun _ _ _ _ _ Δ e1 => (pts_one (dt_cmpNR 1 (sc_eq hr.units) (de_ix (de_callP c_law_ends (e1.trans hK) (hr.mono (by decide)) (by rfl) (da_cons (de_name 0) (da_cons (de_name 3) (da_cons (de_name 4) da_nil)))) de_int (fun _ _ => rfl)) (nomark _)))) (fun _ _ _ _ _ Δ e2 => (de_tup (da_cons (de_name 3) (da_cons (de_name 4) da_nil)))))))))
  (dss_one (ds_ret (de_name 2)))))
abbrev n_law_home : List Str := ["web", "room", "found", "pending", "here", "tie", "side", "there"]
abbrev p_law_home : List Str := ["web", "room"]
theorem sc_law_home : FnScope n_law_home p_law_home (defScope s_law_home) := ⟨rfl, rfl, rfl, by decide +kernel, rfl, by decide +kernel, by decide +kernel⟩
theorem k_law_home {f : Addr} {fd : FuncData} (hKK : K = TabF.K) (hCN : ∀ a, TabF.C a = none) (F : FunD K "_law_home" "_law_home" (defArgs s_law_home) (defBody s_law_home) (defScope s_law_home) [] [] f fd) (hm : mg "_law_home" = some (.ref f)) (c_law_ends : CalD P w K mg base 1 "_law_ends" C_law_ends) (c_law_out : CalD P w K mg base 2 "_law_out" C_law_out) : CalD P w K mg base 3 "_law_home" C_law_home := by
  have S := sc_law_home
  refine def_ok false F S hm (F.bindsN fun _ _ _ _ _ _ us hl => match us, hl with | [_, _], _ => rfl) w_law_home len_law_home (fun z => nomatch z) spec_law_home (fun cdv A outer s H E Δ hr hK ha0 => ?_)
  have hu := hu_of hr.toRoom
  exact (dss_cons (ds_par2 2 3 rfl S.nd (de_disp1 (fun Δ e1 => (de_name 1)) (fun Δ e2 => (de_lst da_nil))) (fun Δ e3 => (de_lst (da_cons (de_name 1) da_nil))) (by rfl))
  (dss_cons (ds_wh PassesOwn.never (dt_cmpNL 3 (sc_ne hr.units) (de_lst da_nil) (nomark _))
  (dss_cons (ds_set 4 S.nd (de_pop0 3))
  (dss_one (ds_for PassesOwn.never rfl (di_l (de_callP c_law_out hK (hr.mono (by decide)) (by rfl) (da_cons (de_name 0) (da_cons (de_name 4) da_nil)))) (dg_tup (n := 2) rfl (dgs_cons (dg_name 5 S.nd) (dgs_cons (dg_name 6 S.nd) dgs_nil)))
  (dss_cons (ds_set 7 S.nd (de_ix (de_callP c_law_ends hK (hr.mono (by decide)) (by rfl) (da_cons (de_name 0) (da_cons (de_name 5) (da_cons (de_name 6) da_nil)))) de_int (fun _ _ => rfl)))
  (dss_one (ds_if (dt_dnin 2 hr.units (de_name 7)) (dss_cons (ds_dput 2 hr.units (de_op (do_add hK) (de_dix (hs := fun _ _ => rfl) 2 hr.units (de_name 4)) (de_lst (da_cons (de_tup (da_cons (de_name 5) (da_cons (de_name 6) da_nil))) da_nil))) (de_name 7))
  (dss_one (ds_expr (de_app 3 (de_name 7))))) dss_nil)))))))
  (dss_one (ds_retD 2))))
abbrev n_law_piece : List Str := ["web", "room"]
abbrev p_law_piece : List Str := ["web", "room"]
theorem sc_law_piece : FnScope n_law_piece p_law_piece (defScope s_law_piece) := ⟨rfl, rfl, rfl, by decide +kernel, rfl, by decide +kernel, by decide +kernel⟩
theorem k_law_piece {f : Addr} {fd : FuncData} (hKK : K = TabF.K) (hCN : ∀ a, TabF.C a = none) (F : FunD K "_law_piece" "_law_piece" (defArgs s_law_piece) (defBody s_law_piece) (defScope s_law_piece) [] [] f fd) (hm : mg "_law_piece" = some (.ref f)) (b_list : mg "list" = none) (b_sorted : mg "sorted" = none) (c_law_home : CalD P w K mg base 3 "_law_home" C_law_home) : CalD P w K mg base 4 "_law_piece" C_law_piece := by
  have S := sc_law_piece
  refine def_ok false F S hm (F.bindsN fun _ _ _ _ _ _ us hl => match us, hl with | [_, _], _ => rfl) w_law_piece len_law_piece (fun z => nomatch z) spec_law_piece (fun cdv A outer s H E Δ hr hK ha0 => ?_)
  have hu := hu_of hr.toRoom
  exact (dss_one (ds_ret (de_cb (cl_sortI hK) (by rfl) b_sorted (by decide +kernel) (da_cons (de_lstK rfl (by rfl) b_list (by decide +kernel) (de_callP c_law_home hK (hr.mono (by decide)) (by rfl) (da_cons (de_name 0) (da_cons (de_name 1) da_nil)))) da_nil))))
abbrev n_law_primes : List Str := ["web", "room", "rooms", "found", "v", "w", "p", "q", "end", "prime"]
abbrev p_law_primes : List Str := ["web", "room"]
theorem sc_law_primes : FnScope n_law_primes p_law_primes (defScope s_law_primes) := ⟨rfl, rfl, rfl, by decide +kernel, rfl, by decide +kernel, by decide +kernel⟩
theorem k_law_primes {f : Addr} {fd : FuncData} (hKK : K = TabF.K) (hCN : ∀ a, TabF.C a = none) (F : FunD K "_law_primes" "_law_primes" (defArgs s_law_primes) (defBody s_law_primes) (defScope s_law_primes) [] [] f fd) (hm : mg "_law_primes" = some (.ref f)) (b_abs : mg "abs" = none) (b_int : mg "int" = none) (b_range : mg "range" = none) (b_sorted : mg "sorted" = none) (c_law_piece : CalD P w K mg base 4 "_law_piece" C_law_piece) : CalD P w K mg base 5 "_law_primes" C_law_primes := by
  have S := sc_law_primes
  refine def_ok false F S hm (F.bindsN fun _ _ _ _ _ _ us hl => match us, hl with | [_, _], _ => rfl) w_law_primes len_law_primes (fun z => nomatch z) spec_law_primes (fun cdv A outer s H E Δ hr hK ha0 => ?_)
  have hu := hu_of hr.toRoom
  exact (dss_cons (ds_par2 2 3 rfl S.nd (de_callP c_law_piece hK (hr.mono (by decide)) (by rfl) (da_cons (de_name 0) (da_cons (de_name 1) da_nil))) (fun Δ e1 => (de_lst da_nil)) (by rfl))
  (dss_cons (ds_for PassesOwn.never rfl (di_t (de_ixN 0 de_int (fun _ _ => rfl))) (dg_tup (n := 4) rfl (dgs_cons (dg_name 4 S.nd) (dgs_cons (dg_name 5 S.nd) (dgs_cons (dg_name 6 S.nd) (dgs_cons (dg_name 7 S.nd) dgs_nil)))))
  (dss_cons (ds_if (dt_cmpNR 2 sc_notin (de_name 4) (by rfl)) (dss_one ds_continue) dss_nil)
  (dss_one (ds_for PassesOwn.never rfl (di_t (de_tup (da_cons (de_cb cl_abs (by rfl) b_abs (by decide +kernel) (da_cons (de_name 6) da_nil)) (da_cons (de_cb cl_abs (by rfl) b_abs (by decide +kernel) (da_cons (de_name 7) da_nil)) da_nil)))) (dg_name 8 S.nd)
  (dss_one (ds_for PassesOwn.never rfl (di_r2 (by rfl) b_range (da_cons de_int (da_cons de_int da_nil))) (dg_name 9 S.nd)
  (dss_cons (ds_wh PassesOwn.never (dt_cmp (sc_eq hr.units) (de_op do_mod' (de_ct cl_int (by rfl) b_int (by decide +kernel) (da_cons (de_name 8) da_nil)) (de_name 9)) de_int (nomark _))
  (dss_cons (ds_set 8 S.nd (de_op do_fdiv' (de_name 8) (de_name 9)))
  (dss_one (ds_if (dt_cmpNR 3 sc_notin (de_name 9) (by rfl)) (dss_one (ds_expr (de_app 3 (de_name 9)))) dss_nil))))
  (dss_one (ds_if (dt_cmpNL 8 (sc_eq hr.units) de_int (nomark _)) (dss_one ds_break) dss_nil)))))))))
  (dss_one (ds_ret (de_cb (cl_sortI hK) (by rfl) b_sorted (by decide +kernel) (da_cons (de_name 3) da_nil))))))
abbrev n_law_turn : List Str := ["m", "web", "room", "primes", "number", "prime", "lap"]
abbrev p_law_turn : List Str := ["m", "web", "room", "primes"]
theorem sc_law_turn : FnScope n_law_turn p_law_turn (defScope s_law_turn) := ⟨rfl, rfl, rfl, by decide +kernel, rfl, by decide +kernel, by decide +kernel⟩
theorem k_law_turn {f : Addr} {fd : FuncData} (hKK : K = TabF.K) (hCN : ∀ a, TabF.C a = none) (F : FunD K "_law_turn" "_law_turn" (defArgs s_law_turn) (defBody s_law_turn) (defScope s_law_turn) [] [] f fd) (hm : mg "_law_turn" = some (.ref f)) (b_range : mg "range" = none) (c_law_draw : CalD P w K mg base 1 "_law_draw" C_law_draw) (c_law_of : CalD P w K mg base 2 "_law_of" C_law_of) (c_law_piece : CalD P w K mg base 4 "_law_piece" C_law_piece) : CalD P w K mg base 5 "_law_turn" C_law_turn := by
  have S := sc_law_turn
  refine def_ok false F S hm (F.bindsN fun _ _ _ _ _ _ us hl => match us, hl with | [_, _, _, _], _ => rfl) w_law_turn len_law_turn (fun z => nomatch z) spec_law_turn (fun cdv A outer s H E Δ hr hK ha0 => ?_)
  have hu := hu_of hr.toRoom
  exact (dss_cons (ds_set 4 S.nd (de_op do_mul' (de_callG c_law_of hK (hr.mono (by decide)) (by rfl) (da_cons (de_name 0) (da_cons (de_lst (da_cons de_int (da_cons de_int (da_cons (de_un do_neg de_int) da_nil)))) da_nil))) (de_callG c_law_of hK (hr.mono (by decide)) (by rfl) (da_cons (de_name 0) (da_cons (de_lst (da_cons de_int (da_cons de_int (da_cons de_int (da_cons de_int (da_cons de_int (da_cons de_int (da_cons (de_op (do_add hK) (de_op do_pow de_int de_int) de_int) (da_cons de_int (da_cons de_int da_nil)))))))))) da_nil)))))
  (dss_cons (ds_for PassesOwn.never rfl (di_l (de_name 3)) (dg_name 5 S.nd)
  (dss_one (ds_for PassesOwn.never rfl (di_r1 (by rfl) b_range (da_cons (de_if (dt_cmp sc_gt (de_callG c_law_draw hK (hr.mono (by decide)) (by rfl) (da_cons (de_name 0) (da_cons de_int da_nil))) de_int (nomark _)) (de_callG c_law_draw hK (hr.mono (by decide)) (by rfl) (da_cons (de_name 0) (da_cons de_int da_nil))) (de_callG c_law_draw hK (hr.mono (by decide)) (by rfl) (da_cons (de_name 0) (da_cons de_int da_nil)))) da_nil)) (dg_name 6 S.nd)
  (dss_one (ds_set 4 S.nd (de_op do_mul' (de_name 4) (de_name 5)))))))
  (dss_one (ds_ret (de_tup (da_cons (de_callG c_law_of hK (hr.mono (by decide)) (by rfl) (da_cons (de_name 0) (da_cons (de_callP c_law_piece hK (hr.mono (by decide)) (by rfl) (da_cons (de_name 1) (da_cons (de_name 2) da_nil))) da_nil))) (da_cons (de_name 4) da_nil)))))))
abbrev n_law_parts : List Str := ["primes", "number", "left", "found", "prime", "many"]
abbrev p_law_parts : List Str := ["primes", "number"]
theorem sc_law_parts : FnScope n_law_parts p_law_parts (defScope s_law_parts) := ⟨rfl, rfl, rfl, by decide +kernel, rfl, by decide +kernel, by decide +kernel⟩
theorem k_law_parts {f : Addr} {fd : FuncData} (hKK : K = TabF.K) (hCN : ∀ a, TabF.C a = none) (F : FunD K "_law_parts" "_law_parts" (defArgs s_law_parts) (defBody s_law_parts) (defScope s_law_parts) [] [] f fd) (hm : mg "_law_parts" = some (.ref f)) (b_abs : mg "abs" = none) (b_int : mg "int" = none) (b_tuple : mg "tuple" = none) : CalD P w K mg base 1 "_law_parts" C_law_parts := by
  have S := sc_law_parts
  refine def_ok false F S hm (F.bindsN fun _ _ _ _ _ _ us hl => match us, hl with | [_, _], _ => rfl) w_law_parts len_law_parts (fun z => nomatch z) spec_law_parts (fun cdv A outer s H E Δ hr hK ha0 => ?_)
  have hu := hu_of hr.toRoom
  exact (dss_cons (ds_par2 2 3 rfl S.nd (de_cb cl_abs (by rfl) b_abs (by decide +kernel) (da_cons (de_name 1) da_nil)) (fun Δ e1 => (de_lst da_nil)) (by rfl))
  (dss_cons (ds_for PassesOwn.never rfl (di_l (de_name 0)) (dg_name 4 S.nd)
  (dss_cons (ds_set 5 S.nd de_int)
  (dss_cons (ds_wh PassesOwn.never (dt_cmp (sc_eq hr.units) (de_op do_mod' (de_ct cl_int (by rfl) b_int (by decide +kernel) (da_cons (de_name 2) da_nil)) (de_name 4)) de_int (nomark _))
  (dss_one (ds_par2 2 5 rfl S.nd (de_op do_fdiv' (de_name 2) (de_name 4)) (fun Δ e2 => (de_addN 5 (e2.trans hK) de_int)) (by rfl))))
  (dss_one (ds_expr (de_app 3 (de_name 5)))))))
  (dss_one (ds_ret (de_tup (da_cons (de_if (dt_cmpNL 1 sc_gt de_int (nomark _)) de_int (de_un do_neg de_int)) (da_cons (de_name 2) (da_cons (de_ct (cl_tup hK) (by rfl) b_tuple (by decide +kernel) (da_cons (de_name 3) da_nil)) da_nil))))))))
abbrev n_law_key : List Str := ["primes", "turn", "sign", "rest", "exponents", "many"]
abbrev p_law_key : List Str := ["primes", "turn"]
theorem sc_law_key : FnScope n_law_key p_law_key (defScope s_law_key) := ⟨rfl, rfl, rfl, by decide +kernel, rfl, by decide +kernel, by decide +kernel⟩
theorem k_law_key {f : Addr} {fd : FuncData} (hKK : K = TabF.K) (hCN : ∀ a, TabF.C a = none) (F : FunD K "_law_key" "_law_key" (defArgs s_law_key) (defBody s_law_key) (defScope s_law_key) [] [] f fd) (hm : mg "_law_key" = some (.ref f)) (b_sum : mg "sum" = none) (b_tuple : mg "tuple" = none) (c_law_parts : CalD P w K mg base 1 "_law_parts" C_law_parts) : CalD P w K mg base 2 "_law_key" C_law_key := by
  have S := sc_law_key
  refine def_ok false F S hm (F.bindsN fun _ _ _ _ _ _ us hl => match us, hl with | [_, _], _ => rfl) w_law_key len_law_key (fun z => nomatch z) spec_law_key (fun cdv A outer s H E Δ hr hK ha0 => ?_)
  have hu := hu_of hr.toRoom
  exact (dss_cons (ds_asg (de_callP c_law_parts hK (hr.mono (by decide)) (by rfl) (da_cons (de_name 0) (da_cons (de_ixN 1 de_int (fun _ _ => rfl)) da_nil))) (dg_tup (n := 3) rfl (dgs_cons (dg_name 2 S.nd) (dgs_cons (dg_name 3 S.nd) (dgs_cons (dg_name 4 S.nd) dgs_nil)))))
  (dss_one (ds_ret (de_tup (da_cons (de_name 3) (da_cons (de_cb (cl_sum rfl) (by rfl) b_sum (by decide +kernel) (da_cons (de_name 4) da_nil)) (da_cons (de_ct (cl_tup hK) (by rfl) b_tuple (by decide +kernel) (da_cons (de_lc (own := [("many", 5)]) rfl S.nd (di_t (de_name 4)) (blkOk_by (own := [("many", 5)]) (N := n_law_key) (sc := defScope s_law_key) (by decide +kernel)) (fun _ _ _ _ _ Δ _ => (dg_name 5 S.nd)) (fun _ _ _ _ _ Δ e0 => (dts_nil)) (fun _ _ _ _ _ Δ e1 => (de_un do_neg (de_name 5)))) da_nil)) (da_cons (de_ixN 1 de_int (fun _ _ => rfl)) (da_cons (de_un do_neg (de_name 2)) da_nil)))))))))
abbrev n_law_two_right : List Str := ["web", "primes", "one", "two", "due", "told"]
abbrev p_law_two_right : List Str := ["web", "primes", "one", "two"]
theorem sc_law_two_right : FnScope n_law_two_right p_law_two_right (defScope s_law_two_right) := ⟨rfl, rfl, rfl, by decide +kernel, rfl, by decide +kernel, by decide +kernel⟩
theorem k_law_two_right {f : Addr} {fd : FuncData} (hKK : K = TabF.K) (hCN : ∀ a, TabF.C a = none) (F : FunD K "_law_two_right" "_law_two_right" (defArgs s_law_two_right) (defBody s_law_two_right) (defScope s_law_two_right) [] [] f fd) (hm : mg "_law_two_right" = some (.ref f)) (c_law_key : CalD P w K mg base 2 "_law_key" C_law_key) (c_law_like : CalD P w K mg base 1 "_law_like" C_law_like) (ccomes_before : CalX P w K mg base 4 "comes_before" Ccomes_before) : CalD P w K mg base 5 "_law_two_right" C_law_two_right := by
  have S := sc_law_two_right
  refine def_okN false F S hm (F.bindsN fun _ _ _ _ _ _ us hl => match us, hl with | [_, _, _, _], _ => rfl) w_law_two_right len_law_two_right (fun z => nomatch z) spec_law_two_right (fun cdv A outer s H E Δ hr hK ha0 hX0 => ?_)
  have hu := hu_of hr.toRoom
  exact (dss_cons (ds_set 4 S.nd (de_lst (da_cons (de_cmp' (sc_ltT hr.units) (de_callP c_law_key hK (hr.mono (by decide)) (by rfl) (da_cons (de_name 1) (da_cons (de_name 2) da_nil))) (de_callP c_law_key hK (hr.mono (by decide)) (by rfl) (da_cons (de_name 1) (da_cons (de_name 3) da_nil))) (nomark _)) (da_cons (de_cmp' (sc_ltT hr.units) (de_callP c_law_key hK (hr.mono (by decide)) (by rfl) (da_cons (de_name 1) (da_cons (de_name 3) da_nil))) (de_callP c_law_key hK (hr.mono (by decide)) (by rfl) (da_cons (de_name 1) (da_cons (de_name 2) da_nil))) (nomark _)) (da_cons de_bl da_nil)))))
  (dss_cons (ds_set 5 S.nd (de_lst (da_cons (de_callX0 ccomes_before hX0 hK (hr.mono (by decide)) (by rfl) (da_cons (de_name 0) (da_cons (de_name 2) (da_cons (de_name 3) da_nil)))) (da_cons (de_callX0 ccomes_before hX0 hK (hr.mono (by decide)) (by rfl) (da_cons (de_name 0) (da_cons (de_name 3) (da_cons (de_name 2) da_nil)))) (da_cons (de_callX0 ccomes_before hX0 hK (hr.mono (by decide)) (by rfl) (da_cons (de_name 0) (da_cons (de_name 2) (da_cons (de_name 2) da_nil)))) da_nil)))))
  (dss_one (ds_ret (de_callP c_law_like hK (hr.mono (by decide)) (by rfl) (da_cons (de_name 5) (da_cons (de_name 4) da_nil)))))))
abbrev n_law_common : List Str := ["one", "two"]
abbrev p_law_common : List Str := ["one", "two"]
theorem sc_law_common : FnScope n_law_common p_law_common (defScope s_law_common) := ⟨rfl, rfl, rfl, by decide +kernel, rfl, by decide +kernel, by decide +kernel⟩
theorem k_law_common {f : Addr} {fd : FuncData} (hKK : K = TabF.K) (hCN : ∀ a, TabF.C a = none) (F : FunD K "_law_common" "_law_common" (defArgs s_law_common) (defBody s_law_common) (defScope s_law_common) [] [] f fd) (hm : mg "_law_common" = some (.ref f)) (b_abs : mg "abs" = none) (b_int : mg "int" = none) : CalD P w K mg base 1 "_law_common" C_law_common := by
  have S := sc_law_common
  refine def_ok false F S hm (F.bindsN fun _ _ _ _ _ _ us hl => match us, hl with | [_, _], _ => rfl) w_law_common len_law_common (fun z => nomatch z) spec_law_common (fun cdv A outer s H E Δ hr hK ha0 => ?_)
  have hu := hu_of hr.toRoom
  exact (dss_cons (ds_par2 0 1 rfl S.nd (de_cb cl_abs (by rfl) b_abs (by decide +kernel) (da_cons (de_name 0) da_nil)) (fun Δ e1 => (de_cb cl_abs (by rfl) b_abs (by decide +kernel) (da_cons (de_name 1) da_nil))) (by rfl))
  (dss_cons (ds_wh PassesOwn.never (dt_cmpNL 1 sc_gt de_int (nomark _))
  (dss_one (ds_par2 0 1 rfl S.nd (de_name 1) (fun Δ e2 => (de_op do_mod' (de_ct cl_int (by rfl) b_int (by decide +kernel) (da_cons (de_name 0) da_nil)) (de_name 1))) (by rfl))))
  (dss_one (ds_ret (de_name 0)))))
abbrev n_law_turn_right : List Str := ["m", "web", "room", "primes", "some", "turn", "lap"]
abbrev p_law_turn_right : List Str := ["m", "web", "room"]
theorem sc_law_turn_right : FnScope n_law_turn_right p_law_turn_right (defScope s_law_turn_right) := ⟨rfl, rfl, rfl, by decide +kernel, rfl, by decide +kernel, by decide +kernel⟩
theorem k_law_turn_right {f : Addr} {fd : FuncData} (hKK : K = TabF.K) (hCN : ∀ a, TabF.C a = none) (F : FunD K "_law_turn_right" "_law_turn_right" (defArgs s_law_turn_right) (defBody s_law_turn_right) (defScope s_law_turn_right) [] [] f fd) (hm : mg "_law_turn_right" = some (.ref f)) (b_range : mg "range" = none) (b_tuple : mg "tuple" = none) (c_law_common : CalD P w K mg base 1 "_law_common" C_law_common) (c_law_like : CalD P w K mg base 1 "_law_like" C_law_like) (c_law_of : CalD P w K mg base 2 "_law_of" C_law_of) (c_law_parts : CalD P w K mg base 1 "_law_parts" C_law_parts) (c_law_piece : CalD P w K mg base 4 "_law_piece" C_law_piece) (c_law_primes : CalD P w K mg base 5 "_law_primes" C_law_primes) (c_law_turn : CalD P w K mg base 5 "_law_turn" C_law_turn) (c_law_two_right : CalD P w K mg base 5 "_law_two_right" C_law_two_right) (cprimes_of : CalD P w K mg base 3 "primes_of" Cprimes_of) (cturn_parts : CalX P w K mg base 4 "turn_parts" Cturn_parts) : CalD P w K mg base 6 "_law_turn_right" C_law_turn_right := by
  have S := sc_law_turn_right
  refine def_okN false F S hm (F.bindsN fun _ _ _ _ _ _ us hl => match us, hl with | [_, _, _], _ => rfl) w_law_turn_right len_law_turn_right (fun z => nomatch z) spec_law_turn_right (fun cdv A outer s H E Δ hr hK ha0 hX0 => ?_)
  have hu := hu_of hr.toRoom
  exact (dss_cons (ds_set 3 S.nd (de_callP c_law_primes hK (hr.mono (by decide)) (by rfl) (da_cons (de_name 1) (da_cons (de_name 2) da_nil))))
  (dss_cons (ds_if (dt_not (dt_tru (de_callP c_law_like hK (hr.mono (by decide)) (by rfl) (da_cons (de_callP cprimes_of hK (hr.mono (by decide)) (by rfl) (da_cons (de_name 1) (da_cons (de_name 2) da_nil))) (da_cons (de_ct (cl_tup hK) (by rfl) b_tuple (by decide +kernel) (da_cons (de_name 3) da_nil)) da_nil))))) (dss_one (ds_ret de_bl)) dss_nil)
  (dss_cons (ds_setLc (own := [("lap", 6)]) 4 rfl rfl rfl (sw_true rfl rfl rfl (by decide +kernel)) S.nd (di_r1 (by rfl) b_range (da_cons de_int da_nil)) (blkOk_by (own := [("lap", 6)]) (N := n_law_turn_right) (sc := defScope s_law_turn_right) (by decide +kernel)) (fun _ _ _ _ _ Δ _ => (dg_name 6 S.nd)) (fun _ _ _ _ _ Δ e0 => (dts_nil)) (fun _ _ _ _ _ Δ e1 => (de_callG c_law_turn (e1.trans hK) (hr.mono (by decide)) (by rfl) (da_cons (de_name 0) (da_cons (de_name 1) (da_cons (de_name 2) (da_cons (de_name 3) da_nil)))))))
  (dss_cons (ds_expr (de_app 4 (de_tup (da_cons (de_ix (de_ixN 4 de_int (fun _ _ => rfl)) de_int (fun _ _ => rfl)) (da_cons (de_un do_neg (de_ix (de_ixN 4 de_int (fun _ _ => rfl)) de_int (fun _ _ => rfl))) da_nil)))))
  (dss_cons (ds_expr (de_app 4 (de_tup (da_cons (de_callG c_law_of hK (hr.mono (by decide)) (by rfl) (da_cons (de_name 0) (da_cons (de_callP c_law_piece hK (hr.mono (by decide)) (by rfl) (da_cons (de_name 1) (da_cons (de_name 2) da_nil))) da_nil))) (da_cons (de_ix (de_ixN 4 de_int (fun _ _ => rfl)) de_int (fun _ _ => rfl)) da_nil)))))
  (dss_cons (ds_if (dt_cmpNL 3 (sc_ne hr.units) (de_lst da_nil) (nomark _)) (dss_one (ds_expr (de_app 4 (de_tup (da_cons (de_ix (de_ixN 4 de_int (fun _ _ => rfl)) de_int (fun _ _ => rfl)) (da_cons (de_op do_mul' (de_op do_fdiv' (de_ix (de_ixN 4 de_int (fun _ _ => rfl)) de_int (fun _ _ => rfl)) (de_callP c_law_common hK (hr.mono (by decide)) (by rfl) (da_cons (de_ix (de_ixN 4 de_int (fun _ _ => rfl)) de_int (fun _ _ => rfl)) (da_cons (de_ixN 3 de_int (fun _ _ => rfl)) da_nil)))) (de_callG c_law_of hK (hr.mono (by decide)) (by rfl) (da_cons (de_name 0) (da_cons (de_name 3) da_nil)))) da_nil)))))) dss_nil)
  (dss_cons (ds_for PassesOwn.never rfl (di_l (de_name 4)) (dg_name 5 S.nd)
  (dss_cons (ds_if (dt_not (dt_tru (de_callP c_law_like hK (hr.mono (by decide)) (by rfl) (da_cons (de_callX0 cturn_parts hX0 hK (hr.mono (by decide)) (by rfl) (da_cons (de_name 1) (da_cons (de_ixN 5 de_int (fun _ _ => rfl)) (da_cons (de_ixN 5 de_int (fun _ _ => rfl)) da_nil)))) (da_cons (de_callP c_law_parts hK (hr.mono (by decide)) (by rfl) (da_cons (de_name 3) (da_cons (de_ixN 5 de_int (fun _ _ => rfl)) da_nil))) da_nil))))) (dss_one (ds_ret de_bl)) dss_nil)
  (dss_one (ds_if (dt_not (dt_tru (de_callP c_law_two_right hK (hr.mono (by decide)) (by rfl) (da_cons (de_name 1) (da_cons (de_name 3) (da_cons (de_name 5) (da_cons (de_callG c_law_of hK (hr.mono (by decide)) (by rfl) (da_cons (de_name 0) (da_cons (de_name 4) da_nil))) da_nil))))))) (dss_one (ds_ret de_bl)) dss_nil))))
  (dss_one (ds_ret de_bl)))))))))
abbrev nlaw : List Str := ["script", "k", "m", "web", "last", "more", "room", "first"]
abbrev plaw : List Str := ["script"]
theorem sclaw : FnScope nlaw plaw (defScope slaw) := ⟨rfl, rfl, rfl, by decide +kernel, rfl, by decide +kernel, by decide +kernel⟩
theorem klaw {f : Addr} {fd : FuncData} (hKK : K = TabF.K) (hCN : ∀ a, TabF.C a = none) (F : FunD K "law" "law" (defArgs slaw) (defBody slaw) (defScope slaw) [] [] f fd) (hm : mg "law" = some (.ref f)) (b_range : mg "range" = none) (c_law_begun : CalD P w K mg base 1 "_law_begun" C_law_begun) (c_law_draw : CalD P w K mg base 1 "_law_draw" C_law_draw) (c_law_hand_right : CalD P w K mg base 5 "_law_hand_right" C_law_hand_right) (c_law_of : CalD P w K mg base 2 "_law_of" C_law_of) (c_law_refused_right : CalD P w K mg base 7 "_law_refused_right" C_law_refused_right) (c_law_turn_right : CalD P w K mg base 6 "_law_turn_right" C_law_turn_right) (c_law_web : CalD P w K mg base 3 "_law_web" C_law_web) : FnG P w K mg base CX0 8 f fd ["script"] (spD K Claw) := by
  have S := sclaw
  refine def_fn true F S hm (F.bindsN fun _ _ _ _ _ _ us hl => match us, hl with | [_], _ => rfl) wlaw lenlaw (fun _ => noglaw) speclaw (fun cdv A outer s H E Δ hr hK ha0 => ?_)
  have hu := hu_of hr.toRoom
  exact (dss_cons (ds_if (dt_not (dt_tru (de_callP0 c_law_hand_right hK (hr.mono (by decide)) (by rfl)))) (dss_one (ds_ret de_bl)) dss_nil)
  (dss_cons (ds_for PassesOwn.never rfl (di_r1 (by rfl) b_range (da_cons de_int da_nil)) (dg_name 1 S.nd)
  (dss_cons (ds_setG 2 (ha0 rfl) c_law_begun hK (hr.mono (by decide)) (by rfl) S.nd (da_cons (de_name 0) (da_cons (de_name 1) da_nil)))
  (dss_cons (ds_set 3 S.nd (de_callG c_law_web hK (hr.mono (by decide)) (by rfl) (da_cons (de_name 2) (da_cons (de_op (do_add hK) de_int (de_callG c_law_draw hK (hr.mono (by decide)) (by rfl) (da_cons (de_name 2) (da_cons de_int da_nil)))) (da_cons (de_op (do_add hK) de_int (de_callG c_law_draw hK (hr.mono (by decide)) (by rfl) (da_cons (de_name 2) (da_cons de_int da_nil)))) (da_cons (de_callG c_law_of hK (hr.mono (by decide)) (by rfl) (da_cons (de_name 2) (da_cons (de_lst (da_cons de_int (da_cons de_int (da_cons de_int (da_cons de_int da_nil))))) da_nil))) da_nil))))))
  (dss_cons (ds_set 4 S.nd (de_ixN 3 de_int (fun _ _ => rfl)))
  (dss_cons (ds_set 5 S.nd (de_if (PW.pt (dw_or (dt_cmpNL 4 sc_gt de_int (nomark _)) (dw_or1 (dt_cmp (sc_eq hr.units) (de_callG c_law_draw hK (hr.mono (by decide)) (by rfl) (da_cons (de_name 2) (da_cons de_int da_nil))) de_int (nomark _))))) (de_tup da_nil) (de_tup (da_cons (de_tup (da_cons (de_name 4) (da_cons (de_name 4) (da_cons de_int (da_cons (de_un do_neg de_int) da_nil))))) da_nil))))
  (dss_cons (ds_set 3 S.nd (de_tup (da_cons (de_addN 4 hK de_int) (da_cons (de_op (do_add hK) (de_ixN 3 de_int (fun _ _ => rfl)) (de_name 5)) da_nil))))
  (dss_cons (ds_set 6 S.nd (de_callG c_law_draw hK (hr.mono (by decide)) (by rfl) (da_cons (de_name 2) (da_cons (de_ixN 3 de_int (fun _ _ => rfl)) da_nil))))
  (dss_cons (ds_if (PW.pt (dw_or (dt_not (dt_tru (de_callG c_law_turn_right hK (hr.mono (by decide)) (by rfl) (da_cons (de_name 2) (da_cons (de_name 3) (da_cons (de_name 6) da_nil)))))) (dw_or1 (dt_not (dt_tru (de_callG c_law_turn_right hK (hr.mono (by decide)) (by rfl) (da_cons (de_name 2) (da_cons (de_name 3) (da_cons (de_op do_sub' (de_ixN 3 de_int (fun _ _ => rfl)) de_int) da_nil))))))))) (dss_one (ds_ret de_bl)) dss_nil)
  (dss_cons (ds_set 7 S.nd (de_callG c_law_draw hK (hr.mono (by decide)) (by rfl) (da_cons (de_name 2) (da_cons de_int da_nil))))
  (dss_one (ds_if (dt_not (dt_tru (de_callG c_law_refused_right hK (hr.mono (by decide)) (by rfl) (da_cons (de_name 2) (da_cons (de_name 3) (da_cons (de_name 7) (da_cons (de_op do_sub' (de_ixN 3 de_int (fun _ _ => rfl)) de_int) da_nil))))))) (dss_one (ds_ret de_bl)) dss_nil)))))))))))
  (dss_one (ds_ret de_bl))))
end
end K
set_option Elab.async false
set_option linter.all false
set_option maxRecDepth 100000
set_option maxHeartbeats 0
namespace K
open PySem PySem.Spec PyProof.Rows L2 Dl
def tabC (K : PySem.W.Frag) : Addr → Option (List V) := fun a => none
theorem tabC_ok (K : PySem.W.Frag) : ∀ (a : Addr) (vs : List V), tabC K a = some vs → ∀ H : Hp, SqT K H a vs := by
  intro a vs h H
  unfold tabC at h
  cases h
@[reducible] def tabF (K : PySem.W.Frag) : TabF := ⟨fun K => [((He.cT K ("_law_refused_right", none)).2, (("_law_refused_right" : Str) ++ ".<locals>.") ++ "<lambda>")], K, tabC K, tabC_ok K, lookN []⟩
def csT (K : PySem.W.Frag) : List (Addr × Addr) := [He.cT K ("_law_refused_right", none)]
theorem law_sp {K : PySem.W.Frag} {H : Hp} {a : Addr} {ns : List Int} {E : XK} (hl : ns.length ≤ 63) (tabs : ∀ b ∈ (csT K).map (·.2), H b = some (.tbl #[])) (hS : SqL K H a (ns.map V.int)) : @spD (tabF K) K Claw [.ref a] H (fun v _ => v = .bl true) E := by
  letI := tabF K
  refine sp_law (fun p hp => ?_) hS ⟨ns, rfl, rfl, by omega, fun _ => rfl⟩
  have hp : p ∈ [((He.cT K ("_law_refused_right", none)).2, (("_law_refused_right" : Str) ++ ".<locals>.") ++ "<lambda>")] := hp
  simp only [List.mem_cons, List.not_mem_nil, or_false] at hp
  rcases hp with rfl <;> exact tabs _ (by simp [csT])
theorem facts {P : Program} {w : World} {K : PySem.W.Frag} {h : Heap} {mg : Str → Option Value} {f : Addr} (X : K.In h) (G : h.Ns mainGlobals mg) (hfa : mg ("law" : Str) = some (.ref f)) (c : He.SaysD fa fn K) (cx : ex K = true) :
    ∃ fd : FuncData, (∀ (s : Shared) (v : Value), BindsTo s fd ⟨[v], []⟩ [("script", v)]) ∧ ∀ base : Heap, K.In base → base.Ns mainGlobals mg → (∀ p ∈ csT K, LamX.TabB base mg p.1 p.2) → FnG P w K mg base CX0 8 f fd ["script"] (@spD (tabF K) K Claw) := by
  letI := tabF K
  have hKK : K = TabF.K := rfl
  have hCN : ∀ a, TabF.C a = none := fun a => rfl
  obtain ⟨e_law_like, F_law_like⟩ := c.def_ 0 (d := d_law_like) rfl
  obtain ⟨eways_out, Fways_out⟩ := c.def_ 1 (d := dways_out) rfl
  obtain ⟨eends_of, Fends_of⟩ := c.def_ 2 (d := dends_of) rfl
  obtain ⟨epiece_of, Fpiece_of⟩ := c.def_ 3 (d := dpiece_of) rfl
  obtain ⟨eprime_divisors, Fprime_divisors⟩ := c.def_ 4 (d := dprime_divisors) rfl
  obtain ⟨eprimes_of, Fprimes_of⟩ := c.def_ 5 (d := dprimes_of) rfl
  obtain ⟨eparts_for, Fparts_for⟩ := c.def_ 6 (d := dparts_for) rfl
  obtain ⟨eorder_for, Forder_for⟩ := c.def_ 7 (d := dorder_for) rfl
  obtain ⟨ecomes_before, Fcomes_before⟩ := c.def_ 8 (d := dcomes_before) rfl
  obtain ⟨eturn_parts, Fturn_parts⟩ := c.def_ 9 (d := dturn_parts) rfl
  obtain ⟨e_law_hand_right, F_law_hand_right⟩ := c.def_ 10 (d := d_law_hand_right) rfl
  obtain ⟨e_law_begun, F_law_begun⟩ := c.def_ 11 (d := d_law_begun) rfl
  obtain ⟨e_law_draw, F_law_draw⟩ := c.def_ 12 (d := d_law_draw) rfl
  obtain ⟨e_law_of, F_law_of⟩ := c.def_ 13 (d := d_law_of) rfl
  obtain ⟨e_law_web, F_law_web⟩ := c.def_ 14 (d := d_law_web) rfl
  obtain ⟨e_law_refused_right, F_law_refused_right⟩ := c.def_ 15 (d := d_law_refused_right) rfl
  obtain ⟨e_law_ends, F_law_ends⟩ := c.def_ 16 (d := d_law_ends) rfl
  obtain ⟨e_law_out, F_law_out⟩ := c.def_ 17 (d := d_law_out) rfl
  obtain ⟨e_law_home, F_law_home⟩ := c.def_ 18 (d := d_law_home) rfl
  obtain ⟨e_law_piece, F_law_piece⟩ := c.def_ 19 (d := d_law_piece) rfl
  obtain ⟨e_law_primes, F_law_primes⟩ := c.def_ 20 (d := d_law_primes) rfl
  obtain ⟨e_law_turn, F_law_turn⟩ := c.def_ 21 (d := d_law_turn) rfl
  obtain ⟨e_law_parts, F_law_parts⟩ := c.def_ 22 (d := d_law_parts) rfl
  obtain ⟨e_law_key, F_law_key⟩ := c.def_ 23 (d := d_law_key) rfl
  obtain ⟨e_law_two_right, F_law_two_right⟩ := c.def_ 24 (d := d_law_two_right) rfl
  obtain ⟨e_law_common, F_law_common⟩ := c.def_ 25 (d := d_law_common) rfl
  obtain ⟨e_law_turn_right, F_law_turn_right⟩ := c.def_ 26 (d := d_law_turn_right) rfl
  obtain ⟨e_law_heard, F_law_heard⟩ := c.def_ 27 (d := d_law_heard) rfl
  obtain ⟨elaw, Flaw⟩ := c.def_ 28 (d := dlaw) rfl
  have g_law_like := He.glo_ok X G (c.fact 0 (f := .glo "_law_like") rfl)
  have gways_out := He.glo_ok X G (c.fact 1 (f := .glo "ways_out") rfl)
  have gends_of := He.glo_ok X G (c.fact 2 (f := .glo "ends_of") rfl)
  have gpiece_of := He.glo_ok X G (c.fact 3 (f := .glo "piece_of") rfl)
  have gprime_divisors := He.glo_ok X G (c.fact 4 (f := .glo "prime_divisors") rfl)
  have gprimes_of := He.glo_ok X G (c.fact 5 (f := .glo "primes_of") rfl)
  have gparts_for := He.glo_ok X G (c.fact 6 (f := .glo "parts_for") rfl)
  have gorder_for := He.glo_ok X G (c.fact 7 (f := .glo "order_for") rfl)
  have gcomes_before := He.glo_ok X G (c.fact 8 (f := .glo "comes_before") rfl)
  have gturn_parts := He.glo_ok X G (c.fact 9 (f := .glo "turn_parts") rfl)
  have g_law_hand_right := He.glo_ok X G (c.fact 10 (f := .glo "_law_hand_right") rfl)
  have g_law_begun := He.glo_ok X G (c.fact 11 (f := .glo "_law_begun") rfl)
  have g_law_draw := He.glo_ok X G (c.fact 12 (f := .glo "_law_draw") rfl)
  have g_law_of := He.glo_ok X G (c.fact 13 (f := .glo "_law_of") rfl)
  have g_law_web := He.glo_ok X G (c.fact 14 (f := .glo "_law_web") rfl)
  have g_law_refused_right := He.glo_ok X G (c.fact 15 (f := .glo "_law_refused_right") rfl)
  have g_law_ends := He.glo_ok X G (c.fact 16 (f := .glo "_law_ends") rfl)
  have g_law_out := He.glo_ok X G (c.fact 17 (f := .glo "_law_out") rfl)
  have g_law_home := He.glo_ok X G (c.fact 18 (f := .glo "_law_home") rfl)
  have g_law_piece := He.glo_ok X G (c.fact 19 (f := .glo "_law_piece") rfl)
  have g_law_primes := He.glo_ok X G (c.fact 20 (f := .glo "_law_primes") rfl)
  have g_law_turn := He.glo_ok X G (c.fact 21 (f := .glo "_law_turn") rfl)
  have g_law_parts := He.glo_ok X G (c.fact 22 (f := .glo "_law_parts") rfl)
  have g_law_key := He.glo_ok X G (c.fact 23 (f := .glo "_law_key") rfl)
  have g_law_two_right := He.glo_ok X G (c.fact 24 (f := .glo "_law_two_right") rfl)
  have g_law_common := He.glo_ok X G (c.fact 25 (f := .glo "_law_common") rfl)
  have g_law_turn_right := He.glo_ok X G (c.fact 26 (f := .glo "_law_turn_right") rfl)
  have g_law_heard := He.glo_ok X G (c.fact 27 (f := .glo "_law_heard") rfl)
  obtain ⟨h0, cx0⟩ := two cx
  have hx_NotInOne : xcB K (He.ga K "NotInOne") = true := h0
  have hx_OutOfRange : xcB K (He.ga K "OutOfRange") = true := cx0
  have G_NotInOne := He.glo_ok X G (c.fact 39 (f := .glo "NotInOne") rfl)
  have M_NotInOne := He.meth_ok (c.fact 40 (f := .meth "NotInOne" "__init__") rfl)
  have A_NotInOne_room : PySem.W.findIn K (.ref (He.ga K "NotInOne")) "room" = some none := He.noat_ok (c.fact 41 (f := .noat "NotInOne" "room") rfl)
  obtain ⟨eI_NotInOne, FI_NotInOne⟩ := c.def_ 29 (d := dI_NotInOne) rfl
  have G_OutOfRange := He.glo_ok X G (c.fact 42 (f := .glo "OutOfRange") rfl)
  have M_OutOfRange := He.meth_ok (c.fact 43 (f := .meth "OutOfRange" "__init__") rfl)
  have A_OutOfRange_value : PySem.W.findIn K (.ref (He.ga K "OutOfRange")) "value" = some none := He.noat_ok (c.fact 44 (f := .noat "OutOfRange" "value") rfl)
  obtain ⟨eI_OutOfRange, FI_OutOfRange⟩ := c.def_ 30 (d := dI_OutOfRange) rfl
  have E_NotInOne_NotInOne : PySem.W.exmOne K (.ref (He.ga K "NotInOne")) (.ref (He.ga K "NotInOne")) = some true := He.exm_ok (c.fact 45 (f := .exm "NotInOne" "NotInOne" true) rfl)
  have E_NotInOne_OutOfRange : PySem.W.exmOne K (.ref (He.ga K "NotInOne")) (.ref (He.ga K "OutOfRange")) = some false := He.exm_ok (c.fact 46 (f := .exm "NotInOne" "OutOfRange" false) rfl)
  have E_OutOfRange_NotInOne : PySem.W.exmOne K (.ref (He.ga K "OutOfRange")) (.ref (He.ga K "NotInOne")) = some false := He.exm_ok (c.fact 47 (f := .exm "OutOfRange" "NotInOne" false) rfl)
  have E_OutOfRange_OutOfRange : PySem.W.exmOne K (.ref (He.ga K "OutOfRange")) (.ref (He.ga K "OutOfRange")) = some true := He.exm_ok (c.fact 48 (f := .exm "OutOfRange" "OutOfRange" true) rfl)
  have b_abs := He.free_ok X G (c.fact 29 (f := .free "abs") rfl)
  have b_enumerate := He.free_ok X G (c.fact 30 (f := .free "enumerate") rfl)
  have b_int := He.free_ok X G (c.fact 31 (f := .free "int") rfl)
  have b_len := He.free_ok X G (c.fact 32 (f := .free "len") rfl)
  have b_list := He.free_ok X G (c.fact 33 (f := .free "list") rfl)
  have b_range := He.free_ok X G (c.fact 34 (f := .free "range") rfl)
  have b_repr := He.free_ok X G (c.fact 35 (f := .free "repr") rfl)
  have b_sorted := He.free_ok X G (c.fact 36 (f := .free "sorted") rfl)
  have b_sum := He.free_ok X G (c.fact 37 (f := .free "sum") rfl)
  have b_tuple := He.free_ok X G (c.fact 38 (f := .free "tuple") rfl)
  have e := hfa.symm.trans (He.glo_ok X G (c.fact 28 (f := .glo "law") rfl))
  cases e
  have b := FunD.bindsA (ps := ["script"]) Flaw fun _ _ _ _ _ _ us hl => match us, hl with | [_], _ => rfl
  refine ⟨elaw, fun s v => b s [v] rfl, fun base _ _ TB => ?_⟩
  have m_law_heard := g_law_heard
  have lamK__law_refused_right : LamK K base mg "_law_refused_right" e_law_refused_right _ _ := lamK_of (p := ("_law_refused_right", none)) F_law_refused_right (TB _ (by simp [csT])) (by show _ ∈ [((He.cT K ("_law_refused_right", none)).2, (("_law_refused_right" : Str) ++ ".<locals>.") ++ "<lambda>")]; simp) (fun r hr => by
    have hr : r ∈ [((He.cT K ("_law_refused_right", none)).2, (("_law_refused_right" : Str) ++ ".<locals>.") ++ "<lambda>")] := hr
    simp only [List.mem_cons, List.not_mem_nil, or_false] at hr
    rcases hr with rfl
    · exact fun _ => rfl)
  have x_NotInOne : XKit P w K mg base "NotInOne" "room" (He.ga K "NotInOne") := xkit_of G_NotInOne hx_NotInOne A_NotInOne_room M_NotInOne (fun T => ini_NotInOne FI_NotInOne A_NotInOne_room T) (FI_NotInOne.bindsN fun _ _ _ _ _ _ us hl => match us, hl with | [_, _], _ => rfl)
  have x_OutOfRange : XKit P w K mg base "OutOfRange" "value" (He.ga K "OutOfRange") := xkit_of G_OutOfRange hx_OutOfRange A_OutOfRange_value M_OutOfRange (fun T => ini_OutOfRange FI_OutOfRange A_OutOfRange_value T) (FI_OutOfRange.bindsN fun _ _ _ _ _ _ us hl => match us, hl with | [_, _], _ => rfl)
  have sn__law_refused_right_1 : SeenO K mg ["NotInOne", "OutOfRange"] [(He.ga K "OutOfRange", ⟨"OutOfRange", 1, .tup [.st "range", .fl "value"]⟩), (He.ga K "NotInOne", ⟨"NotInOne", 1, .tup [.st "room", .fl "room"]⟩)] := by
    intro n hn
    simp only [List.mem_cons, List.not_mem_nil, or_false] at hn
    rcases hn with rfl | rfl
    · refine ⟨_, G_NotInOne, fun h hh => ?_⟩
      simp only [List.mem_cons, List.not_mem_nil, or_false] at hh
      rcases hh with rfl | rfl
      · have ne : ¬ ("NotInOne" : PySem.Str) = "OutOfRange" := by decide
        exact ⟨E_NotInOne_OutOfRange.trans (by rw [decide_eq_false ne]), fun z => absurd z ne⟩
      · exact ⟨E_NotInOne_NotInOne.trans (by rw [decide_eq_true rfl]), fun _ => rfl⟩
    · refine ⟨_, G_OutOfRange, fun h hh => ?_⟩
      simp only [List.mem_cons, List.not_mem_nil, or_false] at hh
      rcases hh with rfl | rfl
      · exact ⟨E_OutOfRange_OutOfRange.trans (by rw [decide_eq_true rfl]), fun _ => rfl⟩
      · have ne : ¬ ("OutOfRange" : PySem.Str) = "NotInOne" := by decide
        exact ⟨E_OutOfRange_NotInOne.trans (by rw [decide_eq_false ne]), fun z => absurd z ne⟩
  have sn__law_refused_right_2 : SeenO K mg ["NotInOne", "OutOfRange"] [(He.ga K "OutOfRange", ⟨"OutOfRange", 1, .tup [.st "range", .fl "value"]⟩), (He.ga K "NotInOne", ⟨"NotInOne", 1, .tup [.st "room", .fl "room"]⟩)] := by
    intro n hn
    simp only [List.mem_cons, List.not_mem_nil, or_false] at hn
    rcases hn with rfl | rfl
    · refine ⟨_, G_NotInOne, fun h hh => ?_⟩
      simp only [List.mem_cons, List.not_mem_nil, or_false] at hh
      rcases hh with rfl | rfl
      · have ne : ¬ ("NotInOne" : PySem.Str) = "OutOfRange" := by decide
        exact ⟨E_NotInOne_OutOfRange.trans (by rw [decide_eq_false ne]), fun z => absurd z ne⟩
      · exact ⟨E_NotInOne_NotInOne.trans (by rw [decide_eq_true rfl]), fun _ => rfl⟩
    · refine ⟨_, G_OutOfRange, fun h hh => ?_⟩
      simp only [List.mem_cons, List.not_mem_nil, or_false] at hh
      rcases hh with rfl | rfl
      · exact ⟨E_OutOfRange_OutOfRange.trans (by rw [decide_eq_true rfl]), fun _ => rfl⟩
      · have ne : ¬ ("OutOfRange" : PySem.Str) = "NotInOne" := by decide
        exact ⟨E_OutOfRange_NotInOne.trans (by rw [decide_eq_false ne]), fun z => absurd z ne⟩
  have sn__law_refused_right_3 : SeenO K mg ["NotInOne", "OutOfRange"] [(He.ga K "OutOfRange", ⟨"OutOfRange", 1, .tup [.st "range", .fl "value"]⟩), (He.ga K "NotInOne", ⟨"NotInOne", 1, .tup [.st "room", .fl "room"]⟩)] := by
    intro n hn
    simp only [List.mem_cons, List.not_mem_nil, or_false] at hn
    rcases hn with rfl | rfl
    · refine ⟨_, G_NotInOne, fun h hh => ?_⟩
      simp only [List.mem_cons, List.not_mem_nil, or_false] at hh
      rcases hh with rfl | rfl
      · have ne : ¬ ("NotInOne" : PySem.Str) = "OutOfRange" := by decide
        exact ⟨E_NotInOne_OutOfRange.trans (by rw [decide_eq_false ne]), fun z => absurd z ne⟩
      · exact ⟨E_NotInOne_NotInOne.trans (by rw [decide_eq_true rfl]), fun _ => rfl⟩
    · refine ⟨_, G_OutOfRange, fun h hh => ?_⟩
      simp only [List.mem_cons, List.not_mem_nil, or_false] at hh
      rcases hh with rfl | rfl
      · exact ⟨E_OutOfRange_OutOfRange.trans (by rw [decide_eq_true rfl]), fun _ => rfl⟩
      · have ne : ¬ ("OutOfRange" : PySem.Str) = "NotInOne" := by decide
        exact ⟨E_OutOfRange_NotInOne.trans (by rw [decide_eq_false ne]), fun z => absurd z ne⟩
  have sn__law_refused_right_4 : SeenO K mg ["NotInOne", "OutOfRange"] [(He.ga K "OutOfRange", ⟨"OutOfRange", 1, .tup [.st "range", .fl "value"]⟩), (He.ga K "NotInOne", ⟨"NotInOne", 1, .tup [.st "room", .fl "room"]⟩)] := by
    intro n hn
    simp only [List.mem_cons, List.not_mem_nil, or_false] at hn
    rcases hn with rfl | rfl
    · refine ⟨_, G_NotInOne, fun h hh => ?_⟩
      simp only [List.mem_cons, List.not_mem_nil, or_false] at hh
      rcases hh with rfl | rfl
      · have ne : ¬ ("NotInOne" : PySem.Str) = "OutOfRange" := by decide
        exact ⟨E_NotInOne_OutOfRange.trans (by rw [decide_eq_false ne]), fun z => absurd z ne⟩
      · exact ⟨E_NotInOne_NotInOne.trans (by rw [decide_eq_true rfl]), fun _ => rfl⟩
    · refine ⟨_, G_OutOfRange, fun h hh => ?_⟩
      simp only [List.mem_cons, List.not_mem_nil, or_false] at hh
      rcases hh with rfl | rfl
      · exact ⟨E_OutOfRange_OutOfRange.trans (by rw [decide_eq_true rfl]), fun _ => rfl⟩
      · have ne : ¬ ("OutOfRange" : PySem.Str) = "NotInOne" := by decide
        exact ⟨E_OutOfRange_NotInOne.trans (by rw [decide_eq_false ne]), fun z => absurd z ne⟩
  have c_law_like := k_law_like (P := P) (w := w) (base := base) (hKK := hKK) (hCN := hCN) F_law_like g_law_like b_repr
  have cways_out := kways_out (P := P) (w := w) (base := base) (hKK := hKK) (hCN := hCN) Fways_out gways_out b_enumerate b_tuple
  have cends_of := kends_of (P := P) (w := w) (base := base) (hKK := hKK) (hCN := hCN) Fends_of gends_of 
  have cpiece_of := kpiece_of (P := P) (w := w) (base := base) (hKK := hKK) (hCN := hCN) Fpiece_of gpiece_of b_sorted b_tuple cends_of cways_out
  have cprime_divisors := kprime_divisors (P := P) (w := w) (base := base) (hKK := hKK) (hCN := hCN) Fprime_divisors gprime_divisors b_abs
  have cprimes_of := kprimes_of (P := P) (w := w) (base := base) (hKK := hKK) (hCN := hCN) Fprimes_of gprimes_of b_sorted b_tuple cpiece_of cprime_divisors
  have cparts_for := kparts_for (P := P) (w := w) (base := base) (hKK := hKK) (hCN := hCN) Fparts_for gparts_for b_abs b_tuple
  have corder_for := korder_for (P := P) (w := w) (base := base) (hKK := hKK) (hCN := hCN) Forder_for gorder_for b_sum b_tuple cparts_for
  have ccomes_before := kcomes_before (P := P) (w := w) (base := base) (hKK := hKK) (hCN := hCN) Fcomes_before gcomes_before corder_for cpiece_of cprimes_of x_NotInOne x_OutOfRange
  have cturn_parts := kturn_parts (P := P) (w := w) (base := base) (hKK := hKK) (hCN := hCN) Fturn_parts gturn_parts cparts_for cprimes_of x_OutOfRange
  have c_law_hand_right := k_law_hand_right (P := P) (w := w) (base := base) (hKK := hKK) (hCN := hCN) F_law_hand_right g_law_hand_right b_len b_range c_law_like cprimes_of ccomes_before cturn_parts
  have c_law_begun := k_law_begun (P := P) (w := w) (base := base) (hKK := hKK) (hCN := hCN) F_law_begun g_law_begun b_int b_len
  have c_law_draw := k_law_draw (P := P) (w := w) (base := base) (hKK := hKK) (hCN := hCN) F_law_draw g_law_draw b_int b_len
  have c_law_of := k_law_of (P := P) (w := w) (base := base) (hKK := hKK) (hCN := hCN) F_law_of g_law_of b_len c_law_draw
  have c_law_web := k_law_web (P := P) (w := w) (base := base) (hKK := hKK) (hCN := hCN) F_law_web g_law_web b_range b_tuple c_law_draw c_law_of
  have c_law_refused_right := k_law_refused_right (P := P) (w := w) (base := base) (hKK := hKK) (hCN := hCN) F_law_refused_right g_law_refused_right c_law_draw c_law_of ccomes_before cturn_parts x_NotInOne x_OutOfRange F_law_heard m_law_heard lamK__law_refused_right sn__law_refused_right_1 sn__law_refused_right_2 sn__law_refused_right_3 sn__law_refused_right_4
  have c_law_ends := k_law_ends (P := P) (w := w) (base := base) (hKK := hKK) (hCN := hCN) F_law_ends g_law_ends 
  have c_law_out := k_law_out (P := P) (w := w) (base := base) (hKK := hKK) (hCN := hCN) F_law_out g_law_out b_len b_range c_law_ends
  have c_law_home := k_law_home (P := P) (w := w) (base := base) (hKK := hKK) (hCN := hCN) F_law_home g_law_home c_law_ends c_law_out
  have c_law_piece := k_law_piece (P := P) (w := w) (base := base) (hKK := hKK) (hCN := hCN) F_law_piece g_law_piece b_list b_sorted c_law_home
  have c_law_primes := k_law_primes (P := P) (w := w) (base := base) (hKK := hKK) (hCN := hCN) F_law_primes g_law_primes b_abs b_int b_range b_sorted c_law_piece
  have c_law_turn := k_law_turn (P := P) (w := w) (base := base) (hKK := hKK) (hCN := hCN) F_law_turn g_law_turn b_range c_law_draw c_law_of c_law_piece
  have c_law_parts := k_law_parts (P := P) (w := w) (base := base) (hKK := hKK) (hCN := hCN) F_law_parts g_law_parts b_abs b_int b_tuple
  have c_law_key := k_law_key (P := P) (w := w) (base := base) (hKK := hKK) (hCN := hCN) F_law_key g_law_key b_sum b_tuple c_law_parts
  have c_law_two_right := k_law_two_right (P := P) (w := w) (base := base) (hKK := hKK) (hCN := hCN) F_law_two_right g_law_two_right c_law_key c_law_like ccomes_before
  have c_law_common := k_law_common (P := P) (w := w) (base := base) (hKK := hKK) (hCN := hCN) F_law_common g_law_common b_abs b_int
  have c_law_turn_right := k_law_turn_right (P := P) (w := w) (base := base) (hKK := hKK) (hCN := hCN) F_law_turn_right g_law_turn_right b_range b_tuple c_law_common c_law_like c_law_of c_law_parts c_law_piece c_law_primes c_law_turn c_law_two_right cprimes_of cturn_parts
  exact klaw (P := P) (w := w) (base := base) (hKK := hKK) (hCN := hCN) Flaw hfa b_range c_law_begun c_law_draw c_law_hand_right c_law_of c_law_refused_right c_law_turn_right c_law_web
end K
open PySem PySem.W PySem.Calls PyProof.Rows
theorem PySem.Challenge.cw_tubewords_k23_turn_order_holds : PySem.Challenge.rw_tubewords_k23_turn_order.Holds := by
  w_on; o_law
  refine HandSHeadRun.head_any (r := OpenLaw.row PySem.Challenge.rw_tubewords_k23_turn_order) (q := view (OpenLaw.row PySem.Challenge.rw_tubewords_k23_turn_order).prog [35]) (H := K.hk) (ob := K.ob) (M := 6000) (loose := ([("_law_like" : PySem.Str), ("ways_out" : PySem.Str), ("ends_of" : PySem.Str), ("piece_of" : PySem.Str), ("prime_divisors" : PySem.Str), ("primes_of" : PySem.Str), ("parts_for" : PySem.Str), ("order_for" : PySem.Str), ("comes_before" : PySem.Str), ("turn_parts" : PySem.Str), ("_law_hand_right" : PySem.Str), ("_law_begun" : PySem.Str), ("_law_draw" : PySem.Str), ("_law_of" : PySem.Str), ("_law_web" : PySem.Str), ("_law_refused_right" : PySem.Str)] ++ [("_law_ends" : PySem.Str), ("_law_out" : PySem.Str), ("_law_home" : PySem.Str), ("_law_piece" : PySem.Str), ("_law_primes" : PySem.Str), ("_law_turn" : PySem.Str), ("_law_parts" : PySem.Str), ("_law_key" : PySem.Str), ("_law_two_right" : PySem.Str), ("_law_common" : PySem.Str), ("_law_turn_right" : PySem.Str), ("_law_heard" : PySem.Str), ("WebError" : PySem.Str), ("NotInOne" : PySem.Str), ("OutOfRange" : PySem.Str), ("__name__" : PySem.Str)] ++ [("__name__" : PySem.Str), ("__name__" : PySem.Str), ("__name__" : PySem.Str)])) (d := HandSHeadRun.topDef (OpenLaw.row PySem.Challenge.rw_tubewords_k23_turn_order).prog 35) (kwd := []) K.ob_eq
    (by kernel_rfl) (fun s => by kernel_rfl) K.run (by kernel_rfl) (by kernel_rfl) (by kernel_rfl) (by rfl) (by first | assumption | decide +kernel) (by decide +kernel) ⟨rfl, rfl, rfl, rfl, rfl, by decide +kernel⟩ ?hw ?hc
  case hw => w_witness2
  case hc =>
    letI : Dl.TabF := ⟨fun _ => [], [], fun _ => none, (fun _ _ h => by cases h), fun _ => none⟩
    refine Dl.walkXT (l := PySem.Challenge.rw_tubewords_k23_turn_order) (n := 63) (k := 8) (x := "script") (CX := L2.CX0) rfl (by decide) (by kernel_rfl) ⟨⟨rfl, by decide, by decide⟩, rfl⟩ ?F (fun _ _ _ _ z => z)
    intro w mg fa h Y G hmg0
    obtain ⟨K, KX, c⟩ := Y
    have hmg : mg ("law" : PySem.Str) = some (.ref fa) := by
      have e : (HandSHeadRun.topDef (OpenLaw.row PySem.Challenge.rw_tubewords_k23_turn_order).prog 35).name = ("law" : PySem.Str) := by kernel_rfl
      rw [← e]
      exact hmg0
    obtain ⟨fd, hb, hF⟩ := _root_.K.facts (P := (PySem.Challenge.rw_tubewords_k23_turn_order).prog) (w := w) KX G hmg c.t.d c.more
    refine ⟨K, fd, @Dl.spD (_root_.K.tabF K) K _root_.K.Claw, _root_.K.csT K, KX, hb, fun p hp => ?_, fun p hp => ?_, fun p hp => ?_, fun H a ns hl ho hS => _root_.K.law_sp hl ho.1 hS, hF⟩
    all_goals
      simp only [_root_.K.csT, List.mem_cons, List.not_mem_nil, or_false] at hp
      rcases hp with rfl
      all_goals first | exact c.empty _ (by decide) | exact c.out _ (by decide) | exact PySem.W.codeHd_of_K KX (c.hd _ (by decide))
