import PyProof.Rows.All
import KE.KStateDown
import Lean
import HandS.Words
import HandS.WordsExc
import HandS.Head0
import HandS.Head1
import HandS.Head2
import HandS.HeadEnd
import HandS.HeadHook1
import HandS.HeadHook2
import Wide.All
import OpenK.AllK
import Wide.FinOn
import HandS.ForMost
import HandS.Walk
import HandS.Wide
import HandS.IsInst
import HandS.Lambda
import HandS.TupAny
import HandS.Flt
import HandS.Zip
import HandS.Defaults
import HandS.Ends
import HandS.TryOnly
import HandS.RaiseMore
import KE.GoesMore
import PyProof.ReprRoads
import PyProof.ReprLen
import PyProof.Rows.RegStrFacts
import HandS.SortInts
import HandS.Sort
import KE.KSortTupUse
import HandS.Style
import HandS.Gcd
import HandS.TupMul
import HandS.ExcInit
import HandS.ExcField
import HandS.Iter
import HandS.Dict
import PyProof.ZipIter
import HandS.EndTab
import HandS.HeadHook4
import HandS.Conv
import PyProof.TupleOfSeq
import PyProof.Rows.SortWalk
import KE.DataMinKey
import PyProof.WalkInts
import HandS.FltList
import PyProof.P3In
import HandS.SetFor
import HandS.WideMore
import HandS.TupLe
import PyProof.P3Eq
import PySem.Challenge.RW_tubewords_k30_cores_and_homes
set_option Elab.async false
set_option linter.all false
set_option maxRecDepth 100000
set_option maxHeartbeats 0
namespace Dl
open PySem L2
def top300 : Int := 1000000000000000000000000000000000000000000000000000000000000000000000000000000000000000000000000000000000000000000000000000000000000000000000000000000000000000000000000000000000000000000000000000000000000000000000000000000000000000000000000000000000000000000000000000000000000000000000000000000000000
end Dl
namespace K
open PySem L2 Dl
def top (i : Nat) : Stmt := PySem.Challenge.pw_tubewords_k30_cores_and_homes.main.body.getD i (.Pass ⟨0, 0, 0, 0⟩)
abbrev s_law_begun : Stmt := top 23
abbrev s_law_draw : Stmt := top 24
abbrev s_law_of : Stmt := top 25
abbrev s_law_bared : Stmt := top 36
abbrev s_law_web : Stmt := top 26
abbrev s_law_ends : Stmt := top 27
abbrev s_law_out : Stmt := top 28
abbrev s_law_home : Stmt := top 31
abbrev s_law_ends_at : Stmt := top 33
abbrev s_law_core : Stmt := top 34
abbrev s_law_bare : Stmt := top 32
abbrev s_law_home_in : Stmt := top 35
abbrev sways_out : Stmt := top 2
abbrev sends_of : Stmt := top 1
abbrev spiece_of : Stmt := top 3
abbrev sties_of_piece : Stmt := top 10
abbrev sways_over : Stmt := top 11
abbrev sends_at : Stmt := top 15
abbrev sleast_idle : Stmt := top 16
abbrev score_and_taken : Stmt := top 14
abbrev snumbers_of : Stmt := top 5
abbrev scrossings_of : Stmt := top 6
abbrev swalk_with : Stmt := top 7
abbrev sjoined_of_any_size : Stmt := top 8
abbrev shome_of : Stmt := top 17
abbrev s_law_joined : Stmt := top 30
abbrev sgo_along : Stmt := top 19
abbrev splain_of_any_size : Stmt := top 20
abbrev sare_equal : Stmt := top 21
abbrev score_of : Stmt := top 13
abbrev s_law_end : Stmt := top 29
abbrev s_law_right : Stmt := top 37
abbrev slaw : Stmt := top 38
end K
namespace K
open PySem PySem.Spec PyProof.Rows L2 Dl
/-! ### the head -/
def d_law_begun : He.DefD := ⟨("_law_begun", none), "_law_begun", "_law_begun", defArgs s_law_begun, defBody s_law_begun, defScope s_law_begun, [], []⟩
def d_law_draw : He.DefD := ⟨("_law_draw", none), "_law_draw", "_law_draw", defArgs s_law_draw, defBody s_law_draw, defScope s_law_draw, [], []⟩
def d_law_of : He.DefD := ⟨("_law_of", none), "_law_of", "_law_of", defArgs s_law_of, defBody s_law_of, defScope s_law_of, [], []⟩
def d_law_bared : He.DefD := ⟨("_law_bared", none), "_law_bared", "_law_bared", defArgs s_law_bared, defBody s_law_bared, defScope s_law_bared, [], []⟩
def d_law_web : He.DefD := ⟨("_law_web", none), "_law_web", "_law_web", defArgs s_law_web, defBody s_law_web, defScope s_law_web, [], []⟩
def d_law_ends : He.DefD := ⟨("_law_ends", none), "_law_ends", "_law_ends", defArgs s_law_ends, defBody s_law_ends, defScope s_law_ends, [], []⟩
def d_law_out : He.DefD := ⟨("_law_out", none), "_law_out", "_law_out", defArgs s_law_out, defBody s_law_out, defScope s_law_out, [], []⟩
def d_law_home : He.DefD := ⟨("_law_home", none), "_law_home", "_law_home", defArgs s_law_home, defBody s_law_home, defScope s_law_home, [], []⟩
def d_law_ends_at : He.DefD := ⟨("_law_ends_at", none), "_law_ends_at", "_law_ends_at", defArgs s_law_ends_at, defBody s_law_ends_at, defScope s_law_ends_at, [], []⟩
def d_law_core : He.DefD := ⟨("_law_core", none), "_law_core", "_law_core", defArgs s_law_core, defBody s_law_core, defScope s_law_core, [], []⟩
def d_law_bare : He.DefD := ⟨("_law_bare", none), "_law_bare", "_law_bare", defArgs s_law_bare, defBody s_law_bare, defScope s_law_bare, [], []⟩
def d_law_home_in : He.DefD := ⟨("_law_home_in", none), "_law_home_in", "_law_home_in", defArgs s_law_home_in, defBody s_law_home_in, defScope s_law_home_in, [], []⟩
def dways_out : He.DefD := ⟨("ways_out", none), "ways_out", "ways_out", defArgs sways_out, defBody sways_out, defScope sways_out, [], []⟩
def dends_of : He.DefD := ⟨("ends_of", none), "ends_of", "ends_of", defArgs sends_of, defBody sends_of, defScope sends_of, [], []⟩
def dpiece_of : He.DefD := ⟨("piece_of", none), "piece_of", "piece_of", defArgs spiece_of, defBody spiece_of, defScope spiece_of, [], []⟩
def dties_of_piece : He.DefD := ⟨("ties_of_piece", none), "ties_of_piece", "ties_of_piece", defArgs sties_of_piece, defBody sties_of_piece, defScope sties_of_piece, [], []⟩
def dways_over : He.DefD := ⟨("ways_over", none), "ways_over", "ways_over", defArgs sways_over, defBody sways_over, defScope sways_over, [], []⟩
def dends_at : He.DefD := ⟨("ends_at", none), "ends_at", "ends_at", defArgs sends_at, defBody sends_at, defScope sends_at, [], []⟩
def dleast_idle : He.DefD := ⟨("least_idle", none), "least_idle", "least_idle", defArgs sleast_idle, defBody sleast_idle, defScope sleast_idle, [], []⟩
def dcore_and_taken : He.DefD := ⟨("core_and_taken", none), "core_and_taken", "core_and_taken", defArgs score_and_taken, defBody score_and_taken, defScope score_and_taken, [], []⟩
def dnumbers_of : He.DefD := ⟨("numbers_of", none), "numbers_of", "numbers_of", defArgs snumbers_of, defBody snumbers_of, defScope snumbers_of, [], []⟩
def dcrossings_of : He.DefD := ⟨("crossings_of", none), "crossings_of", "crossings_of", defArgs scrossings_of, defBody scrossings_of, defScope scrossings_of, [], []⟩
def dwalk_with : He.DefD := ⟨("walk_with", none), "walk_with", "walk_with", defArgs swalk_with, defBody swalk_with, defScope swalk_with, [], []⟩
def djoined_of_any_size : He.DefD := ⟨("joined_of_any_size", none), "joined_of_any_size", "joined_of_any_size", defArgs sjoined_of_any_size, defBody sjoined_of_any_size, defScope sjoined_of_any_size, [], []⟩
def dhome_of : He.DefD := ⟨("home_of", none), "home_of", "home_of", defArgs shome_of, defBody shome_of, defScope shome_of, [], []⟩
def d_law_joined : He.DefD := ⟨("_law_joined", none), "_law_joined", "_law_joined", defArgs s_law_joined, defBody s_law_joined, defScope s_law_joined, [], []⟩
def dgo_along : He.DefD := ⟨("go_along", none), "go_along", "go_along", defArgs sgo_along, defBody sgo_along, defScope sgo_along, [], []⟩
def dplain_of_any_size : He.DefD := ⟨("plain_of_any_size", none), "plain_of_any_size", "plain_of_any_size", defArgs splain_of_any_size, defBody splain_of_any_size, defScope splain_of_any_size, [], []⟩
def dare_equal : He.DefD := ⟨("are_equal", none), "are_equal", "are_equal", defArgs sare_equal, defBody sare_equal, defScope sare_equal, [], []⟩
def dcore_of : He.DefD := ⟨("core_of", none), "core_of", "core_of", defArgs score_of, defBody score_of, defScope score_of, [], []⟩
def d_law_end : He.DefD := ⟨("_law_end", none), "_law_end", "_law_end", defArgs s_law_end, defBody s_law_end, defScope s_law_end, [], []⟩
def d_law_right : He.DefD := ⟨("_law_right", none), "_law_right", "_law_right", defArgs s_law_right, defBody s_law_right, defScope s_law_right, [], []⟩
def dlaw : He.DefD := ⟨("law", none), "law", "law", defArgs slaw, defBody slaw, defScope slaw, [], []⟩
def fn : List He.DefD := [d_law_begun, d_law_draw, d_law_of, d_law_bared, d_law_web, d_law_ends, d_law_out, d_law_home, d_law_ends_at, d_law_core, d_law_bare, d_law_home_in, dways_out, dends_of, dpiece_of, dties_of_piece, dways_over, dends_at, dleast_idle, dcore_and_taken, dnumbers_of, dcrossings_of, dwalk_with, djoined_of_any_size, dhome_of, d_law_joined, dgo_along, dplain_of_any_size, dare_equal, dcore_of, d_law_end, d_law_right, dlaw]
def fa : List He.Fa := [.glo "_law_begun", .glo "_law_draw", .glo "_law_of", .glo "_law_bared", .glo "_law_web", .glo "_law_ends", .glo "_law_out", .glo "_law_home", .glo "_law_ends_at", .glo "_law_core", .glo "_law_bare", .glo "_law_home_in", .glo "ways_out", .glo "ends_of", .glo "piece_of", .glo "ties_of_piece", .glo "ways_over", .glo "ends_at", .glo "least_idle", .glo "core_and_taken", .glo "numbers_of", .glo "crossings_of", .glo "walk_with", .glo "joined_of_any_size", .glo "home_of", .glo "_law_joined", .glo "go_along", .glo "plain_of_any_size", .glo "are_equal", .glo "core_of", .glo "_law_end", .glo "_law_right", .glo "law", .free "abs", .free "enumerate", .free "int", .free "len", .free "list", .free "min", .free "range", .free "repr", .free "sorted", .free "tuple", .free "zip"]
abbrev R : PySem.W.OpenRow := PySem.W.OpenLaw.row PySem.Challenge.rw_tubewords_k30_cores_and_homes
abbrev hk : PySem.W.Hook := He.hookD 4 fa fn
def ob (s : PySem.W.SharedT) : He.AlD := He.obsDG 4 fa fn (HandSHeadRun.getT s)
theorem ob_eq (s : PySem.W.SharedT) : ob s = hk.obs s.abs := He.obsDG_eq (HandSHeadRun.getT_eq s)
theorem run (w : World) : HandSHeadRun.RunEq R (PySem.W.view R.prog [38]) hk ob 6000 ([("_law_begun" : PySem.Str), ("_law_draw" : PySem.Str), ("_law_of" : PySem.Str), ("_law_bared" : PySem.Str), ("_law_web" : PySem.Str), ("_law_ends" : PySem.Str), ("_law_out" : PySem.Str), ("_law_home" : PySem.Str), ("_law_ends_at" : PySem.Str), ("_law_core" : PySem.Str), ("_law_bare" : PySem.Str), ("_law_home_in" : PySem.Str), ("ways_out" : PySem.Str), ("ends_of" : PySem.Str), ("piece_of" : PySem.Str), ("ties_of_piece" : PySem.Str)] ++ [("ways_over" : PySem.Str), ("ends_at" : PySem.Str), ("least_idle" : PySem.Str), ("core_and_taken" : PySem.Str), ("numbers_of" : PySem.Str), ("crossings_of" : PySem.Str), ("walk_with" : PySem.Str), ("joined_of_any_size" : PySem.Str), ("home_of" : PySem.Str), ("_law_joined" : PySem.Str), ("go_along" : PySem.Str), ("plain_of_any_size" : PySem.Str), ("are_equal" : PySem.Str), ("core_of" : PySem.Str), ("_law_end" : PySem.Str), ("_law_right" : PySem.Str)] ++ [("__name__" : PySem.Str), ("__name__" : PySem.Str), ("__name__" : PySem.Str), ("__name__" : PySem.Str), ("__name__" : PySem.Str), ("__name__" : PySem.Str)]) w := by
  intro os
  kernel_rfl
end K
set_option Elab.async false
set_option maxRecDepth 100000
set_option linter.all false
set_option autoImplicit false
/-! A layer over plain data: values are PyData, the heap is split into what stays as it is (F) and the lists that one name alone owns. -/
namespace Dl
open PySem L2
abbrev Px := PyData
def Le (F G : Hp) : Prop := ∀ a o, F a = some o → G a = some o
theorem Le.refl (F : Hp) : Le F F := fun _ _ h => h
theorem Le.trans {F G I : Hp} (h : Le F G) (k : Le G I) : Le F I := fun a o e => k a o (h a o e)
theorem Le.nn {F G : Hp} (h : Le F G) {a : Addr} (e : G a = none) : F a = none := by
  cases q : F a with
  | none => rfl
  | some o => rw [h a o q] at e; cases e
theorem Le.up {F : Hp} {p : Addr} {o : HO} (h : F p = none) : Le F (upd F p o) := fun a u e => by
  rw [upd_ne (ne_of_none e h)]; exact e
theorem Le.up2 {F G : Hp} {p : Addr} {o : HO} (h : Le F G) : Le (upd F p o) (upd G p o) := fun a u e => by
  by_cases q : a = p
  · subst q; rw [upd_same] at e ⊢; exact e
  · rw [upd_ne q] at e ⊢; exact h a u e
/-- the tables of code objects, by the module's facts (a law without a lambda has none), and the module's own tuples -/
class TabF where
  T : PySem.W.Frag → List (Addr × Str)
  K : PySem.W.Frag
  C : Addr → Option (List V)
  ok : ∀ (a : Addr) (vs : List V), C a = some vs → ∀ H : Hp, SqT K H a vs
  N : Str → Option Addr
variable [TabF]
/-- a tuple stands there: of the heap part, or of the module -/
def TupF (F : Hp) (a : Addr) (vs : List V) : Prop := F a = some (.tup vs) ∨ TabF.C a = some vs
theorem TupF.of {F : Hp} {a : Addr} {vs : List V} (h : F a = some (.tup vs)) : TupF F a vs := .inl h
theorem TupF.mono {F G : Hp} {a : Addr} {vs : List V} (h : Le F G) (e : TupF F a vs) : TupF G a vs := e.imp (h a _) id
theorem TupF.sq {K : PySem.W.Frag} {F G : Hp} {a : Addr} {vs : List V} (hk : K = TabF.K) (h : Le F G) (e : TupF F a vs) : SqT K G a vs := by
  rcases e with e | e
  · exact SqT.of (h _ _ e)
  · subst hk
    exact TabF.ok a vs e G
mutual
inductive Rp (F : Hp) : V → Px → Prop
  | non : Rp F .non .none
  | bl (b : Bool) : Rp F (.bl b) (.bool b)
  | int (i : Int) : Rp F (.int i) (.int i)
  | str (x : Str) : Rp F (.str x) (.str x)
  | lst {a : Addr} {vs : List V} {ds : List Px} : F a = some (.lst vs) → RpA F vs ds → Rp F (.ref a) (.list ds)
  | tup {a : Addr} {vs : List V} {ds : List Px} : TupF F a vs → RpA F vs ds → Rp F (.ref a) (.tuple ds)
  | fn {x : Str} {a : Addr} : TabF.N x = some a → Rp F (.ref a) (.dict [(.str x, .none)])
  | dct {a : Addr} {ws : List (Key × V)} {kv1 kv2 : Px × Px} {kvs : List (Px × Px)} : F a = some (.dK ws) → RpW F ws (kv1 :: kv2 :: kvs) → Rp F (.ref a) (.dict (kv1 :: kv2 :: kvs))
  | dci {a : Addr} {ws : List (Key × V)} {kvs : List (Px × Px)} : F a = some (.dK ws) → RpI F ws kvs → Rp F (.ref a) (.dict ((.none, .none) :: kvs))
inductive RpA (F : Hp) : List V → List Px → Prop
  | nil : RpA F [] []
  | cons {v : V} {vs : List V} {d : Px} {ds : List Px} : Rp F v d → RpA F vs ds → RpA F (v :: vs) (d :: ds)
inductive RpW (F : Hp) : List (Key × V) → List (Px × Px) → Prop
  | nil : RpW F [] []
  | cons {k : Str} {v : V} {d : Px} {ws : List (Key × V)} {kvs : List (Px × Px)} : Rp F v d → RpW F ws kvs → RpW F ((.inr k, v) :: ws) ((.str k, d) :: kvs)
inductive RpI (F : Hp) : List (Key × V) → List (Px × Px) → Prop
  | nil : RpI F [] []
  | cons {k : Int} {v : V} {d : Px} {ws : List (Key × V)} {kvs : List (Px × Px)} : Rp F v d → RpI F ws kvs → RpI F ((.inl k, v) :: ws) ((.int k, d) :: kvs)
end
mutual
theorem Rp.mono {F G : Hp} (h : Le F G) : ∀ {v : V} {d : Px}, Rp F v d → Rp G v d
  | _, _, .non => .non
  | _, _, .bl b => .bl b
  | _, _, .int i => .int i
  | _, _, .str x => .str x
  | _, _, .lst e r => .lst (h _ _ e) (RpA.mono h r)
  | _, _, .tup e r => .tup (e.mono h) (RpA.mono h r)
  | _, _, .fn e => .fn e
  | _, _, .dct e r => .dct (h _ _ e) (RpW.mono h r)
  | _, _, .dci e r => .dci (h _ _ e) (RpI.mono h r)
theorem RpA.mono {F G : Hp} (h : Le F G) : ∀ {vs : List V} {ds : List Px}, RpA F vs ds → RpA G vs ds
  | _, _, .nil => .nil
  | _, _, .cons a b => .cons (Rp.mono h a) (RpA.mono h b)
theorem RpW.mono {F G : Hp} (h : Le F G) : ∀ {ws : List (Key × V)} {ds : List (Px × Px)}, RpW F ws ds → RpW G ws ds
  | _, _, .nil => .nil
  | _, _, .cons a b => .cons (Rp.mono h a) (RpW.mono h b)
theorem RpI.mono {F G : Hp} (h : Le F G) : ∀ {ws : List (Key × V)} {ds : List (Px × Px)}, RpI F ws ds → RpI G ws ds
  | _, _, .nil => .nil
  | _, _, .cons a b => .cons (Rp.mono h a) (RpI.mono h b)
end
mutual
theorem Rp.dp {K : PySem.W.Frag} {F G : Hp} (hk : K = TabF.K) (h : Le F G) : ∀ {v : V} {d : Px}, Rp F v d → d.hasDict = false → Dp K G v d
  | _, _, .non, _ => .non
  | _, _, .bl b, _ => .bl b
  | _, _, .int i, _ => .int i
  | _, _, .str x, _ => .str x
  | _, _, .lst e r, n => .lst (SqL.of (h _ _ e)) (RpA.dp hk h r (by simpa [PyData.hasDict] using n))
  | _, _, .tup e r, n => .tup (e.sq hk h) (RpA.dp hk h r (by simpa [PyData.hasDict] using n))
  | _, _, .fn _, n => by simp [PyData.hasDict] at n
  | _, _, .dct _ _, n => by simp [PyData.hasDict] at n
  | _, _, .dci _ _, n => by simp [PyData.hasDict] at n
theorem RpA.dp {K : PySem.W.Frag} {F G : Hp} (hk : K = TabF.K) (h : Le F G) : ∀ {vs : List V} {ds : List Px}, RpA F vs ds → PyData.hasDictAll ds = false → DpAll K G vs ds
  | _, _, .nil, _ => .nil
  | _, _, .cons a b, n => by
    simp only [PyData.hasDictAll, Bool.or_eq_false_iff] at n
    exact .cons (Rp.dp hk h a n.1) (RpA.dp hk h b n.2)
end
mutual
theorem lay_nd : ∀ {d : Px}, d.canLay0 = true → d.hasDict = false
  | .none, _ => rfl
  | .bool _, _ => rfl
  | .int _, _ => rfl
  | .str _, _ => rfl
  | .list xs, h => by
    simp only [PyData.canLay0] at h
    simpa [PyData.hasDict] using layAll_nd h
  | .tuple xs, h => by
    simp only [PyData.canLay0] at h
    simpa [PyData.hasDict] using layAll_nd h
  | .dict _, h => by simp [PyData.canLay0] at h
theorem layAll_nd : ∀ {ds : List Px}, PyData.canLayAll0 ds = true → PyData.hasDictAll ds = false
  | [], _ => rfl
  | x :: xs, h => by
    simp only [PyData.canLayAll0, Bool.and_eq_true] at h
    simp only [PyData.hasDictAll, lay_nd h.1, layAll_nd h.2, Bool.or_self]
end
theorem sh_nd {d : Px} (h : SeqAt.shaped d = true) : d.hasDict = false := by
  simp only [SeqAt.shaped, Bool.and_eq_true] at h
  exact lay_nd h.1
theorem RpA.length {F : Hp} : ∀ {vs : List V} {ds : List Px}, RpA F vs ds → vs.length = ds.length
  | _, _, .nil => rfl
  | _, _, .cons _ b => congrArg (· + 1) (RpA.length b)
theorem RpA.append {F : Hp} : ∀ {vs ws : List V} {ds es : List Px}, RpA F vs ds → RpA F ws es → RpA F (vs ++ ws) (ds ++ es)
  | _, _, _, _, .nil, s => s
  | _, _, _, _, .cons a b, s => .cons a (RpA.append b s)
theorem RpA.get {F : Hp} : ∀ {vs : List V} {ds : List Px} {i : Nat} {d : Px}, RpA F vs ds → ds[i]? = some d → ∃ v, vs[i]? = some v ∧ Rp F v d
  | _, _, _, _, .nil, h => by simp at h
  | _, _, 0, _, .cons a _, h => by simp at h; subst h; exact ⟨_, rfl, a⟩
  | _, _, i + 1, _, .cons _ b, h => by
    obtain ⟨v, e, r⟩ := RpA.get (i := i) b (by simpa using h)
    exact ⟨v, by simpa using e, r⟩
theorem RpA.getV {F : Hp} {vs : List V} {ds : List Px} {i : Nat} {v : V} (r : RpA F vs ds) (h : vs[i]? = some v) : ∃ d, ds[i]? = some d ∧ Rp F v d := by
  have hl := r.length
  have hi : i < vs.length := (List.getElem?_eq_some_iff.mp h).1
  obtain ⟨w, e, q⟩ := r.get (i := i) (d := ds[i]'(by omega)) (by simp)
  rw [h] at e; cases e
  exact ⟨_, by simp, q⟩
theorem RpA.take {F : Hp} : ∀ {vs : List V} {ds : List Px} (n : Nat), RpA F vs ds → RpA F (vs.take n) (ds.take n)
  | _, _, 0, _ => by simpa using RpA.nil
  | _, _, _ + 1, .nil => by simpa using RpA.nil
  | _, _, n + 1, .cons a b => .cons a (RpA.take n b)
theorem RpA.drop {F : Hp} : ∀ {vs : List V} {ds : List Px} (n : Nat), RpA F vs ds → RpA F (vs.drop n) (ds.drop n)
  | _, _, 0, r => r
  | _, _, _ + 1, .nil => .nil
  | _, _, n + 1, .cons _ b => RpA.drop n b
theorem RpA.set {F : Hp} {v : V} {d : Px} (r : Rp F v d) : ∀ {vs : List V} {ds : List Px} (i : Nat), RpA F vs ds → RpA F (vs.set i v) (ds.set i d)
  | _, _, _, .nil => .nil
  | _, _, 0, .cons _ t => .cons r t
  | _, _, i + 1, .cons q t => .cons q (RpA.set r i t)
theorem RpA.dropLast {F : Hp} {vs : List V} {ds : List Px} (r : RpA F vs ds) : RpA F vs.dropLast ds.dropLast := by
  rw [List.dropLast_eq_take, List.dropLast_eq_take, r.length]
  exact r.take _
theorem RpA.one {F : Hp} {v : V} {d : Px} (r : Rp F v d) : RpA F [v] [d] := .cons r .nil
theorem RpA.map_int {F : Hp} : ∀ (ns : List Int), RpA F (ns.map V.int) (ns.map .int)
  | [] => .nil
  | n :: ns => .cons (.int n) (RpA.map_int ns)
/-! ### dicts: keys ints, or tuples of ints and texts -/
inductive RpK (F : Hp) : List (Key × V) → List (Int × Px) → Prop
  | nil : RpK F [] []
  | cons {k : Int} {v : V} {d : Px} {ws : List (Key × V)} {kvs : List (Int × Px)} : Rp F v d → RpK F ws kvs → RpK F ((.inl k, v) :: ws) ((k, d) :: kvs)
inductive RpT (F : Hp) : List (List Key × V) → List (List Key × Px) → Prop
  | nil : RpT F [] []
  | cons {k : List Key} {v : V} {d : Px} {ws : List (List Key × V)} {kvs : List (List Key × Px)} : Rp F v d → RpT F ws kvs → RpT F ((k, v) :: ws) ((k, d) :: kvs)
theorem RpK.mono {F G : Hp} (h : Le F G) : ∀ {ws : List (Key × V)} {kvs : List (Int × Px)}, RpK F ws kvs → RpK G ws kvs
  | _, _, .nil => .nil
  | _, _, .cons a b => .cons (Rp.mono h a) (RpK.mono h b)
theorem RpT.mono {F G : Hp} (h : Le F G) : ∀ {ws : List (List Key × V)} {kvs : List (List Key × Px)}, RpT F ws kvs → RpT G ws kvs
  | _, _, .nil => .nil
  | _, _, .cons a b => .cons (Rp.mono h a) (RpT.mono h b)
inductive Dic where
  | k (kvs : List (Int × Px))
  | t (kvs : List (List Key × Px))
def DicR (F : Hp) : Dic → HO → Prop
  | .k kvs, o => ∃ ws, o = .dK ws ∧ RpK F ws kvs
  | .t kvs, o => ∃ ws, o = .dT ws ∧ RpT F ws kvs
theorem DicR.mono {F G : Hp} (h : Le F G) {D : Dic} {o : HO} (r : DicR F D o) : DicR G D o := by
  cases D with
  | k kvs => obtain ⟨ws, e, r⟩ := r; exact ⟨ws, e, r.mono h⟩
  | t kvs => obtain ⟨ws, e, r⟩ := r; exact ⟨ws, e, r.mono h⟩
theorem DicR.ntbl {F : Hp} {D : Dic} {o : HO} (r : DicR F D o) (ps : Array Value) : o ≠ .tbl ps := by
  cases D with
  | k kvs => obtain ⟨ws, e, r⟩ := r; rw [e]; exact fun z => nomatch z
  | t kvs => obtain ⟨ws, e, r⟩ := r; rw [e]; exact fun z => nomatch z
theorem DicR.ngen {F : Hp} {D : Dic} {o : HO} (r : DicR F D o) (v : V) (ws : List (Key × V)) : o ≠ .dK ((.inr "left", v) :: ws) := by
  cases D with
  | k kvs =>
    obtain ⟨us, e, r⟩ := r
    rw [e]
    intro z
    cases z
    cases r
  | t kvs => obtain ⟨us, e, r⟩ := r; rw [e]; exact fun z => nomatch z
/-! ### slots and configurations -/
/-- what a name or an expression holds: data; a list that nothing else holds; the drawing state -/
inductive Rv where
  | d (x : Px)
  | own (xs : List Px)
  | gen
  | scr (ns : List Int)
  | dic (D : Dic)
/-- what no two names hold together -/
def Rv.mu : Rv → Prop
  | .own _ => True
  | .dic _ => True
  | _ => False
@[simp] theorem mu_d {x : Px} : (Rv.d x).mu = False := rfl
@[simp] theorem mu_gen : Rv.gen.mu = False := rfl
@[simp] theorem mu_scr {ns : List Int} : (Rv.scr ns).mu = False := rfl
@[simp] theorem mu_own {xs : List Px} : (Rv.own xs).mu = True := rfl
@[simp] theorem mu_dic {D : Dic} : (Rv.dic D).mu = True := rfl
structure Cf where
  env : List (Option Rv)
  g : Option Nat
/-- an exception, by its class's name and its fields -/
structure Xn where
  cls : Str
  fields : List (Str × Px)
/-- the drawing state at am: so many draws at most -/
def GenAt (F H : Hp) (am : Addr) (n : Nat) : Prop :=
  ∃ (left seed spot : Int) (ac : Addr) (ns : List Int), H am = some (.dK [(.inr "left", .int left), (.inr "seed", .int seed), (.inr "cells", .ref ac), (.inr "spot", .int spot)]) ∧
    F ac = some (.lst (ns.map V.int)) ∧ ns ≠ [] ∧ ns.length ≤ 1000 ∧ 0 ≤ left ∧ 0 ≤ seed ∧ seed < 2147483647 ∧ 0 ≤ spot ∧ spot ≤ n ∧ n ≤ 2 ^ 40
structure Dx where
  K : PySem.W.Frag
  a0 : Option Addr
  F0 : Hp
  H0 : Hp
  XE : Xn → Option Nat → Addr → Hp → Hp → Prop
/-- a slot's content, over F and H -/
def Sl (Δ : Dx) (am : Addr) (F H : Hp) : Rv → V → Prop
  | .d x, v => Rp F v x
  | .own xs, v => ∃ a vs, v = .ref a ∧ H a = some (.lst vs) ∧ F a = none ∧ Δ.H0 a = none ∧ RpA F vs xs
  | .gen, v => v = .ref am
  | .scr ns, v => ∃ a, v = .ref a ∧ SqL Δ.K F a (ns.map V.int)
  | .dic D, v => ∃ a o, v = .ref a ∧ H a = some o ∧ F a = none ∧ Δ.H0 a = none ∧ DicR F D o
theorem sq_le {K : PySem.W.Frag} {F G : Hp} {a : Addr} {xs : List V} (l : Le F G) (h : SqL K F a xs) : SqL K G a xs := Same.seq (fun b o e => l b o e) h
def Dx.T (Δ : Dx) : List (Addr × Str) := TabF.T Δ.K
/-- no table stands there -/
def NoT (F : Hp) : Prop := ∀ a ps, F a ≠ some (.tbl ps)
/-- the same without its tables -/
def unT (H : Hp) : Hp := fun a => match H a with
  | some (.tbl _) => none
  | o => o
theorem unT_not (H : Hp) : NoT (unT H) := fun a ps z => by
  unfold unT at z
  split at z
  · cases z
  · rename_i h
    exact h _ z
theorem unT_of {H : Hp} {a : Addr} {o : HO} (h : unT H a = some o) : H a = some o := by
  unfold unT at h
  split at h
  · cases h
  · exact h
theorem unT_to {H : Hp} {a : Addr} {o : HO} (h : H a = some o) (n : ∀ ps, o ≠ .tbl ps) : unT H a = some o := by
  unfold unT
  split
  · rename_i ps e
    rw [h] at e
    exact absurd (Option.some.inj e) (n ps)
  · exact h
theorem unT_none {H : Hp} {a : Addr} (h : unT H a = none) : H a = none ∨ ∃ ps, H a = some (.tbl ps) := by
  unfold unT at h
  split at h
  · rename_i ps e
    exact .inr ⟨ps, e⟩
  · exact .inl h
theorem NoT.upd {F : Hp} {a : Addr} {o : HO} (t : NoT F) (h : ∀ ps, o ≠ .tbl ps) : NoT (L2.upd F a o) := fun b ps z => by
  by_cases q : b = a
  · rw [q, upd_same] at z
    exact h ps (Option.some.inj z)
  · rw [upd_ne q] at z
    exact t b ps z
/-- at a def's entry -/
def Tb0 (K : PySem.W.Frag) (F H : Hp) : Prop := (∀ p ∈ TabF.T K, LamX.TabS H p.1 p.2) ∧ NoT F
def Tb (Δ : Dx) (F H : Hp) : Prop := (∀ p ∈ Δ.T, LamX.TabS H p.1 p.2) ∧ NoT F ∧ NoT Δ.H0
/-- tables stay where neither a table nor a code object changes -/
theorem tabs_upd {H : Hp} {P a : Addr} {q : Str} {o : HO} (t : LamX.TabS H P q) (h : ∀ u, H a = some u → (∀ ps, u ≠ .tbl ps) ∧ ∀ c q, u ≠ LamX.CodeO c q) : LamX.TabS (upd H a o) P q := by
  obtain ⟨ps, h1, h2, h3⟩ := t
  have n1 : P ≠ a := by
    rintro rfl
    exact (h _ h1).1 ps rfl
  refine ⟨ps, by rw [upd_ne n1]; exact h1, h2, fun pos cv hc => ?_⟩
  obtain ⟨c, e1, e2⟩ := h3 pos cv hc
  have n2 : c ≠ a := by
    rintro rfl
    exact (h _ e2).2 c q rfl
  exact ⟨c, e1, by rw [upd_ne n2]; exact e2⟩
theorem lst_ok {vs : List V} : (∀ ps, (HO.lst vs) ≠ .tbl ps) ∧ ∀ c q, (HO.lst vs) ≠ LamX.CodeO c q := ⟨fun ps z => (nomatch z), fun c q z => by
  unfold LamX.CodeO at z
  cases z⟩
theorem dK_ok {ws : List (Key × V)} : (∀ ps, (HO.dK ws) ≠ .tbl ps) ∧ ∀ c q, (HO.dK ws) ≠ LamX.CodeO c q := ⟨fun ps z => (nomatch z), fun c q z => by
  unfold LamX.CodeO at z
  cases z⟩
theorem Tb.upd {Δ : Dx} {F H : Hp} {a : Addr} {o : HO} (t : Tb Δ F H) (h : ∀ u, H a = some u → (∀ ps, u ≠ .tbl ps) ∧ ∀ c q, u ≠ LamX.CodeO c q) : Tb Δ F (L2.upd H a o) := ⟨fun p hp => tabs_upd (t.1 p hp) h, t.2⟩
theorem Tb.new {Δ : Dx} {F H : Hp} {a : Addr} {o : HO} (t : Tb Δ F H) (h : H a = none) : Tb Δ F (L2.upd H a o) := t.upd fun u e => by rw [h] at e; cases e
theorem Tb.lst {Δ : Dx} {F H : Hp} {a : Addr} {o : HO} {vs : List V} (t : Tb Δ F H) (h : H a = some (.lst vs)) : Tb Δ F (L2.upd H a o) := t.upd fun u e => by rw [h] at e; cases e; exact lst_ok
theorem Tb.dK {Δ : Dx} {F H : Hp} {a : Addr} {o : HO} {ws : List (Key × V)} (t : Tb Δ F H) (h : H a = some (.dK ws)) : Tb Δ F (L2.upd H a o) := t.upd fun u e => by rw [h] at e; cases e; exact dK_ok
/-- something stands there, no table -/
def Lv (H : Hp) (a : Addr) : Prop := ∃ o, H a = some o ∧ ∀ ps, o ≠ .tbl ps
theorem Lv.some {H : Hp} {a : Addr} (l : Lv H a) : H a ≠ none := by
  obtain ⟨o, e, _⟩ := l
  rw [e]
  exact fun z => nomatch z
theorem Lv.un {H : Hp} {a : Addr} (l : Lv H a) : unT H a ≠ none := by
  obtain ⟨o, e, n⟩ := l
  rw [unT_to e n]
  exact fun z => nomatch z
theorem Lv.upd {H : Hp} {a p : Addr} {o : HO} (l : Lv H a) (n : ∀ ps, o ≠ .tbl ps) : Lv (L2.upd H p o) a := by
  by_cases q : a = p
  · rw [q]
    exact ⟨o, upd_same, n⟩
  · obtain ⟨u, e, m⟩ := l
    exact ⟨u, by rw [upd_ne q]; exact e, m⟩
structure Ok (Δ : Dx) (am : Addr) (F : Hp) (σ : St) (H : Hp) (c : Cf) : Prop where
  fh : Le F H
  f0 : Le Δ.F0 F
  fr : ∀ a, F a ≠ none → Δ.F0 a ≠ none ∨ Δ.H0 a = none
  tb : Tb Δ F H
  pr : ∀ a o, Δ.H0 a = some o → Δ.a0 ≠ some a → H a = some o
  al : ∀ a, Δ.a0 = some a → Lv H a ∧ Δ.H0 a ≠ none
  gn : ∀ n, c.g = some n → (Δ.a0 = some am ∨ (Δ.a0 = none ∧ Δ.H0 am = none)) ∧ F am = none ∧ GenAt F H am n
  len : σ.length = c.env.length
  sv : ∀ (i : Nat) (r : Rv), c.env[i]? = some (some r) → ∃ v, σ[i]? = some (some v) ∧ Sl Δ am F H r v
  di : ∀ (i j : Nat) (r r' : Rv), i ≠ j → c.env[i]? = some (some r) → c.env[j]? = some (some r') → r.mu → r'.mu → σ[i]? ≠ σ[j]?
theorem Sl.at {Δ : Dx} {am : Addr} {F H : Hp} {r : Rv} {v : V} (s : Sl Δ am F H r v) (h : r.mu) : ∃ a o, v = .ref a ∧ H a = some o ∧ F a = none ∧ Δ.H0 a = none := by
  cases r with
  | d x => exact h.elim
  | gen => exact h.elim
  | scr ns => exact h.elim
  | own xs =>
    obtain ⟨a, vs, e1, e2, e3, e4, _⟩ := s
    exact ⟨a, _, e1, e2, e3, e4⟩
  | dic D =>
    obtain ⟨a, o, e1, e2, e3, e4, _⟩ := s
    exact ⟨a, _, e1, e2, e3, e4⟩
theorem Sl.atN {Δ : Dx} {am : Addr} {F H : Hp} {r : Rv} {v : V} (s : Sl Δ am F H r v) (h : r.mu) : ∃ a o, v = .ref a ∧ H a = some o ∧ ∀ ps, o ≠ .tbl ps := by
  cases r with
  | d x => exact h.elim
  | gen => exact h.elim
  | scr ns => exact h.elim
  | own xs =>
    obtain ⟨a, vs, e1, e2, _⟩ := s
    exact ⟨a, _, e1, e2, lst_ok.1⟩
  | dic D =>
    obtain ⟨a, o, e1, e2, _, _, e5⟩ := s
    exact ⟨a, _, e1, e2, e5.ntbl⟩
/-- an expression's result -/
def Rs (Δ : Dx) (am : Addr) (F : Hp) (σ : St) (H : Hp) (c : Cf) (r : Rv) (v : V) : Prop :=
  Sl Δ am F H r v ∧ (r.mu → ∀ (i : Nat) (r' : Rv), c.env[i]? = some (some r') → r'.mu → σ[i]? ≠ some (some v))
/-- behind an exception, or at a def's end -/
structure Fin (Δ : Dx) (am : Addr) (F H : Hp) (g : Option Nat) : Prop where
  fh : Le F H
  f0 : Le Δ.F0 F
  fr : ∀ a, F a ≠ none → Δ.F0 a ≠ none ∨ Δ.H0 a = none
  tb : Tb Δ F H
  pr : ∀ a o, Δ.H0 a = some o → Δ.a0 ≠ some a → H a = some o
  al : ∀ a, Δ.a0 = some a → Lv H a ∧ Δ.H0 a ≠ none
  gn : ∀ n, g = some n → (Δ.a0 = some am ∨ (Δ.a0 = none ∧ Δ.H0 am = none)) ∧ F am = none ∧ GenAt F H am n
section
variable {Δ : Dx} {am : Addr} {F F' G : Hp} {σ : St} {H H' : Hp} {c : Cf}
theorem Ok.tbs {K : PySem.W.Frag} (k : Ok Δ am F σ H c) (hK : Δ.K = K) : Tb0 K F H := by
  subst hK
  exact ⟨k.tb.1, k.tb.2.1⟩
theorem Ok.fin (k : Ok Δ am F σ H c) : Fin Δ am F H c.g := ⟨k.fh, k.f0, k.fr, k.tb, k.pr, k.al, k.gn⟩
theorem GenAt.ne {n : Nat} {a : Addr} {vs : List V} (g : GenAt F H am n) (h : H a = some (.lst vs)) : a ≠ am := by
  obtain ⟨_, _, _, _, _, e, _⟩ := g
  rintro rfl
  rw [h] at e; cases e
theorem GenAt.neD {n : Nat} {a : Addr} {D : Dic} {o : HO} (g : GenAt F H am n) (h : H a = some o) (r : DicR F D o) : a ≠ am := by
  obtain ⟨_, _, _, _, _, e, _⟩ := g
  rintro rfl
  rw [h] at e
  exact r.ngen _ _ (Option.some.inj e)
theorem GenAt.sm {n : Nat} (g : GenAt F H am n) : H am ≠ none := by
  obtain ⟨_, _, _, _, _, e, _⟩ := g
  rw [e]; exact fun z => nomatch z
/-- nothing that stood at the entry stands at a free address -/
theorem Ok.new (k : Ok Δ am F σ H c) {p : Addr} (hp : H p = none) : Δ.H0 p = none := by
  cases q : Δ.H0 p with
  | none => rfl
  | some o =>
    by_cases e : Δ.a0 = some p
    · exact absurd hp (k.al p e).1.some
    · rw [k.pr p o q e] at hp; cases hp
theorem Ok.ngen (k : Ok Δ am F σ H c) {n : Nat} (e : c.g = some n) {p : Addr} (hp : H p = none) : p ≠ am := by
  rintro rfl
  exact (k.gn n e).2.2.sm hp
/-- a new object -/
theorem Ok.alloc (k : Ok Δ am F σ H c) {p : Addr} (hp : H p = none) (o : HO) : Ok Δ am F σ (upd H p o) c where
  fh := k.fh.trans (Le.up hp)
  f0 := k.f0
  fr := k.fr
  tb := k.tb.new hp
  pr := fun a u e n => Le.up hp a u (k.pr a u e n)
  al := fun a e => by
    obtain ⟨⟨u, h1, h2⟩, h3⟩ := k.al a e
    exact ⟨⟨u, Le.up hp _ _ h1, h2⟩, h3⟩
  gn := fun n e => by
    obtain ⟨h1, h2, l, s, sp, ac, ns, h3, h4⟩ := k.gn n e
    exact ⟨h1, h2, l, s, sp, ac, ns, Le.up hp _ _ h3, h4⟩
  len := k.len
  sv := fun i r e => by
    obtain ⟨v, h1, h2⟩ := k.sv i r e
    refine ⟨v, h1, ?_⟩
    cases r with
    | d x => exact h2
    | gen => exact h2
    | scr ns => exact h2
    | own xs =>
      obtain ⟨a, vs, e1, e2, e3⟩ := h2
      exact ⟨a, vs, e1, Le.up hp _ _ e2, e3⟩
    | dic D =>
      obtain ⟨a, vs, e1, e2, e3⟩ := h2
      exact ⟨a, vs, e1, Le.up hp _ _ e2, e3⟩
  di := k.di
/-- more that stays as it is: at a free address of F -/
theorem Ok.stay (k : Ok Δ am F σ H c) (nt : NoT G) (l : Le F G) (gh : Le G H) (fr : ∀ a, G a ≠ none → F a ≠ none ∨ Δ.H0 a = none) (ng : ∀ n, c.g = some n → G am = none)
    (no : ∀ (i : Nat) (r : Rv) (a : Addr), c.env[i]? = some (some r) → r.mu → σ[i]? = some (some (.ref a)) → G a = none) : Ok Δ am G σ H c where
  fh := gh
  f0 := k.f0.trans l
  fr := fun a h => (fr a h).elim (fun z => k.fr a z) .inr
  tb := ⟨k.tb.1, nt, k.tb.2.2⟩
  pr := k.pr
  al := k.al
  gn := fun n e => by
    obtain ⟨h1, h2, left, s, sp, ac, ns, h3, h4, h5⟩ := k.gn n e
    exact ⟨h1, ng n e, left, s, sp, ac, ns, h3, l _ _ h4, h5⟩
  len := k.len
  sv := fun i r e => by
    obtain ⟨v, h1, h2⟩ := k.sv i r e
    refine ⟨v, h1, ?_⟩
    cases r with
    | d x => exact Rp.mono l h2
    | gen => exact h2
    | scr ns =>
      obtain ⟨a, e1, e2⟩ := h2
      exact ⟨a, e1, sq_le l e2⟩
    | own xs =>
      obtain ⟨a, vs, e1, e2, e3, e4, e5⟩ := h2
      subst e1
      exact ⟨a, vs, rfl, e2, no i _ a e True.intro h1, e4, e5.mono l⟩
    | dic D =>
      obtain ⟨a, vs, e1, e2, e3, e4, e5⟩ := h2
      subst e1
      exact ⟨a, vs, rfl, e2, no i _ a e True.intro h1, e4, e5.mono l⟩
  di := k.di
/-- an own list, named no more, becomes data -/
theorem Ok.frz (k : Ok Δ am F σ H c) {a : Addr} {vs : List V} (h : H a = some (.lst vs)) (h0 : Δ.H0 a = none) (hf : F a = none) (no : ∀ (i : Nat) (r : Rv), c.env[i]? = some (some r) → r.mu → σ[i]? ≠ some (some (.ref a))) :
    Ok Δ am (upd F a (.lst vs)) σ H c ∧ Le F (upd F a (.lst vs)) := by
  refine ⟨k.stay (k.tb.2.1.upd lst_ok.1) (Le.up hf) ?_ ?_ ?_ ?_, Le.up hf⟩
  · intro b o e
    by_cases q : b = a
    · subst q; rw [upd_same] at e; rw [h]; exact e
    · rw [upd_ne q] at e; exact k.fh b o e
  · intro b e
    by_cases q : b = a
    · subst q; exact .inr h0
    · rw [upd_ne q] at e; exact .inl e
  · intro n e
    have ne : am ≠ a := ((k.gn n e).2.2.ne h).symm
    rw [upd_ne ne]
    exact (k.gn n e).2.1
  · intro i r b e1 mu e2
    have ne : b ≠ a := by
      rintro rfl
      exact no i r e1 mu e2
    rw [upd_ne ne]
    obtain ⟨v, e3, e4⟩ := k.sv i _ e1
    rw [e2] at e3
    cases e3
    cases r with
    | own xs =>
      obtain ⟨a', vs', e5, e6, e7, _⟩ := e4
      cases e5
      exact e7
    | dic D =>
      obtain ⟨a', vs', e5, e6, e7, _⟩ := e4
      cases e5
      exact e7
    | d x => exact mu.elim
    | gen => exact mu.elim
    | scr ns => exact mu.elim
/-- a result as data -/
def asD (r : Rv) (k : Px → Prop) : Prop := match r with
  | .d x => k x
  | .own xs => k (.list xs)
  | .gen => False
  | .scr _ => False
  | .dic _ => False
theorem Rs.data {r : Rv} {v : V} {k : Px → Prop} (o : Ok Δ am F σ H c) (h : Rs Δ am F σ H c r v) (q : asD r k) : ∃ x F', k x ∧ Le F F' ∧ Ok Δ am F' σ H c ∧ Rp F' v x := by
  cases r with
  | d x => exact ⟨x, F, q, Le.refl F, o, h.1⟩
  | gen => exact q.elim
  | scr ns => exact q.elim
  | dic D => exact q.elim
  | own xs =>
    obtain ⟨⟨a, vs, e1, e2, e3, e4, e5⟩, e6⟩ := h
    subst e1
    obtain ⟨o', l⟩ := o.frz e2 e4 e3 fun i r e mu => e6 True.intro i r e mu
    exact ⟨_, _, q, l, o', .lst upd_same (e5.mono l)⟩
end
end Dl
set_option Elab.async false
set_option maxRecDepth 100000
set_option linter.all false
set_option autoImplicit false
namespace Dl
open PySem L2
variable [TabF]
/-! ### what is wanted, over data -/
abbrev XP := Xn → Option Nat → Prop
abbrev WE := Cf → (Rv → Cf → Prop) → XP → Prop
abbrev WT := Cf → (Bool → Cf → Prop) → XP → Prop
abbrev WA := Cf → (List Rv → Cf → Prop) → XP → Prop
abbrev WI := Cf → (List Px → Cf → Prop) → XP → Prop
abbrev WG := Rv → Cf → (Cf → Prop) → Prop
inductive Fl where
  | nx (c : Cf)
  | rt (r : Rv) (g : Option Nat)
  | bk (c : Cf)
  | ct (c : Cf)
abbrev WS := Cf → (Fl → Prop) → XP → Prop
def KX (Δ : Dx) (am : Addr) (F : Hp) (X : XP) : Prop := ∀ x g F' H', X x g → Le F F' → Fin Δ am F' H' g → Δ.XE x g am F' H'
theorem KX.le {Δ : Dx} {am : Addr} {F G : Hp} {X : XP} (k : KX Δ am F X) (l : Le F G) : KX Δ am G X := fun x g F' H' h l' f => k x g F' H' h (l.trans l') f
def KQ (Δ : Dx) (am : Addr) (F : Hp) (σ : St) (P : Rv → Cf → Prop) (Q : VK) : Prop :=
  ∀ r c' F' v H', P r c' → Le F F' → Ok Δ am F' σ H' c' → Rs Δ am F' σ H' c' r v → Q v H'
def tE (Δ : Dx) (f : WE) : TE := fun σ H Q => ∃ am F c P X, Ok Δ am F σ H c ∧ f c P X ∧ KQ Δ am F σ P Q ∧ KX Δ am F X
def tT (Δ : Dx) (f : WT) : TT := fun σ H Q => ∃ am F c P X, Ok Δ am F σ H c ∧ f c P X ∧
  (∀ b c' F' H', P b c' → Le F F' → Ok Δ am F' σ H' c' → Q b H') ∧ KX Δ am F X
/-- the values of arguments (own lists are data here) -/
inductive Rss (Δ : Dx) (am : Addr) (F : Hp) : List Rv → List V → Prop
  | nil : Rss Δ am F [] []
  | d {x : Px} {v : V} {rs : List Rv} {vs : List V} : Rp F v x → Rss Δ am F rs vs → Rss Δ am F (.d x :: rs) (v :: vs)
  | gen {rs : List Rv} {vs : List V} : Rss Δ am F rs vs → Rss Δ am F (.gen :: rs) (.ref am :: vs)
  | scr {a : Addr} {ns : List Int} {rs : List Rv} {vs : List V} : SqL Δ.K F a (ns.map V.int) → Rss Δ am F rs vs → Rss Δ am F (.scr ns :: rs) (.ref a :: vs)
theorem Rss.mono {Δ : Dx} {am : Addr} {F G : Hp} (l : Le F G) : ∀ {rs : List Rv} {vs : List V}, Rss Δ am F rs vs → Rss Δ am G rs vs
  | _, _, .nil => .nil
  | _, _, .d h r => .d (h.mono l) (r.mono l)
  | _, _, .gen r => .gen (r.mono l)
  | _, _, .scr h r => .scr (sq_le l h) (r.mono l)
def tA (Δ : Dx) (f : WA) : TA := fun σ H Q => ∃ am F c P X, Ok Δ am F σ H c ∧ f c P X ∧
  (∀ rs c' F' vs H', P rs c' → Le F F' → Ok Δ am F' σ H' c' → Rss Δ am F' rs vs → Q vs H') ∧ KX Δ am F X
/-- the slots but those in ws are as they were -/
def Tch (ws : List Nat) (σ σ' : St) : Prop := σ'.length = σ.length ∧ ∀ i : Nat, i ∉ ws → σ'[i]? = σ[i]?
def tG (Δ : Dx) (ws : List Nat) (f : WG) : TG := fun v σ H Q => ∃ am F c r P, Ok Δ am F σ H c ∧ Rs Δ am F σ H c r v ∧ f r c P ∧
  (∀ c' F' σ' H', P c' → Le F F' → Ok Δ am F' σ' H' c' → Tch ws σ σ' → Q σ' H')
def KF (Δ : Dx) (am : Addr) (F : Hp) (P : Fl → Prop) (D : Ends) : Prop :=
  (∀ c am' F' σ' H', P (.nx c) → Le F F' → Ok Δ am' F' σ' H' c → D.nx σ' H') ∧
  (∀ c am' F' σ' H', P (.bk c) → Le F F' → Ok Δ am' F' σ' H' c → D.bk σ' H') ∧
  (∀ c am' F' σ' H', P (.ct c) → Le F F' → Ok Δ am' F' σ' H' c → D.ct σ' H') ∧
  (∀ r g am' F' H' v, P (.rt r g) → Le F F' → Fin Δ am' F' H' g → Sl Δ am' F' H' r v → D.rt v H')
def KXs (Δ : Dx) (F : Hp) (X : XP) : Prop := ∀ am, KX Δ am F X
theorem KXs.le {Δ : Dx} {F G : Hp} {X : XP} (k : KXs Δ F X) (l : Le F G) : KXs Δ G X := fun am => (k am).le l
def tS (Δ : Dx) (f : WS) : TS := fun D σ H => ∃ am F c P X, Ok Δ am F σ H c ∧ f c P X ∧ KF Δ am F P D ∧ KXs Δ F X
theorem _root_.L2.PE.imp {X : Cx} {e : Expr} {t t' : TE} (h : PE X e t) (w : ∀ σ H Q, t' σ H Q → t σ H Q) : PE X e t' :=
  ⟨fun pins s σ H Q I q => h.run pins s σ H Q I (w σ H Q q)⟩
theorem _root_.L2.PT.imp {X : Cx} {e : Expr} {t t' : TT} (h : PT X e t) (w : ∀ σ H Q, t' σ H Q → t σ H Q) : PT X e t' :=
  ⟨fun pins s σ H Q I q => h.run pins s σ H Q I (w σ H Q q)⟩
theorem _root_.L2.PA.imp {X : Cx} {e : List Expr} {t t' : TA} (h : PA X e t) (w : ∀ σ H Q, t' σ H Q → t σ H Q) : PA X e t' :=
  ⟨fun pos pins s σ H Q I q => h.run pos pins s σ H Q I (w σ H Q q)⟩
theorem _root_.L2.PS.imp {X : Cx} {e : Stmt} {t t' : TS} (h : PS X e t) (w : ∀ D σ H, t' D σ H → t D σ H) : PS X e t' :=
  ⟨fun pins s σ H D I q => h.run pins s σ H D I (w D σ H q)⟩
theorem _root_.L2.PSs.imp {X : Cx} {e : List Stmt} {t t' : TS} (h : PSs X e t) (w : ∀ D σ H, t' D σ H → t D σ H) : PSs X e t' :=
  ⟨fun pins s σ H D I q => h.run pins s σ H D I (w D σ H q)⟩
theorem _root_.L2.PG.imp {X : Cx} {e : Expr} {t t' : TG} (h : PG X e t) (w : ∀ v σ H Q, t' v σ H Q → t v σ H Q) : PG X e t' :=
  ⟨fun pins s σ H v u Q I r q => h.run pins s σ H v u Q I r (w v σ H Q q)⟩
theorem _root_.L2.PI.imp {X : Cx} {tg e : Expr} {t t' : TI} (h : PI X tg e t) (w : ∀ σ H Q, t' σ H Q → t σ H Q) : PI X tg e t' :=
  ⟨fun pins s σ H Q I q => h.run pins s σ H Q I (w σ H Q q)⟩
section
variable {X : Cx} {Δ : Dx} {a b e : Expr} {fa fb fc : WE} {pos : Pos}
/-! ### names and constants -/
def eName (i : Nat) : WE := fun c P _ => match c.env[i]? with
  | some (some (.d x)) => P (.d x) c
  | some (some .gen) => P .gen c
  | some (some (.scr ns)) => P (.scr ns) c
  | some (some (.own xs)) => P (.d (.list xs)) { c with env := c.env.set i (some (.d (.list xs))) }
  | _ => False
theorem St.set_get {σ : St} {i j : Nat} (o : Option V) : (σ.set i o)[j]? = if j = i ∧ i < σ.length then some o else σ[j]? := by
  by_cases e : j = i
  · subst e
    by_cases h : j < σ.length
    · rw [List.getElem?_set_self h, if_pos ⟨rfl, h⟩]
    · rw [if_neg (fun z => h z.2), List.getElem?_eq_none (by simpa using h), List.getElem?_eq_none (by simpa using h)]
  · rw [List.getElem?_set_ne (Ne.symm e), if_neg (fun z => e z.1)]
theorem env_get {l : List (Option Rv)} {i j : Nat} (o : Option Rv) : (l.set i o)[j]? = if j = i ∧ i < l.length then some o else l[j]? := by
  by_cases e : j = i
  · subst e
    by_cases h : j < l.length
    · rw [List.getElem?_set_self h, if_pos ⟨rfl, h⟩]
    · rw [if_neg (fun z => h z.2), List.getElem?_eq_none (by simpa using h), List.getElem?_eq_none (by simpa using h)]
  · rw [List.getElem?_set_ne (Ne.symm e), if_neg (fun z => e z.1)]
/-- the slot's list is given away: it stays as it is from now on -/
theorem Ok.give {am : Addr} {F : Hp} {σ : St} {H : Hp} {c : Cf} (k : Ok Δ am F σ H c) {i : Nat} {xs : List Px} (h : c.env[i]? = some (some (.own xs))) :
    ∃ v F', σ[i]? = some (some v) ∧ Le F F' ∧ Ok Δ am F' σ H { c with env := c.env.set i (some (.d (.list xs))) } ∧ Rp F' v (.list xs) := by
  obtain ⟨v, h1, a, vs, e1, e2, e3, e4, e5⟩ := k.sv i _ h
  subst e1
  have hi : i < c.env.length := (List.getElem?_eq_some_iff.mp h).1
  -- the configuration with the slot forgotten
  have k1 : Ok Δ am F σ H { c with env := c.env.set i none } := ⟨k.fh, k.f0, k.fr, k.tb, k.pr, k.al, k.gn, by simpa using k.len, fun j r e => by
      rw [env_get] at e
      split at e
      · cases e
      · exact k.sv j r e, fun j l ys zs n p q => by
      rw [env_get] at p q
      split at p
      · cases p
      · split at q
        · cases q
        · exact k.di j l ys zs n p q⟩
  obtain ⟨k2, l⟩ := k1.frz e2 e4 e3 fun j ys e mu => by
    rw [env_get] at e
    split at e
    · cases e
    · rename_i n
      intro z
      exact k.di j i ys _ (fun q => n ⟨q, hi⟩) e h mu True.intro (z.trans h1.symm)
  have rp : Rp (upd F a (.lst vs)) (.ref a) (.list xs) := .lst upd_same (e5.mono l)
  refine ⟨_, _, h1, l, ?_, rp⟩
  refine ⟨k2.fh, k2.f0, k2.fr, k2.tb, k2.pr, k2.al, k2.gn, by simpa using k.len, fun j r e => ?_, fun j l ys zs n p q => ?_⟩
  · rw [env_get] at e
    split at e
    · rename_i z
      cases e
      rw [z.1]
      exact ⟨_, h1, rp⟩
    · exact k2.sv j r (by rw [env_get, if_neg (by assumption)]; exact e)
  · rw [env_get] at p q
    split at p
    · cases p
      exact fun z => z.elim
    · split at q
      · cases q
        exact fun _ z => z.elim
      · exact k.di j l ys zs n p q
theorem de_name (i : Nat) {x : Str} (hN : X.N[i]? = some x := by rfl) (hv : Vis X.env.scope x := by first | exact Or.inl rfl | exact Or.inr (Or.inl rfl) | exact Or.inr (Or.inr rfl)) (hd : (x == ("__debug__" : Str)) = false := by decide)
    (hcd : (x == ("__classdict__" : Str)) = false := by decide) : PE X (.Name x pos) (tE Δ (eName i)) := by
  refine (pv i hN hv hd hcd).imp fun σ H Q ⟨am, F, c, P, XX, ok, hf, kq, kx⟩ => ?_
  unfold eName at hf
  split at hf
  · rename_i x e
    obtain ⟨v, h1, h2⟩ := ok.sv i _ e
    exact ⟨v, h1, kq _ c F v H hf (Le.refl F) ok ⟨h2, fun z => z.elim⟩⟩
  · rename_i e
    obtain ⟨v, h1, h2⟩ := ok.sv i _ e
    exact ⟨v, h1, kq _ c F v H hf (Le.refl F) ok ⟨h2, fun z => z.elim⟩⟩
  · rename_i ns e
    obtain ⟨v, h1, h2⟩ := ok.sv i _ e
    exact ⟨v, h1, kq _ c F v H hf (Le.refl F) ok ⟨h2, fun z => z.elim⟩⟩
  · rename_i xs e
    obtain ⟨v, F', h1, l, k, r⟩ := ok.give e
    exact ⟨v, h1, kq _ _ F' v H hf l k ⟨r, fun z => z.elim⟩⟩
  · exact hf.elim
def eC (x : Px) : WE := fun c P _ => P (.d x) c
theorem de_int {i : Int} {k : Nat} : PE X (.Constant (.int i) k pos) (tE Δ (eC (.int i))) :=
  L2.PE.imp pe_int fun σ H Q ⟨am, F, c, P, XX, ok, hf, kq, kx⟩ => kq _ c F _ H hf (Le.refl F) ok ⟨.int i, fun z => z.elim⟩
theorem de_str {s : Str} {k : Nat} : PE X (.Constant (.str s) k pos) (tE Δ (eC (.str s))) :=
  L2.PE.imp pe_str fun σ H Q ⟨am, F, c, P, XX, ok, hf, kq, kx⟩ => kq _ c F _ H hf (Le.refl F) ok ⟨.str s, fun z => z.elim⟩
theorem de_bl {b : Bool} {k : Nat} : PE X (.Constant (.bool b) k pos) (tE Δ (eC (.bool b))) :=
  L2.PE.imp pe_bl fun σ H Q ⟨am, F, c, P, XX, ok, hf, kq, kx⟩ => kq _ c F _ H hf (Le.refl F) ok ⟨.bl b, fun z => z.elim⟩
theorem de_non {k : Nat} : PE X (.Constant .none k pos) (tE Δ (eC .none)) :=
  L2.PE.imp pe_non fun σ H Q ⟨am, F, c, P, XX, ok, hf, kq, kx⟩ => kq _ c F _ H hf (Le.refl F) ok ⟨.non, fun z => z.elim⟩
/-! ### operators -/
abbrev OD := Px → Px → (Rv → Prop) → Prop
abbrev UD := Px → (Rv → Prop) → Prop
structure OpD (X : Cx) (Δ : Dx) (f : Value → Value → Sem Value) (o : OD) : Prop where
  ex : ∃ r : R2, OpR X f r ∧ ∀ (am : Addr) (F : Hp) (σ : St) (H : Hp) (c : Cf) (vx vy : V) (x y : Px) (P : Rv → Prop) (Q : VK), Ok Δ am F σ H c → Rp F vx x → Rp F vy y → o x y P →
    (∀ rr F' v H', P rr → Le F F' → Ok Δ am F' σ H' c → Rs Δ am F' σ H' c rr v → Q v H') → r vx vy H Q
def eOp (o : OD) (fa fb : WE) : WE := fun c P X => fa c (fun r1 c1 => asD r1 fun x => fb c1 (fun r2 c2 => asD r2 fun y => o x y fun r => P r c2) X) X
theorem two_of {r : R2} {o : OD} (ho : ∀ (am : Addr) (F : Hp) (σ : St) (H : Hp) (c : Cf) (vx vy : V) (x y : Px) (P : Rv → Prop) (Q : VK), Ok Δ am F σ H c → Rp F vx x → Rp F vy y → o x y P →
    (∀ rr F' v H', P rr → Le F F' → Ok Δ am F' σ H' c → Rs Δ am F' σ H' c rr v → Q v H') → r vx vy H Q) (σ : St) (H : Hp) (Q : VK) (h : tE Δ (eOp o fa fb) σ H Q) : tOp r (tE Δ fa) (tE Δ fb) σ H Q := by
  obtain ⟨am, F, c, P, XX, ok, hf, kq, kx⟩ := h
  refine ⟨am, F, c, _, XX, ok, hf, fun r1 c1 F1 v1 H1 p1 l1 o1 s1 => ?_, kx⟩
  obtain ⟨x, F1', hx, l1', o1', rp1⟩ := s1.data o1 p1
  refine ⟨am, F1', c1, _, XX, o1', hx, fun r2 c2 F2 v2 H2 p2 l2 o2 s2 => ?_, kx.le (l1.trans l1')⟩
  obtain ⟨y, F2', hy, l2', o2', rp2⟩ := s2.data o2 p2
  have l3 : Le F1' F2' := l2.trans l2'
  exact ho am F2' σ H2 c2 v1 v2 x y _ Q o2' (rp1.mono l3) rp2 hy fun rr F' v H' prr l o s => kq rr c2 F' v H' prr (((l1.trans l1').trans l3).trans l) o s
theorem de_op {op : Operator} {o : OD} (ho : OpD X Δ (binaryOp op) o) (ha : PE X a (tE Δ fa)) (hb : PE X b (tE Δ fb)) : PE X (.BinOp a op b pos) (tE Δ (eOp o fa fb)) := by
  obtain ⟨r, h1, h2⟩ := ho.ex
  exact (pe_op h1 ha hb).imp fun σ H Q h => two_of h2 σ H Q h
structure UnD (X : Cx) (Δ : Dx) (f : Value → Sem Value) (o : UD) : Prop where
  ex : ∃ r : V → Hp → VK → Prop, UnR X f r ∧ ∀ (am : Addr) (F : Hp) (σ : St) (H : Hp) (c : Cf) (vx : V) (x : Px) (P : Rv → Prop) (Q : VK), Ok Δ am F σ H c → Rp F vx x → o x P →
    (∀ rr F' v H', P rr → Le F F' → Ok Δ am F' σ H' c → Rs Δ am F' σ H' c rr v → Q v H') → r vx H Q
def eUn (o : UD) (fa : WE) : WE := fun c P X => fa c (fun r1 c1 => asD r1 fun x => o x fun r => P r c1) X
theorem de_un {op : UnaryOp} {o : UD} (ho : UnD X Δ (unaryOp op) o) (ha : PE X a (tE Δ fa)) : PE X (.UnaryOp op a pos) (tE Δ (eUn o fa)) := by
  obtain ⟨r, h1, h2⟩ := ho.ex
  refine (pe_un h1 ha).imp fun σ H Q ⟨am, F, c, P, XX, ok, hf, kq, kx⟩ => ?_
  refine ⟨am, F, c, _, XX, ok, hf, fun r1 c1 F1 v1 H1 p1 l1 o1 s1 => ?_, kx⟩
  obtain ⟨x, F1', hx, l1', o1', rp1⟩ := s1.data o1 p1
  exact h2 am F1' σ H1 c1 v1 x _ Q o1' rp1 hx fun rr F' v H' prr l o s => kq rr c1 F' v H' prr ((l1.trans l1').trans l) o s
/-! the results that are plain -/
theorem Rs.of {am : Addr} {F : Hp} {σ : St} {H : Hp} {c : Cf} {v : V} {x : Px} (r : Rp F v x) : Rs Δ am F σ H c (.d x) v := ⟨r, fun z => z.elim⟩
/-- a new own list -/
theorem Rs.fresh {am : Addr} {F : Hp} {σ : St} {H : Hp} {c : Cf} (k : Ok Δ am F σ H c) {p : Addr} (hp : H p = none) {vs : List V} {xs : List Px} (r : RpA F vs xs) :
    Ok Δ am F σ (upd H p (.lst vs)) c ∧ Rs Δ am F σ (upd H p (.lst vs)) c (.own xs) (.ref p) := by
  refine ⟨k.alloc hp _, ⟨p, vs, rfl, upd_same, k.fh.nn hp, k.new hp, r⟩, fun _ i r' e mu z => ?_⟩
  obtain ⟨v, h1, s⟩ := k.sv i _ e
  obtain ⟨a, o, e1, e2, _⟩ := s.at mu
  subst e1
  rw [z] at h1
  cases h1
  rw [hp] at e2; cases e2
/-- a new tuple -/
theorem Ok.tupN {am : Addr} {F : Hp} {σ : St} {H : Hp} {c : Cf} (k : Ok Δ am F σ H c) {p : Addr} (hp : H p = none) {vs : List V} {xs : List Px} (r : RpA F vs xs) :
    Ok Δ am (upd F p (.tup vs)) σ (upd H p (.tup vs)) c ∧ Le F (upd F p (.tup vs)) ∧ Rp (upd F p (.tup vs)) (.ref p) (.tuple xs) := by
  have hf := k.fh.nn hp
  refine ⟨(k.alloc hp (.tup vs)).stay (k.tb.2.1.upd fun ps z => nomatch z) (Le.up hf) k.fh.up2 (fun b e => ?_) (fun n e => ?_) (fun i ys b e1 mu e2 => ?_), Le.up hf, .tup (.inl upd_same) (r.mono (Le.up hf))⟩
  · by_cases q : b = p
    · subst q; exact .inr (k.new hp)
    · rw [upd_ne q] at e; exact .inl e
  · rw [upd_ne (k.ngen e hp).symm]
    exact (k.gn n e).2.1
  · obtain ⟨v, h1, s⟩ := k.sv i _ e1
    obtain ⟨a, ws, e3, e4, e5, _⟩ := s.at mu
    subst e3
    rw [e2] at h1
    cases h1
    rw [upd_ne (ne_of_none e4 hp)]
    exact e5
/-! ints -/
def iD (f : Int → Int → Px) (C : Int → Int → Prop) : OD := fun x y P => match x, y with
  | .int i, .int j => C i j ∧ P (.d (f i j))
  | _, _ => False
theorem op_iD {f : Value → Value → Sem Value} {C C' : Int → Int → Prop} {g : Int → Int → V} {g' : Int → Int → Px} (h : OpR X f (rI C' g)) (hC : ∀ i j, C i j → C' i j) (hg : ∀ F i j, C i j → Rp F (g i j) (g' i j)) : OpD X Δ f (iD g' C) :=
  ⟨_, h, fun am F σ H c vx vy x y P Q ok rx ry ho k => by
    unfold iD at ho
    split at ho
    · cases rx; cases ry
      exact ⟨_, _, rfl, rfl, hC _ _ ho.1, k _ F _ H ho.2 (Le.refl F) ok (.of (hg F _ _ ho.1))⟩
    · exact ho.elim⟩
theorem op_iD0 {f : Value → Value → Sem Value} {g : Int → Int → V} {g' : Int → Int → Px} (h : OpR X f (rI0 g)) (hg : ∀ F i j, Rp F (g i j) (g' i j)) : OpD X Δ f (iD g' fun _ _ => True) :=
  ⟨_, h, fun am F σ H c vx vy x y P Q ok rx ry ho k => by
    unfold iD at ho
    split at ho
    · cases rx; cases ry
      exact ⟨_, _, rfl, rfl, k _ F _ H ho.2 (Le.refl F) ok (.of (hg F _ _))⟩
    · exact ho.elim⟩
def CMul2 (i j : Int) : Prop := (-(2 ^ 64) < i ∧ i < 2 ^ 64) ∨ (-(2 ^ 64) < j ∧ j < 2 ^ 64) ∨ ∃ a b : Nat, i.natAbs < 2 ^ a ∧ j.natAbs < 2 ^ b ∧ 0 < a ∧ 0 < b ∧ a + b ≤ 1000000
theorem do_sub : OpD X Δ (binaryOp .Sub) (iD (fun i j => .int (i - j)) fun _ _ => True) := op_iD0 op_sub fun _ _ _ => .int _
theorem opr_mono {f : Value → Value → Sem Value} {r r' : R2} (h : OpR X f r) (w : ∀ x y H Q, r' x y H Q → r x y H Q) : OpR X f r' := fun pins s σ H x y v u Q I rx ry q => h pins s σ H x y v u Q I rx ry (w _ _ _ _ q)
theorem do_mul : OpD X Δ (binaryOp .Mult) (iD (fun i j => .int (i * j)) CMul2) :=
  op_iD (C' := fun i j => CMul i j ∨ CMulW i j) (opr_mono (OpR.or op_mul op_mulW) fun x y H Q ⟨i, j, h1, h2, h3, h4⟩ => h3.elim (fun z => .inl ⟨i, j, h1, h2, z, h4⟩) fun z => .inr ⟨i, j, h1, h2, z, h4⟩)
    (fun i j h => by
      rcases h with h | h | ⟨a, b, h1, h2, h3, h4, h5⟩
      · exact .inl (.inl h)
      · exact .inl (.inr h)
      · exact .inr (wide_mul h1 h2 h3 h4 h5)) fun _ _ _ _ => .int _
def CDiv2 (i j : Int) : Prop := (j ≠ 0 ∧ j.natAbs < 1073741824) ∨ (0 < j ∧ ∃ b : Nat, j.natAbs < 2 ^ b ∧ 0 < b ∧ b ≤ 9000)
theorem do_fdiv : OpD X Δ (binaryOp .FloorDiv) (iD (fun i j => .int (i.fdiv j)) CDiv2) :=
  op_iD (C' := fun i j => CDivN i j ∨ CDivW i j) (opr_mono (OpR.or op_fdivN op_fdivW) fun x y H Q ⟨i, j, h1, h2, h3, h4⟩ => h3.elim (fun z => .inl ⟨i, j, h1, h2, z, h4⟩)
      fun z => .inr ⟨i, j, h1, h2, z, by have hp : (0 : Int) < j := z.1; show Q (V.int (i / j)) H; rw [← Int.fdiv_eq_ediv_of_nonneg i (by omega)]; exact h4⟩)
    (fun i j h => by
      rcases h with h | ⟨h, b, h1, h2, h3⟩
      · exact .inl h
      · exact .inr (wide_div h h1 h2 h3)) fun _ _ _ _ => .int _
theorem do_mod : OpD X Δ (binaryOp .Mod) (iD (fun i j => .int (i.fmod j)) fun _ j => j ≠ 0) := op_iD op_modN (fun _ _ h => h) fun _ _ _ _ => .int _
def eqD (neg : Bool) : OD := fun x y P => SeqAt.shaped x = true ∧ SeqAt.shaped y = true ∧ P (.d (.bool (if neg then !PyData.eqv x y else PyData.eqv x y)))
def negD : UD := fun x P => match x with
  | .int i => P (.d (.int (-i)))
  | _ => False
theorem do_neg : UnD X Δ (unaryOp .USub) negD :=
  ⟨_, un_neg, fun am F σ H c vx x P Q ok rx ho k => by
    unfold negD at ho
    split at ho
    · cases rx
      exact ⟨_, rfl, k _ F _ H ho (Le.refl F) ok (.of (.int _))⟩
    · exact ho.elim⟩
/-- +: of ints, lists, tuples -/
def addD : OD := fun x y P => match x, y with
  | .int i, .int j => P (.d (.int (i + j)))
  | .list xs, .list ys => xs.length + ys.length ≤ 1000000 ∧ P (.own (xs ++ ys))
  | .tuple xs, .tuple ys => xs.length + ys.length ≤ 1000000 ∧ P (.d (.tuple (xs ++ ys)))
  | _, _ => False
theorem line_of {n : Nat} (h : n ≤ 1000000) : n ≤ sizeLine := by rw [sizeLine_eq]; omega
theorem do_add (hK : Δ.K = X.K) (hk : X.K = TabF.K := by first | rfl | assumption) : OpD X Δ (binaryOp .Add) addD :=
  ⟨_, OpR.or (OpR.or op_add op_cat) op_catA, fun am F σ H c vx vy x y P Q ok rx ry ho k => by
    unfold addD at ho
    split at ho
    · cases rx; cases ry
      exact .inl (.inl ⟨_, _, rfl, rfl, k _ F _ H ho (Le.refl F) ok (.of (.int _))⟩)
    · cases rx with
      | lst e1 r1 =>
        cases ry with
        | lst e2 r2 =>
          refine .inl (.inr ⟨_, _, _, _, rfl, rfl, ok.fh _ _ e1, ok.fh _ _ e2, line_of (by rw [r1.length, r2.length]; exact ho.1), fun p hp => ?_⟩)
          obtain ⟨o', rs⟩ := Rs.fresh ok hp (r1.append r2)
          exact k _ F _ _ ho.2 (Le.refl F) o' rs
    · rename_i xs ys
      cases rx with
      | tup e1 r1 =>
        cases ry with
        | tup e2 r2 =>
          refine .inr ⟨_, _, _, _, rfl, rfl, e1.sq hk ok.fh, e2.sq hk ok.fh, line_of (by rw [r1.length, r2.length]; exact ho.1), fun z => ?_, fun _ z => ?_, fun _ _ p hp => ?_⟩
          · have := r1.length
            rw [z] at this
            have e0 : xs = [] := List.length_eq_zero_iff.mp this.symm
            subst e0
            exact k _ F _ H ho.2 (Le.refl F) ok (.of (.tup e2 r2))
          · have := r2.length
            rw [z] at this
            have e0 : ys = [] := List.length_eq_zero_iff.mp this.symm
            subst e0
            have h3 := ho.2
            rw [List.append_nil] at h3
            exact k _ F _ H h3 (Le.refl F) ok (.of (.tup e1 r1))
          · obtain ⟨o', l, rp⟩ := ok.tupN hp (r1.append r2)
            exact k _ _ _ _ ho.2 l o' (.of rp)
    · exact ho.elim⟩
end
end Dl
set_option Elab.async false
set_option maxRecDepth 100000
set_option linter.all false
set_option autoImplicit false
namespace Dl
open PySem L2
variable [TabF]
section
variable {X : Cx} {Δ : Dx} {a b e : Expr} {fa fb fc : WE} {pos : Pos}
/-! ### a name's slot, looked at and not given away -/
def slotD (c : Cf) (i : Nat) (k : Px → Prop) : Prop := match c.env[i]? with
  | some (some (.d x)) => k x
  | some (some (.own xs)) => k (.list xs)
  | _ => False
/-- what a slot shows: data over a heap part below H, whose items are data over F -/
theorem Ok.look {am : Addr} {F : Hp} {σ : St} {H : Hp} {c : Cf} (k : Ok Δ am F σ H c) {i : Nat} {q : Px → Prop} (h : slotD c i q) :
    ∃ x v G, σ[i]? = some (some v) ∧ q x ∧ Le F G ∧ Le G H ∧ Rp G v x ∧
      (∀ xs, x = .list xs → ∃ a vs, v = .ref a ∧ H a = some (.lst vs) ∧ RpA F vs xs) ∧ (∀ xs, x = .tuple xs → ∃ a vs, v = .ref a ∧ TupF F a vs ∧ RpA F vs xs) := by
  unfold slotD at h
  split at h
  · rename_i x e
    obtain ⟨v, h1, h2⟩ := k.sv i _ e
    refine ⟨x, v, F, h1, h, Le.refl F, k.fh, h2, ?_, ?_⟩
    · rintro xs rfl
      cases h2 with
      | lst e1 r1 => exact ⟨_, _, rfl, k.fh _ _ e1, r1⟩
    · rintro xs rfl
      cases h2 with
      | tup e1 r1 => exact ⟨_, _, rfl, e1, r1⟩
  · rename_i xs e
    obtain ⟨v, h1, a, vs, e1, e2, e3, e4, e5⟩ := k.sv i _ e
    subst e1
    refine ⟨_, _, upd F a (.lst vs), h1, h, Le.up e3, ?_, .lst upd_same (e5.mono (Le.up e3)), ?_, fun ys z => nomatch z⟩
    · intro b o q
      by_cases z : b = a
      · subst z; rw [upd_same] at q; rw [e2]; exact q
      · rw [upd_ne z] at q; exact k.fh b o q
    · intro ys z
      cases z
      exact ⟨_, _, rfl, e2, e5⟩
  · exact h.elim
/-- an operation that gives a scalar and looks only at what stands -/
structure ScD (X : Cx) (f : Value → Value → Sem Value) (o : OD) : Prop where
  ex : ∃ r : R2, OpR X f r ∧ ∀ (G H : Hp) (vx vy : V) (x y : Px) (P : Rv → Prop) (Q : VK), Le G H → Rp G vx x → Rp G vy y → o x y P →
    (∀ z v, P (.d z) → (∀ F, Rp F v z) → Q v H) → r vx vy H Q
def hasD (c : Cf) (i : Nat) : Prop := slotD c i fun _ => True
def eScL (i : Nat) (o : OD) (fb : WE) : WE := fun c P X => hasD c i ∧ fb c (fun r2 c2 => asD r2 fun y => slotD c2 i fun x => o x y fun r => P r c2) X
def eScR (i : Nat) (o : OD) (fa : WE) : WE := fun c P X => fa c (fun r1 c1 => asD r1 fun x => slotD c1 i fun y => o x y fun r => P r c1) X
def eSc (o : OD) (fa fb : WE) : WE := fun c P X => fa c (fun r1 c1 => asD r1 fun x => fb c1 (fun r2 c2 => asD r2 fun y => o x y fun r => P r c2) X) X
theorem scL_of {r : R2} {o : OD} {i : Nat} (h2 : ∀ (G H : Hp) (vx vy : V) (x y : Px) (P : Rv → Prop) (Q : VK), Le G H → Rp G vx x → Rp G vy y → o x y P →
    (∀ z v, P (.d z) → (∀ F, Rp F v z) → Q v H) → r vx vy H Q) (σ : St) (H : Hp) (Q : VK) (h : tE Δ (eScL i o fb) σ H Q) : tOp r (tVar i) (tE Δ fb) σ H Q := by
  obtain ⟨am, F, c, P, XX, ok, ⟨hd, hf⟩, kq, kx⟩ := h
  obtain ⟨_, v, _, hv, _⟩ := ok.look hd
  refine ⟨v, hv, am, F, c, _, XX, ok, hf, fun r2 c2 F2 v2 H2 p2 l2 o2 s2 => ?_, kx⟩
  obtain ⟨y, F2', hy, l2', o2', rp2⟩ := s2.data o2 p2
  obtain ⟨x, w, G, e1, hx, l3, l4, rpx, _⟩ := o2'.look hy
  rw [hv] at e1
  cases e1
  exact h2 G H2 v v2 x y _ Q l4 rpx (rp2.mono l3) hx fun z u pz rz => kq _ c2 F2' u H2 pz (l2.trans l2') o2' (.of (rz _))
theorem scR_of {r : R2} {o : OD} {i : Nat} (h2 : ∀ (G H : Hp) (vx vy : V) (x y : Px) (P : Rv → Prop) (Q : VK), Le G H → Rp G vx x → Rp G vy y → o x y P →
    (∀ z v, P (.d z) → (∀ F, Rp F v z) → Q v H) → r vx vy H Q) (σ : St) (H : Hp) (Q : VK) (h : tE Δ (eScR i o fa) σ H Q) : tOp r (tE Δ fa) (tVar i) σ H Q := by
  obtain ⟨am, F, c, P, XX, ok, hf, kq, kx⟩ := h
  refine ⟨am, F, c, _, XX, ok, hf, fun r1 c1 F1 v1 H1 p1 l1 o1 s1 => ?_, kx⟩
  obtain ⟨x, F1', hx, l1', o1', rp1⟩ := s1.data o1 p1
  obtain ⟨y, w, G, e1, hy, l3, l4, rpy, _⟩ := o1'.look hx
  exact ⟨w, e1, h2 G H1 v1 w x y _ Q l4 (rp1.mono l3) rpy hy fun z u pz rz => kq _ c1 F1' u H1 pz (l1.trans l1') o1' (.of (rz _))⟩
theorem sc_of {r : R2} {o : OD} (h2 : ∀ (G H : Hp) (vx vy : V) (x y : Px) (P : Rv → Prop) (Q : VK), Le G H → Rp G vx x → Rp G vy y → o x y P →
    (∀ z v, P (.d z) → (∀ F, Rp F v z) → Q v H) → r vx vy H Q) (σ : St) (H : Hp) (Q : VK) (h : tE Δ (eSc o fa fb) σ H Q) : tOp r (tE Δ fa) (tE Δ fb) σ H Q :=
  two_of (o := o) (fun am F σ H c vx vy x y P Q ok rx ry ho k => h2 F H vx vy x y P Q ok.fh rx ry ho fun z v pz rz => k _ F v H pz (Le.refl F) ok (.of (rz F))) σ H Q h
section
variable {op : CmpOp} {o : OD}
theorem de_cmp' (ho : ScD X (compareOp op) o) (ha : PE X a (tE Δ fa)) (hb : PE X b (tE Δ fb)) (hm : behindInMarks op b = false) : PE X (.Compare a [op] [b] pos) (tE Δ (eSc o fa fb)) := by
  obtain ⟨r, h1, h2⟩ := ho.ex
  exact (pe_cmpR h1 ha hb hm).imp fun σ H Q h => sc_of h2 σ H Q h
/-- the same as tests -/
def wB (f : WE) : WT := fun c P X => f c (fun r c1 => match r with
  | .d (.bool b) => P b c1
  | _ => False) X
theorem tB_of (t : TE) (f : WE) (w : ∀ σ H Q, tE Δ f σ H Q → t σ H Q) (σ : St) (H : Hp) (Q : Bool → Hp → Prop) (h : tT Δ (wB f) σ H Q) : tTest t σ H Q := by
  obtain ⟨am, F, c, P, XX, ok, hf, kq, kx⟩ := h
  refine w σ H _ ⟨am, F, c, _, XX, ok, hf, fun r c' F' v H' p l o s => ?_, kx⟩
  dsimp only at p
  split at p
  · rename_i b
    have h1 := s.1
    cases h1
    exact ⟨b, rfl, kq b c' F' H' p l o⟩
  · exact p.elim
theorem dt_cmpNL (i : Nat) {x : Str} {p : Pos} (ho : ScD X (compareOp op) o) (hb : PE X b (tE Δ fb)) (hm : behindInMarks op b = false) (hN : X.N[i]? = some x := by rfl)
    (hv : Vis X.env.scope x := by first | exact Or.inl rfl | exact Or.inr (Or.inl rfl) | exact Or.inr (Or.inr rfl)) (hd : (x == ("__debug__" : Str)) = false := by decide)
    (hcd : (x == ("__classdict__" : Str)) = false := by decide) : PT X (.Compare (.Name x p) [op] [b] pos) (tT Δ (wB (eScL i o fb))) := by
  obtain ⟨r, h1, h2⟩ := ho.ex
  exact (pt_cmpR h1 (pv i hN hv hd hcd) hb hm).imp fun σ H Q h => tB_of _ _ (fun σ H Q h => scL_of h2 σ H Q h) σ H Q h
theorem dt_cmpNR (i : Nat) {x : Str} {p : Pos} (ho : ScD X (compareOp op) o) (ha : PE X a (tE Δ fa)) (hm : behindInMarks op (.Name x p) = false) (hN : X.N[i]? = some x := by rfl)
    (hv : Vis X.env.scope x := by first | exact Or.inl rfl | exact Or.inr (Or.inl rfl) | exact Or.inr (Or.inr rfl)) (hd : (x == ("__debug__" : Str)) = false := by decide)
    (hcd : (x == ("__classdict__" : Str)) = false := by decide) : PT X (.Compare a [op] [.Name x p] pos) (tT Δ (wB (eScR i o fa))) := by
  obtain ⟨r, h1, h2⟩ := ho.ex
  exact (pt_cmpR h1 ha (pv i hN hv hd hcd) hm).imp fun σ H Q h => tB_of _ _ (fun σ H Q h => scR_of h2 σ H Q h) σ H Q h
theorem dt_cmp (ho : ScD X (compareOp op) o) (ha : PE X a (tE Δ fa)) (hb : PE X b (tE Δ fb)) (hm : behindInMarks op b = false) : PT X (.Compare a [op] [b] pos) (tT Δ (wB (eSc o fa fb))) := by
  obtain ⟨r, h1, h2⟩ := ho.ex
  exact (pt_cmpR h1 ha hb hm).imp fun σ H Q h => tB_of _ _ (fun σ H Q h => sc_of h2 σ H Q h) σ H Q h
variable {op' : CmpOp} {o' : OD}
def eCh (o o' : OD) (fa fb fc : WE) : WE := fun c P X => fa c (fun r1 c1 => asD r1 fun x => fb c1 (fun r2 c2 => asD r2 fun y => o x y fun r => match r with
  | .d (.bool true) => fc c2 (fun r3 c3 => asD r3 fun z => o' y z fun r => P r c3) X
  | .d (.bool false) => P (.d (.bool false)) c2
  | _ => False) X) X
end
/-! the comparisons -/
theorem sc_int {f : Value → Value → Sem Value} {g : Int → Int → Bool} (h : OpR X f (rI0 fun i j => .bl (g i j))) : ScD X f (iD (fun i j => .bool (g i j)) fun _ _ => True) :=
  ⟨_, h, fun G H vx vy x y P Q l rx ry ho k => by
    unfold iD at ho
    split at ho
    · cases rx; cases ry
      exact ⟨_, _, rfl, rfl, k _ _ ho.2 fun F => .bl _⟩
    · exact ho.elim⟩
def ltD : OD := iD (fun i j => .bool (decide (i < j))) fun _ _ => True
def leD : OD := iD (fun i j => .bool (decide (i ≤ j))) fun _ _ => True
def gtD : OD := iD (fun i j => .bool (decide (j < i))) fun _ _ => True
def geD : OD := iD (fun i j => .bool (decide (j ≤ i))) fun _ _ => True
theorem sc_lt : ScD X (compareOp .Lt) ltD := sc_int op_lt
theorem sc_gt : ScD X (compareOp .Gt) gtD := sc_int op_gt
theorem sc_ge : ScD X (compareOp .GtE) geD := sc_int op_ge
theorem sc_eq (hu : X.A.units + 64 < cLine) (hk : X.K = TabF.K := by first | rfl | assumption) : ScD X (compareOp .Eq) (eqD false) :=
  ⟨_, op_eqD hu, fun G H vx vy x y P Q l rx ry ho k => ⟨x, y, rx.dp hk l (sh_nd ho.1), ry.dp hk l (sh_nd ho.2.1), ho.1, ho.2.1, k _ _ ho.2.2 fun F => .bl _⟩⟩
theorem sc_ne (hu : X.A.units + 64 < cLine) (hk : X.K = TabF.K := by first | rfl | assumption) : ScD X (compareOp .NotEq) (eqD true) :=
  ⟨_, op_neD hu, fun G H vx vy x y P Q l rx ry ho k => ⟨x, y, rx.dp hk l (sh_nd ho.1), ry.dp hk l (sh_nd ho.2.1), ho.1, ho.2.1, k _ _ ho.2.2 fun F => .bl _⟩⟩
/-- in, over flat things: ints, texts, None, bools -/
def flatD : Px → Bool
  | .none | .bool _ | .int _ | .str _ => true
  | _ => false
def inD (neg : Bool) : OD := fun x y P => match y with
  | .list ys => flatD x = true ∧ ys.all flatD = true ∧ P (.d (.bool (if neg then !ys.any fun z => PyData.eqv z x else ys.any fun z => PyData.eqv z x)))
  | .tuple ys => flatD x = true ∧ ys.all flatD = true ∧ P (.d (.bool (if neg then !ys.any fun z => PyData.eqv z x else ys.any fun z => PyData.eqv z x)))
  | _ => False
theorem flat_rp {F : Hp} {v : V} {x : Px} (r : Rp F v x) (h : flatD x = true) : flatV v = true := by
  cases r <;> first | rfl | exact absurd h (by simp [flatD])
theorem flat_rpa {F : Hp} : ∀ {vs : List V} {xs : List Px}, RpA F vs xs → xs.all flatD = true → vs.all flatV = true
  | _, _, .nil, _ => rfl
  | _, _, .cons a b, h => by
    simp only [List.all_cons, Bool.and_eq_true] at h ⊢
    exact ⟨flat_rp a h.1, flat_rpa b h.2⟩
theorem eqv_rp {F G : Hp} {v w : V} {x y : Px} (r : Rp F v x) (q : Rp G w y) (hx : flatD x = true) (hy : flatD y = true) : eqV v w = PyData.eqv x y := by
  cases r <;> cases q <;> first | rfl | (exact absurd hx (by simp [flatD])) | (exact absurd hy (by simp [flatD])) | (simp [eqV, PyData.eqv]; done) | (simp [eqV, PyData.eqv, b2i]; done) | skip
theorem any_rp {F G : Hp} {v : V} {x : Px} (r : Rp G v x) (hx : flatD x = true) : ∀ {vs : List V} {xs : List Px}, RpA F vs xs → xs.all flatD = true → (vs.any fun w => eqV w v) = xs.any fun z => PyData.eqv z x
  | _, _, .nil, _ => rfl
  | _, _, .cons a b, h => by
    simp only [List.all_cons, Bool.and_eq_true] at h
    simp only [List.any_cons, eqv_rp a r h.1 hx, any_rp r hx b h.2]
theorem sc_inG {f : Value → Value → Sem Value} {neg : Bool} (h : OpR X f (rIn X.K neg)) (hk : X.K = TabF.K := by first | rfl | assumption) : ScD X f (inD neg) :=
  ⟨_, h, fun G H vx vy x y P Q l rx ry ho k => by
    unfold inD at ho
    split at ho
    · cases ry with
      | lst e r1 =>
        refine ⟨_, _, rfl, .inl (SqL.of (l _ _ e)), flat_rp rx ho.1, flat_rpa r1 ho.2.1, ?_⟩
        unfold inV
        rw [any_rp rx ho.1 r1 ho.2.1]
        exact k _ _ ho.2.2 fun F => .bl _
    · cases ry with
      | tup e r1 =>
        refine ⟨_, _, rfl, .inr (e.sq hk l), flat_rp rx ho.1, flat_rpa r1 ho.2.1, ?_⟩
        unfold inV
        rw [any_rp rx ho.1 r1 ho.2.1]
        exact k _ _ ho.2.2 fun F => .bl _
    · exact ho.elim⟩
theorem sc_in (hk : X.K = TabF.K := by first | rfl | assumption) : ScD X (compareOp .In) (inD false) := sc_inG op_in_seq
theorem sc_notin (hk : X.K = TabF.K := by first | rfl | assumption) : ScD X (compareOp .NotIn) (inD true) := sc_inG op_notIn_seq
/-- is None -/
def isND (neg : Bool) : OD := fun x y P => match y with
  | .none => P (.d (.bool (match x with | .none => !neg | _ => neg)))
  | _ => False
theorem sc_notN : ScD X (compareOp .IsNot) (isND true) :=
  ⟨_, op_notN, fun G H vx vy x y P Q l rx ry ho k => by
    unfold isND at ho
    split at ho
    · cases ry
      refine ⟨rfl, k _ _ ho fun F => ?_⟩
      cases rx <;> exact .bl _
    · exact ho.elim⟩
/-! ### truth -/
def truD (x : Px) (k : Bool → Prop) : Prop := match x with
  | .none => k false
  | .bool b => k b
  | .int i => k (i != 0)
  | .list xs => k (!xs.isEmpty)
  | .tuple xs => k (!xs.isEmpty)
  | _ => False
theorem RpA.emp {F : Hp} {vs : List V} {xs : List Px} (r : RpA F vs xs) : vs.isEmpty = xs.isEmpty := by cases r <;> rfl
theorem tru_of {K : PySem.W.Frag} {G H : Hp} {v : V} {x : Px} {q : Bool → Prop} (l : Le G H) (r : Rp G v x) (h : truD x q) (hk : K = TabF.K := by first | rfl | assumption) : ∃ k, TruV K v H k ∧ q k := by
  cases r with
  | non => exact ⟨false, rfl, h⟩
  | bl b => exact ⟨b, rfl, h⟩
  | int i => exact ⟨_, rfl, h⟩
  | str x => exact (show False from h).elim
  | lst e r1 => exact ⟨_, .inl ⟨_, SqL.of (l _ _ e), rfl⟩, by rw [r1.emp]; exact h⟩
  | tup e r1 => exact ⟨_, .inr (.inl ⟨_, e.sq hk l, rfl⟩), by rw [r1.emp]; exact h⟩
  | fn e => exact (show False from h).elim
  | dct _ _ => exact (show False from h).elim
  | dci _ _ => exact (show False from h).elim
def wTru (fa : WE) : WT := fun c P X => fa c (fun r c1 => asD r fun x => truD x fun b => P b c1) X
def wTruN (i : Nat) : WT := fun c P _ => slotD c i fun x => truD x fun b => P b c
theorem dt_tru (ha : PE X a (tE Δ fa)) (he : ∀ whole, isTrue a X.env whole = (do let v ← whole; standAt a.pos; holding [v] (truthy v)) := by intro _; rfl) (hk : X.K = TabF.K := by first | rfl | assumption) : PT X a (tT Δ (wTru fa)) := by
  refine (pt_truth ha he).imp fun σ H Q ⟨am, F, c, P, XX, ok, hf, kq, kx⟩ => ?_
  refine ⟨am, F, c, _, XX, ok, hf, fun r1 c1 F1 v1 H1 p1 l1 o1 s1 => ?_, kx⟩
  obtain ⟨x, F1', hx, l1', o1', rp1⟩ := s1.data o1 p1
  obtain ⟨k, h1, h2⟩ := tru_of (K := X.K) o1'.fh rp1 hx
  exact ⟨k, h1, kq k c1 F1' H1 h2 (l1.trans l1') o1'⟩
theorem dt_truN (i : Nat) {x : Str} {p : Pos} (hN : X.N[i]? = some x := by rfl)
    (hv : Vis X.env.scope x := by first | exact Or.inl rfl | exact Or.inr (Or.inl rfl) | exact Or.inr (Or.inr rfl)) (hd : (x == ("__debug__" : Str)) = false := by decide)
    (hcd : (x == ("__classdict__" : Str)) = false := by decide) (hk : X.K = TabF.K := by first | rfl | assumption) : PT X (.Name x p) (tT Δ (wTruN i)) := by
  refine (pt_truth (pv i hN hv hd hcd) (by intro _; rfl)).imp fun σ H Q ⟨am, F, c, P, XX, ok, hf, kq, kx⟩ => ?_
  obtain ⟨x, v, G, e1, hx, l3, l4, rpx, _⟩ := ok.look hf
  obtain ⟨k, h1, h2⟩ := tru_of (K := X.K) l4 rpx hx
  exact ⟨v, e1, k, h1, kq k c F H h2 (Le.refl F) ok⟩
section
variable {fA fB : WT} {rest : List Expr}
def wAnd (t u : WT) : WT := fun c P X => t c (fun b c1 => if b = true then u c1 P X else P false c1) X
def wOr (t u : WT) : WT := fun c P X => t c (fun b c1 => if b = true then P true c1 else u c1 P X) X
def wNot (t : WT) : WT := fun c P X => t c (fun b c1 => P (!b) c1) X
theorem _root_.L2.PW.imp {t t' : TT} (h : PW X a t) (w : ∀ σ H Q, t' σ H Q → t σ H Q) : PW X a t' :=
  ⟨fun wh pins s σ H Q I q => h.run wh pins s σ H Q I (w σ H Q q)⟩
theorem dw_and1 (ha : PT X a (tT Δ fA)) : PW X (.BoolOp .And [a] pos) (tT Δ fA) := pw_and1 ha
theorem dw_or1 (ha : PT X a (tT Δ fA)) : PW X (.BoolOp .Or [a] pos) (tT Δ fA) := pw_or1 ha
theorem dw_and (ha : PT X a (tT Δ fA)) (hb : PW X (.BoolOp .And (b :: rest) pos) (tT Δ fB)) : PW X (.BoolOp .And (a :: b :: rest) pos) (tT Δ (wAnd fA fB)) := by
  refine (pw_and ha hb).imp fun σ H Q ⟨am, F, c, P, XX, ok, hf, kq, kx⟩ => ?_
  refine ⟨am, F, c, _, XX, ok, hf, fun k c1 F1 H1 p1 l1 o1 => ?_, kx⟩
  cases k with
  | true =>
    rw [if_pos rfl]
    rw [if_pos rfl] at p1
    exact ⟨am, F1, c1, _, XX, o1, p1, fun k' c2 F2 H2 p2 l2 o2 => kq k' c2 F2 H2 p2 (l1.trans l2) o2, kx.le l1⟩
  | false =>
    rw [if_neg Bool.false_ne_true]
    rw [if_neg Bool.false_ne_true] at p1
    exact kq false c1 F1 H1 p1 l1 o1
theorem dw_or (ha : PT X a (tT Δ fA)) (hb : PW X (.BoolOp .Or (b :: rest) pos) (tT Δ fB)) : PW X (.BoolOp .Or (a :: b :: rest) pos) (tT Δ (wOr fA fB)) := by
  refine (pw_or ha hb).imp fun σ H Q ⟨am, F, c, P, XX, ok, hf, kq, kx⟩ => ?_
  refine ⟨am, F, c, _, XX, ok, hf, fun k c1 F1 H1 p1 l1 o1 => ?_, kx⟩
  cases k with
  | false =>
    rw [if_neg Bool.false_ne_true]
    rw [if_neg Bool.false_ne_true] at p1
    exact ⟨am, F1, c1, _, XX, o1, p1, fun k' c2 F2 H2 p2 l2 o2 => kq k' c2 F2 H2 p2 (l1.trans l2) o2, kx.le l1⟩
  | true =>
    rw [if_pos rfl]
    rw [if_pos rfl] at p1
    exact kq true c1 F1 H1 p1 l1 o1
theorem dt_not (ha : PT X a (tT Δ fA)) : PT X (.UnaryOp .Not a pos) (tT Δ (wNot fA)) := by
  refine (pt_not ha).imp fun σ H Q ⟨am, F, c, P, XX, ok, hf, kq, kx⟩ => ?_
  exact ⟨am, F, c, _, XX, ok, hf, fun k c1 F1 H1 p1 l1 o1 => kq _ c1 F1 H1 p1 l1 o1, kx⟩
end
/-! and, or, not as values: all but the last are bools -/
section
variable {rest : List Expr}
def asB (r : Rv) (k : Bool → Prop) : Prop := match r with
  | .d (.bool b) => k b
  | _ => False
def eAnd (t u : WE) : WE := fun c P X => t c (fun r c1 => asB r fun b => if b = true then u c1 P X else P (.d (.bool false)) c1) X
def eOr (t u : WE) : WE := fun c P X => t c (fun r c1 => asB r fun b => if b = true then P (.d (.bool true)) c1 else u c1 P X) X
def eNot (t : WE) : WE := fun c P X => t c (fun r c1 => asB r fun b => P (.d (.bool (!b))) c1) X
def eIf (t : WT) (fa fb : WE) : WE := fun c P X => t c (fun b c1 => if b = true then fa c1 P X else fb c1 P X) X
theorem de_if {cnd : Expr} {fA : WT} (hc : PT X cnd (tT Δ fA)) (ha : PE X a (tE Δ fa)) (hb : PE X b (tE Δ fb)) : PE X (.IfExp cnd a b pos) (tE Δ (eIf fA fa fb)) := by
  refine (pe_ifExp hc ha hb).imp fun σ H Q ⟨am, F, c, P, XX, ok, hf, kq, kx⟩ => ?_
  refine ⟨am, F, c, _, XX, ok, hf, fun k c1 F1 H1 p1 l1 o1 => ?_, kx⟩
  cases k with
  | true =>
    rw [if_pos rfl]
    rw [if_pos rfl] at p1
    exact ⟨am, F1, c1, _, XX, o1, p1, fun r2 c2 F2 v2 H2 p2 l2 o2 s2 => kq r2 c2 F2 v2 H2 p2 (l1.trans l2) o2 s2, kx.le l1⟩
  | false =>
    rw [if_neg Bool.false_ne_true]
    rw [if_neg Bool.false_ne_true] at p1
    exact ⟨am, F1, c1, _, XX, o1, p1, fun r2 c2 F2 v2 H2 p2 l2 o2 s2 => kq r2 c2 F2 v2 H2 p2 (l1.trans l2) o2 s2, kx.le l1⟩
end
end
end Dl
set_option Elab.async false
set_option maxRecDepth 100000
set_option linter.all false
set_option autoImplicit false
namespace Dl
open PySem L2
variable [TabF]
section
variable {X : Cx} {Δ : Dx} {a b e : Expr} {fa fb fc : WE} {pos : Pos} {es : List Expr} {fr : WA}
/-! ### arguments -/
def argR (r : Rv) (k : Rv → Prop) : Prop := match r with
  | .d x => k (.d x)
  | .own xs => k (.d (.list xs))
  | .gen => k .gen
  | .scr ns => k (.scr ns)
  | .dic _ => False
def aNil : WA := fun c P _ => P [] c
def aCons (f : WE) (g : WA) : WA := fun c P X => f c (fun r c1 => argR r fun x => g c1 (fun rs c2 => P (x :: rs) c2) X) X
theorem da_nil : PA X [] (tA Δ aNil) := pa_nil.imp fun σ H Q ⟨am, F, c, P, XX, ok, hf, kq, kx⟩ => kq _ c F _ H hf (Le.refl F) ok .nil
theorem Rs.arg {am : Addr} {F : Hp} {σ : St} {H : Hp} {c : Cf} {r : Rv} {v : V} {k : Rv → Prop} (o : Ok Δ am F σ H c) (h : Rs Δ am F σ H c r v) (q : argR r k) :
    ∃ x F', k x ∧ Le F F' ∧ Ok Δ am F' σ H c ∧ ∀ G rs vs, Le F' G → Rss Δ am G rs vs → Rss Δ am G (x :: rs) (v :: vs) := by
  cases r with
  | d x => exact ⟨_, F, q, Le.refl F, o, fun G rs vs l s => .d (Rp.mono l h.1) s⟩
  | own xs =>
    obtain ⟨x, F', h1, l, o', rp⟩ := h.data (k := fun x => k (.d x)) o q
    exact ⟨_, F', h1, l, o', fun G rs vs l s => .d (Rp.mono l rp) s⟩
  | gen =>
    have e : v = .ref am := h.1
    subst e
    exact ⟨_, F, q, Le.refl F, o, fun G rs vs l s => .gen s⟩
  | scr ns =>
    obtain ⟨a, e, hq⟩ := h.1
    subst e
    exact ⟨_, F, q, Le.refl F, o, fun G rs vs l s => .scr (sq_le l hq) s⟩
  | dic D => exact q.elim
theorem da_cons (ha : PE X e (tE Δ fa)) (hr : PA X es (tA Δ fr)) (hs : starEach (e :: es) X.env = (false, eval e X.env) :: starEach es X.env := by rfl) : PA X (e :: es) (tA Δ (aCons fa fr)) := by
  refine (pa_cons ha hr hs).imp fun σ H Q ⟨am, F, c, P, XX, ok, hf, kq, kx⟩ => ?_
  refine ⟨am, F, c, _, XX, ok, hf, fun r1 c1 F1 v1 H1 p1 l1 o1 s1 => ?_, kx⟩
  obtain ⟨x, F1', hx, l1', o1', g⟩ := s1.arg o1 p1
  exact ⟨am, F1', c1, _, XX, o1', hx, fun rs c2 F2 vs H2 p2 l2 o2 s2 => kq _ c2 F2 _ H2 p2 ((l1.trans l1').trans l2) o2 (g F2 rs vs l2 s2), kx.le (l1.trans l1')⟩
/-- the arguments are data -/
def asDs : List Rv → (List Px → Prop) → Prop
  | [], k => k []
  | .d x :: rs, k => asDs rs fun xs => k (x :: xs)
  | _, _ => False
theorem asDs_of {am : Addr} {F : Hp} : ∀ {rs : List Rv} {vs : List V} {k : List Px → Prop}, Rss Δ am F rs vs → asDs rs k → ∃ xs, k xs ∧ RpA F vs xs
  | _, _, _, .nil, h => ⟨[], h, .nil⟩
  | _, _, _, .d r s, h => by
    obtain ⟨xs, h1, h2⟩ := asDs_of s h
    exact ⟨_, h1, .cons r h2⟩
  | _, _, _, .gen _, h => h.elim
  | _, _, _, .scr _ _, h => h.elim
def eTup (f : WA) : WE := fun c P X => f c (fun rs c1 => asDs rs fun xs => xs.length ≤ 1000000 ∧ P (.d (.tuple xs)) c1) X
def eLst (f : WA) : WE := fun c P X => f c (fun rs c1 => asDs rs fun xs => xs.length ≤ 1000000 ∧ P (.own xs) c1) X
theorem de_tup {k : Nat} (h : PA X es (tA Δ fr)) : PE X (.Tuple es k pos) (tE Δ (eTup fr)) := by
  refine (pe_tup h).imp fun σ H Q ⟨am, F, c, P, XX, ok, hf, kq, kx⟩ => ?_
  refine ⟨am, F, c, _, XX, ok, hf, fun rs c1 F1 vs H1 p1 l1 o1 s1 => ?_, kx⟩
  obtain ⟨xs, h1, r⟩ := asDs_of s1 p1
  refine ⟨line_of (by rw [r.length]; exact h1.1), fun p hp => ?_⟩
  obtain ⟨o', l, rp⟩ := o1.tupN hp r
  exact kq _ c1 _ _ _ h1.2 (l1.trans l) o' (.of rp)
theorem de_lst (h : PA X es (tA Δ fr)) : PE X (.List es pos) (tE Δ (eLst fr)) := by
  refine (pe_lst h).imp fun σ H Q ⟨am, F, c, P, XX, ok, hf, kq, kx⟩ => ?_
  refine ⟨am, F, c, _, XX, ok, hf, fun rs c1 F1 vs H1 p1 l1 o1 s1 => ?_, kx⟩
  obtain ⟨xs, h1, r⟩ := asDs_of s1 p1
  refine ⟨line_of (by rw [r.length]; exact h1.1), fun p hp => ?_⟩
  obtain ⟨o', rs'⟩ := Rs.fresh o1 hp r
  exact kq _ c1 F1 _ _ h1.2 l1 o' rs'
/-! ### built-ins by their values -/
abbrev CD := List Rv → (Rv → Prop) → Prop
structure ClD (X : Cx) (Δ : Dx) (f : Value) (o : CD) : Prop where
  ex : ∃ r : List V → Hp → VK → Prop, CallR X f r ∧ ∀ (am : Addr) (F : Hp) (σ : St) (H : Hp) (c : Cf) (vs : List V) (rs : List Rv) (P : Rv → Prop) (Q : VK), Ok Δ am F σ H c → Rss Δ am F rs vs → o rs P →
    (∀ rr F' v H', P rr → Le F F' → Ok Δ am F' σ H' c → Rs Δ am F' σ H' c rr v → Q v H') → r vs H Q
def eCB (o : CD) (f : WA) : WE := fun c P X => f c (fun rs c1 => o rs fun r => P r c1) X
theorem cb_of {r : List V → Hp → VK → Prop} {o : CD} (ho : ∀ (am : Addr) (F : Hp) (σ : St) (H : Hp) (c : Cf) (vs : List V) (rs : List Rv) (P : Rv → Prop) (Q : VK), Ok Δ am F σ H c → Rss Δ am F rs vs → o rs P →
    (∀ rr F' v H', P rr → Le F F' → Ok Δ am F' σ H' c → Rs Δ am F' σ H' c rr v → Q v H') → r vs H Q) (σ : St) (H : Hp) (Q : VK) (h : tE Δ (eCB o fr) σ H Q) : tCB r (tA Δ fr) σ H Q := by
  obtain ⟨am, F, c, P, XX, ok, hf, kq, kx⟩ := h
  exact ⟨am, F, c, _, XX, ok, hf, fun rs c1 F1 vs H1 p1 l1 o1 s1 => ho am F1 σ H1 c1 vs rs _ Q o1 s1 p1 fun rr F' v H' prr l o s => kq rr c1 F' v H' prr (l1.trans l) o s, kx⟩
section
variable {x : Str} {p : Pos} {id T : String} {o : CD}
theorem de_cb (hc : ClD X Δ (.builtin id) o) (hg : Gl X x) (hm : X.mg x = none) (hv : bootBuiltins x = some (.builtin id)) (ha : PA X (e :: es) (tA Δ fr)) (hn : x ≠ "__name__" := by decide) (hdb : (x == ("__debug__" : Str)) = false := by decide)
    (he : starEach (e :: es) X.env = (false, eval e X.env) :: starEach es X.env := by rfl) (hpl : (backTo pos (starEach es X.env)).any (·.1) = false := by rfl) : PE X (.Call (.Name x p) (e :: es) [] pos) (tE Δ (eCB o fr)) := by
  obtain ⟨r, h1, h2⟩ := hc.ex
  exact (pe_callB h1 hg hm hv ha hn hdb he hpl).imp fun σ H Q h => cb_of h2 σ H Q h
theorem de_ct (hc : ClD X Δ (.type T) o) (hg : Gl X x) (hm : X.mg x = none) (hv : bootBuiltins x = some (.type T)) (ha : PA X (e :: es) (tA Δ fr)) (hn : x ≠ "__name__" := by decide) (hdb : (x == ("__debug__" : Str)) = false := by decide)
    (he : starEach (e :: es) X.env = (false, eval e X.env) :: starEach es X.env := by rfl) (hpl : (backTo pos (starEach es X.env)).any (·.1) = false := by rfl) : PE X (.Call (.Name x p) (e :: es) [] pos) (tE Δ (eCB o fr)) := by
  obtain ⟨r, h1, h2⟩ := hc.ex
  exact (pe_callTy h1 hg hm hv ha hn hdb he hpl).imp fun σ H Q h => cb_of h2 σ H Q h
end
def lenC : CD := fun rs P => match rs with
  | [.d (.list xs)] => P (.d (.int xs.length))
  | [.d (.tuple xs)] => P (.d (.int xs.length))
  | [.scr ns] => P (.d (.int ns.length))
  | _ => False
theorem cl_len (hK : Δ.K = X.K) (hk : X.K = TabF.K := by first | rfl | assumption) : ClD X Δ (.builtin "len") lenC :=
  ⟨_, call_len_seq, fun am F σ H c vs rs P Q ok rx ho k => by
    unfold lenC at ho
    split at ho
    · cases rx with
      | d r s =>
        cases s
        cases r with
        | lst e r1 => exact ⟨_, _, rfl, .inl (SqL.of (ok.fh _ _ e)), k _ F _ H (by rw [r1.length]; exact ho) (Le.refl F) ok (.of (.int _))⟩
    · cases rx with
      | d r s =>
        cases s
        cases r with
        | tup e r1 => exact ⟨_, _, rfl, .inr (e.sq hk ok.fh), k _ F _ H (by rw [r1.length]; exact ho) (Le.refl F) ok (.of (.int _))⟩
    · cases rx with
      | scr e s =>
        cases s
        exact ⟨_, _, rfl, .inl (sq_le ok.fh (hK ▸ e)), k _ F _ H (by rw [List.length_map]; exact ho) (Le.refl F) ok (.of (.int _))⟩
    · exact ho.elim⟩
/-- len of a name's list -/
def lenD (x : Px) (k : Nat → Prop) : Prop := match x with
  | .list xs => k xs.length
  | .tuple xs => k xs.length
  | _ => False
def eLenN (i : Nat) : WE := fun c P _ => slotD c i fun x => lenD x fun n => P (.d (.int n)) c
theorem de_lenN (i : Nat) {x f : Str} {p p' : Pos} (hf : f = "len") (hg : Gl X f) (hm : X.mg f = none) (hv : bootBuiltins f = some (.builtin "len")) (hN : X.N[i]? = some x := by rfl)
    (hvi : Vis X.env.scope x := by first | exact Or.inl rfl | exact Or.inr (Or.inl rfl) | exact Or.inr (Or.inr rfl)) (hd : (x == ("__debug__" : Str)) = false := by decide)
    (hcd : (x == ("__classdict__" : Str)) = false := by decide) (hk : X.K = TabF.K := by first | rfl | assumption) : PE X (.Call (.Name f p) [.Name x p'] [] pos) (tE Δ (eLenN i)) := by
  subst hf
  refine (pe_callB call_len_seq hg hm hv (pa_cons (pv i hN hvi hd hcd) pa_nil)).imp fun σ H Q ⟨am, F, c, P, XX, ok, hf, kq, kx⟩ => ?_
  obtain ⟨x, v, G, e1, hx, l3, l4, rpx, _⟩ := ok.look hf
  refine ⟨v, e1, ?_⟩
  unfold lenD at hx
  split at hx
  · cases rpx with
    | lst e r1 => exact ⟨_, _, rfl, .inl (SqL.of (l4 _ _ e)), kq _ c F _ H (by rw [r1.length]; exact hx) (Le.refl F) ok (.of (.int _))⟩
  · cases rpx with
    | tup e r1 => exact ⟨_, _, rfl, .inr (e.sq hk l4), kq _ c F _ H (by rw [r1.length]; exact hx) (Le.refl F) ok (.of (.int _))⟩
  · exact hx.elim
def absC : CD := fun rs P => match rs with
  | [.d (.int i)] => P (.d (.int i.natAbs))
  | _ => False
theorem cl_abs : ClD X Δ (.builtin "abs") absC :=
  ⟨_, call_abs, fun am F σ H c vs rs P Q ok rx ho k => by
    unfold absC at ho
    split at ho
    · rename_i i
      cases rx with
      | d r s =>
        cases s
        cases r
        refine ⟨_, rfl, k _ F _ H ho (Le.refl F) ok (.of ?_)⟩
        rw [show (if i < 0 then -i else i) = (i.natAbs : Int) by split <;> omega]
        exact .int _
    · exact ho.elim⟩
def intC : CD := fun rs P => match rs with
  | [.d (.int i)] => P (.d (.int i))
  | [.d (.bool b)] => P (.d (.int (if b then 1 else 0)))
  | _ => False
theorem cl_int : ClD X Δ (.type "int") intC :=
  ⟨_, call_int1, fun am F σ H c vs rs P Q ok rx ho k => by
    unfold intC at ho
    split at ho
    · cases rx with
      | d r s =>
        cases s
        cases r
        exact .inl ⟨_, rfl, k _ F _ H ho (Le.refl F) ok (.of (.int _))⟩
    · cases rx with
      | d r s =>
        cases s
        cases r
        exact .inr ⟨_, rfl, k _ F _ H ho (Le.refl F) ok (.of (.int _))⟩
    · exact ho.elim⟩
def tupC : CD := fun rs P => match rs with
  | [.d (.list xs)] => P (.d (.tuple xs))
  | [.d (.tuple xs)] => P (.d (.tuple xs))
  | _ => False
theorem cl_tup (hK : Δ.K = X.K) (hk : X.K = TabF.K := by first | rfl | assumption) : ClD X Δ (.type "tuple") tupC :=
  ⟨_, call_tuple_of, fun am F σ H c vs rs P Q ok rx ho k => by
    unfold tupC at ho
    split at ho
    · cases rx with
      | d r s =>
        cases s
        cases r with
        | lst e r1 =>
          refine ⟨_, _, rfl, .inl ⟨SqL.of (ok.fh _ _ e), fun p hp => ?_⟩⟩
          obtain ⟨o', l, rp⟩ := ok.tupN hp r1
          exact k _ _ _ _ ho l o' (.of rp)
    · cases rx with
      | d r s =>
        cases s
        cases r with
        | tup e r1 => exact ⟨_, _, rfl, .inr ⟨e.sq hk ok.fh, k _ F _ H ho (Le.refl F) ok (.of (.tup e r1))⟩⟩
    · exact ho.elim⟩
def lstC : CD := fun rs P => match rs with
  | [.d (.list xs)] => P (.own xs)
  | [.d (.tuple xs)] => P (.own xs)
  | _ => False
theorem cl_lst (hK : Δ.K = X.K) (hk : X.K = TabF.K := by first | rfl | assumption) : ClD X Δ (.type "list") lstC :=
  ⟨_, call_list_of, fun am F σ H c vs rs P Q ok rx ho k => by
    unfold lstC at ho
    split at ho
    · cases rx with
      | d r s =>
        cases s
        cases r with
        | lst e r1 =>
          refine ⟨_, _, rfl, .inl (SqL.of (ok.fh _ _ e)), fun p hp => ?_⟩
          obtain ⟨o', rs⟩ := Rs.fresh ok hp r1
          exact k _ F _ _ ho (Le.refl F) o' rs
    · cases rx with
      | d r s =>
        cases s
        cases r with
        | tup e r1 =>
          refine ⟨_, _, rfl, .inr (e.sq hk ok.fh), fun p hp => ?_⟩
          obtain ⟨o', rs⟩ := Rs.fresh ok hp r1
          exact k _ F _ _ ho (Le.refl F) o' rs
    · exact ho.elim⟩
theorem RpA.ints {F : Hp} : ∀ {vs : List V} {ns : List Int}, RpA F vs (ns.map .int) → vs = ns.map V.int
  | _, [], .nil => rfl
  | _, n :: ns, .cons a b => by
    cases a
    rw [List.map_cons, RpA.ints b]
def max2 (i j : Int) : Int := if i < j then j else i
def max2C : CD := fun rs P => match rs with
  | [.d (.int i), .d (.int j)] => P (.d (.int (if i < j then j else i)))
  | _ => False
def min2C : CD := fun rs P => match rs with
  | [.d (.int i), .d (.int j)] => P (.d (.int (if j < i then j else i)))
  | _ => False
theorem cl_min2 (hc : X.calm = true) : ClD X Δ (.builtin "min") min2C :=
  ⟨_, call_min2 hc, fun am F σ H c vs rs P Q ok rx ho k => by
    unfold min2C at ho
    split at ho
    · cases rx with
      | d r s =>
        cases s with
        | d r' s =>
          cases s
          cases r
          cases r'
          exact ⟨_, _, rfl, k _ F _ H ho (Le.refl F) ok (.of (.int _))⟩
    · exact ho.elim⟩
def max3C : CD := fun rs P => match rs with
  | [.d (.int i), .d (.int j), .d (.int l)] => P (.d (.int (max2 (max2 i j) l)))
  | _ => False
/-! isinstance(x, T) of a built-in class -/
def kindD : Px → String
  | .none => "NoneType"
  | .bool _ => "bool"
  | .int _ => "int"
  | .str _ => "str"
  | .list _ => "list"
  | .tuple _ => "tuple"
  | .dict _ => "?"
def isiD (T : String) (x : Px) : Bool := (kitB (kindD x) T).getD false
def eIsi (T : String) (f : WE) : WE := fun c P X => f c (fun r c1 => asD r fun x => kitB (kindD x) T = some (isiD T x) ∧ P (.d (.bool (isiD T x))) c1) X
end
end Dl
set_option Elab.async false
set_option maxRecDepth 100000
set_option linter.all false
set_option autoImplicit false
namespace Dl
open PySem L2
variable [TabF]
section
variable {X : Cx} {Δ : Dx} {a b e : Expr} {fa fb fc : WE} {pos : Pos} {es : List Expr} {fr : WA}
/-! ### an item -/
def ixD (x y : Px) (k : Px → Prop) : Prop := match x, y with
  | .list xs, .int i => (match atI xs i with | some z => k z | none => False)
  | .tuple xs, .int i => (match atI xs i with | some z => k z | none => False)
  | _, _ => False
theorem RpA.at {F : Hp} {vs : List V} {xs : List Px} {i : Int} {z : Px} (r : RpA F vs xs) (h : atI xs i = some z) : ∃ v, atI vs i = some v ∧ Rp F v z := by
  unfold atI at h ⊢
  rw [r.length]
  cases e : ixN xs.length i with
  | none => rw [e] at h; cases h
  | some j =>
    rw [e] at h
    exact r.get h
def eIx (fa fb : WE) : WE := fun c P X => fa c (fun r1 c1 => asD r1 fun x => fb c1 (fun r2 c2 => asD r2 fun y => ixD x y fun z => P (.d z) c2) X) X
def eIxN (i : Nat) (fb : WE) : WE := fun c P X => hasD c i ∧ fb c (fun r2 c2 => asD r2 fun y => slotD c2 i fun x => ixD x y fun z => P (.d z) c2) X
theorem de_ix (ha : PE X a (tE Δ fa)) (hb : PE X b (tE Δ fb)) (hs : PlainIx b) (hk : X.K = TabF.K := by first | rfl | assumption) : PE X (.Subscript a b pos) (tE Δ (eIx fa fb)) := by
  refine (pe_ix ix_seq ha hb hs).imp fun σ H Q ⟨am, F, c, P, XX, ok, hf, kq, kx⟩ => ?_
  refine ⟨am, F, c, _, XX, ok, hf, fun r1 c1 F1 v1 H1 p1 l1 o1 s1 => ?_, kx⟩
  obtain ⟨x, F1', hx, l1', o1', rp1⟩ := s1.data o1 p1
  refine ⟨am, F1', c1, _, XX, o1', hx, fun r2 c2 F2 v2 H2 p2 l2 o2 s2 => ?_, kx.le (l1.trans l1')⟩
  obtain ⟨y, F2', hy, l2', o2', rp2⟩ := s2.data o2 p2
  have rp1 := rp1.mono (l2.trans l2')
  unfold ixD at hy
  split at hy
  · split at hy
    · rename_i z ez
      cases rp1 with
      | lst e1 r1 =>
        cases rp2
        obtain ⟨v, ev, rv⟩ := r1.at ez
        exact .inl ⟨_, _, _, v, rfl, rfl, SqL.of (o2'.fh _ _ e1), ev, kq _ c2 F2' v H2 hy (((l1.trans l1').trans l2).trans l2') o2' (.of rv)⟩
    · exact hy.elim
  · split at hy
    · rename_i z ez
      cases rp1 with
      | tup e1 r1 =>
        cases rp2
        obtain ⟨v, ev, rv⟩ := r1.at ez
        exact .inr (.inl ⟨_, _, _, v, rfl, rfl, e1.sq hk o2'.fh, ev, kq _ c2 F2' v H2 hy (((l1.trans l1').trans l2).trans l2') o2' (.of rv)⟩)
    · exact hy.elim
  · exact hy.elim
theorem de_ixN (i : Nat) {x : Str} {p : Pos} (hb : PE X b (tE Δ fb)) (hs : PlainIx b) (hN : X.N[i]? = some x := by rfl)
    (hv : Vis X.env.scope x := by first | exact Or.inl rfl | exact Or.inr (Or.inl rfl) | exact Or.inr (Or.inr rfl)) (hd : (x == ("__debug__" : Str)) = false := by decide)
    (hcd : (x == ("__classdict__" : Str)) = false := by decide) (hk : X.K = TabF.K := by first | rfl | assumption) : PE X (.Subscript (.Name x p) b pos) (tE Δ (eIxN i fb)) := by
  refine (pe_ix ix_seq (pv i hN hv hd hcd) hb hs).imp fun σ H Q ⟨am, F, c, P, XX, ok, ⟨hd, hf⟩, kq, kx⟩ => ?_
  obtain ⟨_, v, _, hv, _⟩ := ok.look hd
  refine ⟨v, hv, am, F, c, _, XX, ok, hf, fun r2 c2 F2 v2 H2 p2 l2 o2 s2 => ?_, kx⟩
  obtain ⟨y, F2', hy, l2', o2', rp2⟩ := s2.data o2 p2
  obtain ⟨x, w, G, e1, hx, l3, l4, rpx, kl, kt⟩ := o2'.look hy
  rw [hv] at e1
  cases e1
  unfold ixD at hx
  split at hx
  · split at hx
    · rename_i z ez
      obtain ⟨a, vs, rfl, ea, r1⟩ := kl _ rfl
      cases rp2
      obtain ⟨u, ev, rv⟩ := r1.at ez
      exact .inl ⟨_, _, _, u, rfl, rfl, SqL.of ea, ev, kq _ c2 F2' u H2 hx (l2.trans l2') o2' (.of rv)⟩
    · exact hx.elim
  · split at hx
    · rename_i z ez
      obtain ⟨a, vs, rfl, ea, r1⟩ := kt _ rfl
      cases rp2
      obtain ⟨u, ev, rv⟩ := r1.at ez
      exact .inr (.inl ⟨_, _, _, u, rfl, rfl, ea.sq hk (by first | exact o2'.fh | exact o3.fh | exact ok.fh), ev, kq _ c2 F2' u H2 hx (l2.trans l2') o2' (.of rv)⟩)
    · exact hx.elim
  · exact hx.elim
/-! ### slices -/
abbrev WO := Cf → (Option Int → Cf → Prop) → XP → Prop
def oNone : WO := fun c P _ => P none c
def oSome (f : WE) : WO := fun c P X => f c (fun r c1 => match r with
  | .d (.int i) => P (some i) c1
  | _ => False) X
def tO (Δ : Dx) (f : WO) : TO := fun σ H Q => ∃ am F c P X, Ok Δ am F σ H c ∧ f c P X ∧ (∀ o c' F' H', P o c' → Le F F' → Ok Δ am F' σ H' c' → Q o H') ∧ KX Δ am F X
theorem _root_.L2.PO.imp {e : Option Expr} {t t' : TO} (h : PO X e t) (w : ∀ σ H Q, t' σ H Q → t σ H Q) : PO X e t' :=
  ⟨fun pins s σ H Q I q => h.run pins s σ H Q I (w σ H Q q)⟩
theorem do_none : PO X none (tO Δ oNone) := po_none.imp fun σ H Q ⟨am, F, c, P, XX, ok, hf, kq, kx⟩ => kq _ c F H hf (Le.refl F) ok
theorem do_some (h : PE X e (tE Δ fa)) : PO X (some e) (tO Δ (oSome fa)) := by
  refine (po_some h).imp fun σ H Q ⟨am, F, c, P, XX, ok, hf, kq, kx⟩ => ?_
  refine ⟨am, F, c, _, XX, ok, hf, fun r1 c1 F1 v1 H1 p1 l1 o1 s1 => ?_, kx⟩
  dsimp only at p1
  split at p1
  · have h1 := s1.1
    cases h1
    exact ⟨_, rfl, kq _ c1 F1 H1 p1 l1 o1⟩
  · exact p1.elim
def cutX {α : Type} (xs : List α) (lo hi : Option Int) : List α := (xs.drop (HT.sIx xs.length 0 lo)).take (HT.sIx xs.length xs.length hi - HT.sIx xs.length 0 lo)
theorem cut_whole {α : Type} {xs : List α} {lo hi : Option Int} (h1 : HT.sIx xs.length 0 lo = 0) (h2 : HT.sIx xs.length xs.length hi = xs.length) : cutX xs lo hi = xs := by
  unfold cutX
  rw [h1, h2]
  simp
theorem RpA.cut {F : Hp} {vs : List V} {xs : List Px} (r : RpA F vs xs) (lo hi : Option Int) : RpA F (cutV vs lo hi) (cutX xs lo hi) := by
  unfold cutV cutX
  rw [r.length]
  exact (r.drop _).take _
/-- a list's slice is a new list; a tuple's, where it isn't the whole, a new tuple -/
def slD (x : Px) (lo hi : Option Int) (k : Rv → Prop) : Prop := match x with
  | .list xs => k (.own (cutX xs lo hi))
  | .tuple xs => k (.d (.tuple (cutX xs lo hi)))
  | _ => False
def eSl (fa : WE) (fl fh : WO) : WE := fun c P X => fa c (fun r1 c1 => asD r1 fun x => fl c1 (fun lo c2 => fh c2 (fun hi c3 => slD x lo hi fun r => P r c3) X) X) X
def eSlN (i : Nat) (fl fh : WO) : WE := fun c P X => hasD c i ∧ fl c (fun lo c2 => fh c2 (fun hi c3 => slotD c3 i fun x => slD x lo hi fun r => P r c3) X) X
theorem _root_.Dl.Ok.tupF {am : Addr} {F : Hp} {σ : St} {H : Hp} {c : Cf} (k : Ok Δ am F σ H c) {i : Nat} {q : Px → Prop} (h : slotD c i q) {a : Addr} {vs : List V} {xs : List Px} (hv : σ[i]? = some (some (.ref a))) (ea : TupF F a vs) (r1 : RpA F vs xs) : Rp F (.ref a) (.tuple xs) := .tup ea r1
theorem sl_or : SlR X (fun x lo hi H Q => rSlL X.K x lo hi H Q ∨ rSlA X.K x lo hi H Q) := SlR.or sl_list sl_tupA
section
variable {lo hi : Option Expr} {fl fh : WO} {p2 : Pos}
theorem de_sl (ha : PE X a (tE Δ fa)) (hl : PO X lo (tO Δ fl)) (hh : PO X hi (tO Δ fh)) (hk : X.K = TabF.K := by first | rfl | assumption) : PE X (.Subscript a (.Slice lo hi none p2) pos) (tE Δ (eSl fa fl fh)) := by
  refine (pe_slice sl_or ha hl hh).imp fun σ H Q ⟨am, F, c, P, XX, ok, hf, kq, kx⟩ => ?_
  refine ⟨am, F, c, _, XX, ok, hf, fun r1 c1 F1 v1 H1 p1 l1 o1 s1 => ?_, kx⟩
  obtain ⟨x, F1', hx, l1', o1', rp1⟩ := s1.data o1 p1
  refine ⟨am, F1', c1, _, XX, o1', hx, fun u c2 F2 H2 p2 l2 o2 => ?_, kx.le (l1.trans l1')⟩
  refine ⟨am, F2, c2, _, XX, o2, p2, fun w c3 F3 H3 p3 l3 o3 => ?_, kx.le ((l1.trans l1').trans l2)⟩
  have rp1 := rp1.mono (l2.trans l3)
  have ll := ((l1.trans l1').trans l2).trans l3
  unfold slD at p3
  split at p3
  · cases rp1 with
    | lst e1 r1 =>
      refine .inl ⟨_, _, rfl, SqL.of (o3.fh _ _ e1), fun p hp => ?_⟩
      obtain ⟨o', rs⟩ := Rs.fresh o3 hp (r1.cut u w)
      exact kq _ c3 F3 _ _ p3 ll o' rs
  · cases rp1 with
    | tup e1 r1 =>
      refine .inr ⟨_, _, rfl, e1.sq hk o3.fh, fun hw => ?_, fun _ p hp => ?_⟩
      · rw [r1.length] at hw
        rw [cut_whole hw.1 hw.2] at p3
        exact kq _ c3 F3 _ _ p3 ll o3 (.of (.tup e1 r1))
      · obtain ⟨o', l, rp⟩ := o3.tupN hp (r1.cut u w)
        exact kq _ c3 _ _ _ p3 (ll.trans l) o' (.of rp)
  · exact p3.elim
theorem de_slN (i : Nat) {x : Str} {p : Pos} (hl : PO X lo (tO Δ fl)) (hh : PO X hi (tO Δ fh)) (hN : X.N[i]? = some x := by rfl)
    (hv : Vis X.env.scope x := by first | exact Or.inl rfl | exact Or.inr (Or.inl rfl) | exact Or.inr (Or.inr rfl)) (hd : (x == ("__debug__" : Str)) = false := by decide)
    (hcd : (x == ("__classdict__" : Str)) = false := by decide) (hk : X.K = TabF.K := by first | rfl | assumption) : PE X (.Subscript (.Name x p) (.Slice lo hi none p2) pos) (tE Δ (eSlN i fl fh)) := by
  refine (pe_slice sl_or (pv i hN hv hd hcd) hl hh).imp fun σ H Q ⟨am, F, c, P, XX, ok, ⟨hd, hf⟩, kq, kx⟩ => ?_
  obtain ⟨_, v, _, hv, _⟩ := ok.look hd
  refine ⟨v, hv, am, F, c, _, XX, ok, hf, fun u c2 F2 H2 p2 l2 o2 => ?_, kx⟩
  refine ⟨am, F2, c2, _, XX, o2, p2, fun w c3 F3 H3 p3 l3 o3 => ?_, kx.le l2⟩
  obtain ⟨x, v', G, e1, hx, l4, l5, rpx, kl, kt⟩ := o3.look p3
  rw [hv] at e1
  cases e1
  have p4 := p3
  unfold slD at hx
  split at hx
  · obtain ⟨a, vs, rfl, ea, r1⟩ := kl _ rfl
    refine .inl ⟨_, _, rfl, SqL.of ea, fun p hp => ?_⟩
    obtain ⟨o', rs⟩ := Rs.fresh o3 hp (r1.cut u w)
    exact kq _ c3 F3 _ _ hx (l2.trans l3) o' rs
  · obtain ⟨a, vs, rfl, ea, r1⟩ := kt _ rfl
    refine .inr ⟨_, _, rfl, ea.sq hk (by first | exact o2'.fh | exact o3.fh | exact ok.fh), fun hw => ?_, fun _ p hp => ?_⟩
    · rw [r1.length] at hw
      rw [cut_whole hw.1 hw.2] at hx
      exact kq _ c3 F3 _ _ hx (l2.trans l3) o3 (.of (o3.tupF p4 hv ea r1))
    · obtain ⟨o', l, rp⟩ := o3.tupN hp (r1.cut u w)
      exact kq _ c3 _ _ _ hx ((l2.trans l3).trans l) o' (.of rp)
  · exact hx.elim
end
/-! ### a name's own list + .. -/
def catD : OD := fun x y P => match x, y with
  | .list xs, .list ys => xs.length + ys.length ≤ 1000000 ∧ P (.own (xs ++ ys))
  | .int i, .int j => P (.d (.int (i + j)))
  | .tuple xs, .tuple ys => xs.length + ys.length ≤ 1000000 ∧ P (.d (.tuple (xs ++ ys)))
  | _, _ => False
def eAddN (i : Nat) (fb : WE) : WE := fun c P X => hasD c i ∧ fb c (fun r2 c2 => asD r2 fun y => slotD c2 i fun x => catD x y fun r => P r c2) X
theorem de_addN (i : Nat) {x : Str} {p : Pos} (hK : Δ.K = X.K) (hb : PE X b (tE Δ fb)) (hN : X.N[i]? = some x := by rfl)
    (hv : Vis X.env.scope x := by first | exact Or.inl rfl | exact Or.inr (Or.inl rfl) | exact Or.inr (Or.inr rfl)) (hd : (x == ("__debug__" : Str)) = false := by decide)
    (hcd : (x == ("__classdict__" : Str)) = false := by decide) (hk : X.K = TabF.K := by first | rfl | assumption) : PE X (.BinOp (.Name x p) .Add b pos) (tE Δ (eAddN i fb)) := by
  refine (pe_op (OpR.or (OpR.or op_add op_cat) op_catA) (pv i hN hv hd hcd) hb).imp fun σ H Q ⟨am, F, c, P, XX, ok, ⟨hd, hf⟩, kq, kx⟩ => ?_
  obtain ⟨_, v, _, hv, _⟩ := ok.look hd
  refine ⟨v, hv, am, F, c, _, XX, ok, hf, fun r2 c2 F2 v2 H2 p2 l2 o2 s2 => ?_, kx⟩
  obtain ⟨y, F2', hy, l2', o2', rp2⟩ := s2.data o2 p2
  obtain ⟨x, w, G, e1, hx, l3, l4, rpx, kl, kt⟩ := o2'.look hy
  rw [hv] at e1
  cases e1
  have ll := l2.trans l2'
  unfold catD at hx
  split at hx
  · obtain ⟨a, vs, rfl, ea, r1⟩ := kl _ rfl
    cases rp2 with
    | lst e2 r2 =>
      refine .inl (.inr ⟨_, _, _, _, rfl, rfl, ea, o2'.fh _ _ e2, line_of (by rw [r1.length, r2.length]; exact hx.1), fun p hp => ?_⟩)
      obtain ⟨o', rs⟩ := Rs.fresh o2' hp (r1.append r2)
      exact kq _ c2 F2' _ _ hx.2 ll o' rs
  · cases rpx
    cases rp2
    exact .inl (.inl ⟨_, _, rfl, rfl, kq _ c2 F2' _ H2 hx ll o2' (.of (.int _))⟩)
  · rename_i xs ys
    obtain ⟨a, vs, rfl, ea, r1⟩ := kt _ rfl
    cases rp2 with
    | tup e2 r2 =>
      refine .inr ⟨_, _, _, _, rfl, rfl, ea.sq hk (by first | exact o2'.fh | exact o3.fh | exact ok.fh), e2.sq hk o2'.fh, line_of (by rw [r1.length, r2.length]; exact hx.1), fun z => ?_, fun _ z => ?_, fun _ _ p hp => ?_⟩
      · have := r1.length
        rw [z] at this
        have e0 : xs = [] := List.length_eq_zero_iff.mp this.symm
        subst e0
        exact kq _ c2 F2' _ H2 hx.2 ll o2' (.of (.tup e2 r2))
      · have := r2.length
        rw [z] at this
        have e0 : ys = [] := List.length_eq_zero_iff.mp this.symm
        subst e0
        have h3 := hx.2
        rw [List.append_nil] at h3
        exact kq _ c2 F2' _ H2 h3 ll o2' (.of (o2'.tupF hy hv ea r1))
      · obtain ⟨o', l, rp⟩ := o2'.tupN hp (r1.append r2)
        exact kq _ c2 _ _ _ hx.2 (ll.trans l) o' (.of rp)
  · exact hx.elim
end
end Dl
set_option Elab.async false
set_option maxRecDepth 100000
set_option linter.all false
set_option autoImplicit false
/-! Promises of defs that are called where no repr is under way. -/
namespace Dl
open PySem L2 PySem.Spec PyProof.Rows
variable [TabF]
structure RoomG (k : Nat) (A : Around) : Prop extends Room k A where
  gd : A.guards = some []
theorem RoomG.mono {j k : Nat} {A : Around} (r : RoomG k A) (h : j ≤ k) : RoomG j A := ⟨r.toRoom.mono h, r.gd⟩
theorem RoomG.deeper {k : Nat} {A : Around} (r : RoomG (k + 1) A) (env : Env) : RoomG k (A.deeper env) := ⟨r.toRoom.deeper env, r.gd⟩
structure FnG (P : Program) (w : World) (K : PySem.W.Frag) (mg : Str → Option Value) (base : Heap) (CX : CXT) (k : Nat) (f : Addr) (fd : FuncData) (ps : List Str) (sp : Sp) : Prop where
  len : ∀ vs H Q E, sp vs H Q E → vs.length = ps.length
  run : ∀ {A : Around} {outer : List Env} {s : Shared} {H : Hp} {args : Args} {us : List Value} {vs : List V} {Q : VK} {E : XK}, RoomG k A → Env0 P w K mg base A outer s H → BindsTo s fd args (ps.zip us) → Vals vs us → sp vs H Q E →
    codeAny (model P w) A (.call (.ref f) args) (CR CX outer P w H s Q E) s
section
variable {P : Program} {w : World} {K : PySem.W.Frag} {mg : Str → Option Value} {base : Heap} {CX : CXT} {k : Nat} {f : Addr} {fd : FuncData} {ps : List Str} {sp : Sp}
theorem fnG_of {x qual : Str} {params : Arguments} {body : List Stmt} {scope : Scope} {dvs : List V} {kws : List (Str × V)} {N : List Str} (F : FunD K x qual params body scope dvs kws f fd) (S : FnScope N ps scope) (len : ∀ vs H Q E, sp vs H Q E → vs.length = ps.length)
    (hb : ∀ (cdv : Value) (A : Around) (outer : List Env) (s : Shared) (H : Hp) (vs : List V) (Q : VK) (E : XK), RoomG k (A.deeper (envOfC qual scope s.heap.objs.size f cdv)) → sp vs H Q E →
      ∃ t, PSs (cxOf CX P w K mg base N qual scope f cdv A outer s H E) body t ∧ t { nx := fun _ H' => Q .non H', rt := Q } (start N vs) H) : FnG P w K mg base CX (k + 1) f fd ps sp := by
  obtain ⟨_, _, _, _, _, _, _, cdv, _, _, rfl, look, code, _, _⟩ := F.ex
  refine ⟨len, fun {A outer s H args us vs Q E} room e0 bind rel want => ?_⟩
  have stay : ∀ b o, base.get? b = some o → s.heap.get? b = some o := fun b o e => (e0.bs b o e).1
  have kin : K.In s.heap := e0.mod.kin.keeps stay
  refine codeAny_call_function room.depth (kin _ _ look) rfl S.co S.gen rfl (PySem.W.codeRec_of kin code) (bind _ _ _ _ ?_)
  refine wpAny_newFunctionEnv_cells S.kind (fun y hy => ?_) fun env he s1 x => ?_
  · rcases S.par y.1 (List.of_mem_zip hy).1 with q | q
    · exact .inl q
    · exact .inr ⟨q, PySem.W.cellsFrom_some _ _ _ (.inl q)⟩
  · subst he
    obtain ⟨t, run, ok⟩ := hb cdv A outer s H vs Q E (room.deeper _) want
    have I : Inv (cxOf CX P w K mg base N qual scope f cdv A outer s H E) [] (L2.start N vs) H s1 := inv_start S room.hd e0 (len _ _ _ _ want) rel x
    refine ⟨(e0.mod.nolimit.keeps stay).keeps x.toInCall.keep, codeAny_func (wpAny_mono (run.run [] s1 (start N vs) H _ I ok) (fun fl s' got => ?_) fun _ _ got => got)⟩
    have fin : ∀ {σ' : L2.St} {H' : Hp} {v : V} {u : Value}, Inv (cxOf CX P w K mg base N qual scope f cdv A outer s H E) [] σ' H' s' → RelV v u → Q v H' → CE outer P w H s Q u s' := fun J r q => ⟨_, _, J.os, J.bare, J.base, J.hok, r, q⟩
    cases fl with
    | ret u =>
      obtain ⟨_, _, _, J, r, q⟩ := got
      exact fin J r q
    | next =>
      obtain ⟨_, _, J, q⟩ := got
      exact fin (v := .non) (u := .none) J rfl q
    | brk => obtain ⟨_, _, _, q⟩ := got; exact q.elim
    | cont => obtain ⟨_, _, _, q⟩ := got; exact q.elim
end
section
variable {X : Cx} {CX : CXT} {k : Nat} {f : Addr} {fd : FuncData} {ps : List Str} {sp : Sp} {E : XK} {x : Str} {p pos : Pos} {e : Expr} {es : List Expr} {t : TA}
theorem run_fnG {pins : List (Addr × Obj)} {σ : L2.St} {H : Hp} {s : Shared} {Q : VK} {us : List Value} {vs : List V} (F : FnG X.prog X.w X.K X.mg X.base CX k f fd ps sp) (hr : RoomG k X.A) (hb : Binds X.K fd ps []) (hx : Passes CX X E)
    (I : Inv X pins σ H s) (r : Vals vs us) (h : sp vs H Q E) : wpAny (model X.prog X.w) X.A (call (.ref f) us) (EP X pins σ Q) X.xe s := by
  have hl : us.length = ps.length := r.length.symm.trans (F.len _ _ _ _ h)
  have bind := hb s us I.kIn (by rw [List.append_nil]; exact hl)
  rw [List.append_nil] at bind
  refine wpAny_call (codeAny_mono (F.run hr I.env0 bind r h) fun end_ s' got => ?_)
  match end_, got with
  | .error e, got => exact hx pins σ H s e s' I got
  | .ok (.ret u), got => exact I.after got
theorem pe_callX (F : FnG X.prog X.w X.K X.mg X.base CX k f fd ps sp) (hr : RoomG k X.A) (hg : Gl X x) (hm : X.mg x = some (.ref f)) (hk : PySem.W.keepIn X.K (.ref f) = true) (hb : Binds X.K fd ps []) (hx : Passes CX X E)
    (ha : PA X (e :: es) t) (hdb : (x == ("__debug__" : Str)) = false := by decide) (he : starEach (e :: es) X.env = (false, eval e X.env) :: starEach es X.env := by rfl) (hpl : (backTo pos (starEach es X.env)).any (·.1) = false := by rfl) :
    PE X (.Call (.Name x p) (e :: es) [] pos) (tCall sp [] E t) :=
  ⟨fun pins s σ H Q I h => wpAny_Call_Name_kw (ld_glob I hg hm (PySem.W.callWith_K (h₀ := X.base) I.ok.mod.kin hk (thn (ha.run pos pins s σ H _ I h) fun us s1 ⟨vs, H1, I1, r, q⟩ => ⟨I1.kIn, run_fnG F hr hb hx I1 r (by rw [← List.append_nil vs]; exact q)⟩) he hpl) hdb)⟩
end
/-! ### the law itself -/
theorem law_callX {P : Program} {w : World} {K : PySem.W.Frag} {mg mb : Str → Option Value} {CX : CXT} {k : Nat} {fa a : Addr} {fd : FuncData} {x : Str} {sp : Sp} {s : Shared} {vs : List Value} {ns : List Int}
    (kin : K.In s.heap) (hmg : s.heap.Ns mainGlobals mg) (hmb : s.heap.Ns builtinsNs mb) (boot : ∀ x : Str, x ≠ "__name__" → mb x = bootBuiltins x) (lim : s.heap.NoLimit) (gens : s.gens = #[])
    (ha : s.heap.get? a = some { cls := .type "list", data := .seq vs.toArray }) (hi : IntsAre vs ns) (hl : ns.length ≤ sizeLine) (hr : RoomG k callerA)
    (F : ∀ base : Heap, K.In base → base.Ns mainGlobals mg → FnG P w K mg base CX k fa fd [x] sp) (bind : ∀ (s : Shared) (u : Value), BindsTo s fd ⟨[u], []⟩ [(x, u)])
    (hsp : ∀ H : Hp, Only H → SqL K H a (ns.map V.int) → sp [.ref a] H (fun v _ => v = .bl true) fun _ _ _ => False)
    (hCX : ∀ H e s', CX [] H s (fun _ _ _ => False) e s' → False) :
    codeAny (model P w) callerA (.call (.ref fa) ⟨[.ref a], []⟩) (fun r s' => r = .ok (.ret (.bool true)) ∧ OldK s.heap s'.heap ∧ s'.os = s.os ∧ AllBare s'.gens) s := by
  let L : Obj := { cls := .type "list", data := .seq vs.toArray }
  let H : Hp := fun b => if b = a ∧ K.lookup a = none then some (.frz L (.lst (ns.map V.int))) else none
  have hH : ∀ b u, H b = some u → b = a ∧ K.lookup a = none ∧ u = .frz L (.lst (ns.map V.int)) := fun b u z => by
    by_cases q : b = a ∧ K.lookup a = none
    · exact ⟨q.1, q.2, (Option.some.inj ((if_pos q).symm.trans z)).symm⟩
    · cases (if_neg q).symm.trans z
  have only : Only H := fun b => by
    cases q : H b with
    | none => exact .inl rfl
    | some u => exact .inr ⟨_, _, congrArg some (hH b u q).2.2⟩
  have rv := vals_ints hi
  have hsz : (ns.map V.int).length ≤ sizeLine := by rw [List.length_map]; exact hl
  have sq : SqL K H a (ns.map V.int) := by
    cases q : K.lookup a with
    | none => exact .inl (.inr ⟨L, if_pos ⟨rfl, q⟩⟩)
    | some o =>
      have e := kin a o q
      rw [ha] at e
      cases e
      exact .inr ⟨_, vs.toArray, _, q, rfl, rfl, rfl, by rw [List.size_toArray, hi.length]; exact hl, by simpa using rv⟩
  have hok : HOk P w H s.heap := fun b u z => by
    obtain ⟨rfl, _, rfl⟩ := hH b u z
    exact ⟨ha, hsz, vs, _, rv, ha⟩
  have base_of : ∀ {b : Addr} {o : Obj}, s.heap.get? b = some o → H b = none → (hidT s.heap H).get? b = some o := fun e n => hidT_get e n
  have other : ∀ {b : Addr} {o : Obj}, s.heap.get? b = some o → (∀ vs n, o.data ≠ .seq vs n) → H b = none := fun {b o} e d => by
    cases q : H b with
    | none => rfl
    | some u =>
      obtain ⟨rfl, _, _⟩ := hH b u q
      rw [ha] at e
      cases e
      exact absurd rfl (d _ _)
  have ns_of : ∀ {b : Addr} {m : Str → Option Value}, s.heap.Ns b m → (hidT s.heap H).Ns b m := fun {b m} ⟨o, es, ep, e, d, r⟩ => ⟨o, es, ep, base_of e (other e fun vs n z => (by rw [d] at z; cases z)), d, r⟩
  have kb : K.In (hidT s.heap H) := fun b o e => base_of (kin b o e) (by
    cases q : H b with
    | none => rfl
    | some u =>
      obtain ⟨rfl, z, _⟩ := hH b u q
      rw [z] at e
      cases e)
  have e0 : Env0 P w K mg (hidT s.heap H) callerA [] s H :=
    ⟨rfl, ⟨kb, ns_of hmg, ⟨mb, ns_of hmb, boot⟩, let ⟨mc, h1, h2⟩ := lim; ⟨mc, ns_of h1, h2⟩⟩, fun b o e => of_hidT e, Nat.le_of_eq (hidT_size _ _), trivial, fun b hb => (by cases hb), hok, .of_eq gens⟩
  refine codeAny_mono ((F _ kb (ns_of hmg)).run (us := [.ref a]) (vs := [.ref a]) hr e0 (bind s (.ref a)) (.cons rfl .nil) (hsp H only sq)) fun r s' got => ?_
  match r, got with
  | .error e, got => exact (hCX H e s' got).elim
  | .ok (.ret u), ⟨v, H', os, bare, un, hok', ru, qv⟩ =>
    have qv : v = .bl true := qv
    subst qv
    obtain rfl : u = Value.bool true := ru
    refine ⟨rfl, OldK.of_keep fun b o e => ?_, os, bare⟩
    cases q : H b with
    | none => exact un.keep b o e q (fun z => by cases z) (fun z => by cases z)
    | some u =>
      obtain ⟨rfl, _, rfl⟩ := hH b u q
      obtain ⟨e2, _⟩ := hok' b _ (un.frzs b L _ q)
      rw [ha] at e
      cases e
      exact e2
theorem walkX {l : PySem.W.OpenLaw} {n k : Nat} {q : Program} {loose : List Str} {XP : (Str → Option Value) → Heap → Prop} {YP : World → Heap → Prop} {d : DefRec} {CX : CXT} {x : Str}
    (h1 : l.most = some n) (h2 : n ≤ sizeLine) (h3 : d.params.defaults = []) (hr : RoomG k callerA)
    (F : ∀ (w : World) (mg : Str → Option Value) (fa : Addr) (h : Heap), YP w h → h.Ns mainGlobals mg → mg d.name = some (.ref fa) →
      ∃ (K : PySem.W.Frag) (fd : FuncData) (sp : Sp), K.In h ∧ (∀ (s : Shared) (u : Value), BindsTo s fd ⟨[u], []⟩ [(x, u)]) ∧
        (∀ (H : Hp) (a : Addr) (ns : List Int), ns.length ≤ n → Only H → SqL K H a (ns.map V.int) → sp [.ref a] H (fun v _ => v = .bl true) fun _ _ _ => False) ∧
        ∀ base : Heap, K.In base → base.Ns mainGlobals mg → FnG l.prog w K mg base CX k fa fd [x] sp)
    (hCX : ∀ (H : Hp) (s : Shared) (e : Value) (s' : Shared), CX [] H s (fun _ _ _ => False) e s' → False) : PySem.W.WalkO q loose XP YP l.row.toRowW d [] (fun f vs => PySem.call f vs) := by
  refine Att.attach_call h1 h3 fun w s₀ s₁ mg mb fa o pm cd doc a vs ns G Y ho hd hcd hmg hobj hints hlen hg => ?_
  obtain ⟨K, fd, sp, kx, bind, want, run⟩ := F w mg fa _ Y G.T.g hmg
  exact law_callX kx G.T.g G.T.b G.T.builtins G.T.nolimit hg hobj hints (Nat.le_trans hlen h2) hr run bind (fun H o s => want H a ns hlen o s) fun H e s' => hCX H s₁ e s'
end Dl
set_option Elab.async false
set_option maxRecDepth 100000
set_option linter.all false
set_option autoImplicit false
namespace Dl
open PySem L2
variable [TabF]
/-! ### contracts -/
abbrev Cn := List Rv → Option Nat → (Rv → Option Nat → Prop) → Prop
def dx0 (K : PySem.W.Frag) (am : Addr) (g : Option Nat) (F H : Hp) : Dx := ⟨K, g.map fun _ => am, F, unT H, fun _ _ _ _ _ => False⟩
def spD (K : PySem.W.Frag) (Pr : Cn) : Sp := fun vs H Q _ => ∃ am F rs g P, Le F H ∧ Tb0 K F H ∧ (∀ n, g = some n → F am = none ∧ GenAt F H am n) ∧ Rss (dx0 K am g F H) am F rs vs ∧ Pr rs g P ∧
  ∀ r g' am' F' v H', P r g' → Le F F' → Fin (dx0 K am g F H) am' F' H' g' → Sl (dx0 K am g F H) am' F' H' r v → Q v H'
structure CalD (P : Program) (w : World) (K : PySem.W.Frag) (mg : Str → Option Value) (base : Heap) (k : Nat) (x : Str) (Pr : Cn) : Prop where
  ex : ∃ (f : Addr) (fd : FuncData) (ps : List Str), FnG P w K mg base CX0 k f fd ps (spD K Pr) ∧ mg x = some (.ref f) ∧ PySem.W.keepIn K (.ref f) = true ∧ Binds K fd ps []
theorem Rss.to {Δ Δ' : Dx} {am am' : Addr} {F : Hp} (hk : Δ.K = Δ'.K) : ∀ {rs : List Rv} {vs : List V}, (Rv.gen ∈ rs → am = am') → Rss Δ am F rs vs → Rss Δ' am' F rs vs
  | _, _, _, .nil => .nil
  | _, _, h, .d a b => .d a (Rss.to hk (fun z => h (List.mem_cons_of_mem _ z)) b)
  | _, _, h, .gen b => by
    have e := h List.mem_cons_self
    subst e
    exact .gen (Rss.to hk (fun _ => rfl) b)
  | _, _, h, .scr a b => .scr (hk ▸ a) (Rss.to hk (fun z => h (List.mem_cons_of_mem _ z)) b)
section
variable {X : Cx} {Δ : Dx} {a b e : Expr} {fa fb fc : WE} {pos : Pos} {es : List Expr} {fr : WA}
/-- behind a call: g the state that was handed over (none: it was not) -/
theorem Ok.back {am : Addr} {F : Hp} {σ : St} {H : Hp} {c : Cf} (k : Ok Δ am F σ H c) {g g' : Option Nat} {am' : Addr} {F' H' : Hp} {r : Rv} {v : V} (hg : g = none ∨ g = c.g) (l : Le F F')
    (fn : Fin (dx0 Δ.K am g F H) am' F' H' g') (s : Sl (dx0 Δ.K am g F H) am' F' H' r v) (ng : r ≠ .gen) :
    Ok Δ am F' σ H' { c with g := if g.isSome then g' else c.g } ∧ Rs Δ am F' σ H' { c with g := if g.isSome then g' else c.g } r v := by
  have pr : ∀ b o, H b = some o → b ≠ am ∨ g = none → (∀ ps, o ≠ .tbl ps) → H' b = some o := fun b o e h nt => fn.pr b o (unT_to e nt) (by
    cases g with
    | none => exact fun z => nomatch z
    | some n =>
      rcases h with h | h
      · intro z
        have z' : some am = some b := z
        cases z'
        exact h rfl
      · cases h)
  have own : ∀ a vs, H a = some (.lst vs) → H' a = some (.lst vs) := fun a vs e => by
    cases g with
    | none => exact pr a _ e (.inr rfl) lst_ok.1
    | some n =>
      rcases hg with h | h
      · cases h
      · exact pr a _ e (.inl ((k.gn n h.symm).2.2.ne e)) lst_ok.1
  have fr : ∀ b, F' b ≠ none → F b ≠ none ∨ unT H b = none := fn.fr
  have nf : ∀ b o, H b = some o → F b = none → (∀ ps, o ≠ .tbl ps) → F' b = none := fun b o e n nt => by
    cases q : F' b with
    | none => rfl
    | some u =>
      rcases fr b (by rw [q]; exact fun z => nomatch z) with z | z
      · exact absurd n z
      · rw [unT_to e nt] at z; cases z
  have new : ∀ b, unT H b = none → Δ.H0 b = none := fun b e => by
    rcases unT_none e with e | ⟨ps, e⟩
    · exact k.new e
    · cases q : Δ.H0 b with
      | none => rfl
      | some o =>
        by_cases na : Δ.a0 = some b
        · obtain ⟨⟨u, h1, h2⟩, _⟩ := k.al b na
          rw [e] at h1
          exact absurd (Option.some.inj h1).symm (h2 ps)
        · have h1 := k.pr b o q na
          rw [e] at h1
          rw [← Option.some.inj h1] at q
          exact absurd q (k.tb.2.2 b ps)
  have gnew : ∀ n, (if g.isSome then g' else c.g) = some n → (Δ.a0 = some am ∨ (Δ.a0 = none ∧ Δ.H0 am = none)) ∧ F' am = none ∧ GenAt F' H' am n := fun n e => by
    cases g with
    | none =>
      have e : c.g = some n := e
      obtain ⟨h1, h2, h3⟩ := k.gn n e
      obtain ⟨left, sd, sp, ac, ns, h4, h5, h6⟩ := id h3
      exact ⟨h1, nf _ _ h4 h2 dK_ok.1, left, sd, sp, ac, ns, pr _ _ h4 (.inr rfl) dK_ok.1, l _ _ h5, h6⟩
    | some m =>
      have e : g' = some n := e
      have hc : c.g = some m := by
        rcases hg with h | h
        · cases h
        · exact h.symm
      obtain ⟨h1, h2, h3⟩ := k.gn m hc
      obtain ⟨h4, h5, h6⟩ := fn.gn n e
      have ea : am = am' := by
        rcases h4 with z | z
        · have z' : some am = some am' := z
          cases z'; rfl
        · have z' : (some am : Option Addr) = none := z.1
          cases z'
      subst ea
      exact ⟨h1, h5, h6⟩
  have hpr : ∀ b o, Δ.H0 b = some o → Δ.a0 ≠ some b → H' b = some o := by
    intro b o e n
    refine fn.pr b o (unT_to (k.pr b o e n) fun ps z => k.tb.2.2 b ps (z ▸ e)) ?_
    cases g with
    | none => exact fun z => nomatch z
    | some m =>
      intro z
      have z' : some am = some b := z
      cases z'
      have hc : c.g = some m := by
        rcases hg with h | h
        · cases h
        · exact h.symm
      rcases (k.gn m hc).1 with q | q
      · exact n q
      · rw [q.2] at e
        cases e
  have hal : ∀ b, Δ.a0 = some b → Lv H' b ∧ Δ.H0 b ≠ none := by
    intro b e
    refine ⟨?_, (k.al b e).2⟩
    obtain ⟨⟨o, q, nt⟩, _⟩ := k.al b e
    cases g with
    | none => exact ⟨o, pr b o q (.inr rfl) nt, nt⟩
    | some m =>
      by_cases z : b = am
      · subst z
        exact (fn.al b rfl).1
      · exact ⟨o, pr b o q (.inl z) nt, nt⟩
  have hsv : ∀ (i : Nat) (r' : Rv), c.env[i]? = some (some r') → ∃ v, σ[i]? = some (some v) ∧ Sl Δ am F' H' r' v := by
    intro i r' e
    obtain ⟨w, h1, h2⟩ := k.sv i r' e
    refine ⟨w, h1, ?_⟩
    cases r' with
    | d x => exact Rp.mono l h2
    | gen => exact h2
    | scr ns =>
      obtain ⟨a, e1, e2⟩ := h2
      exact ⟨a, e1, sq_le l e2⟩
    | own xs =>
      obtain ⟨a, vs, e1, e2, e3, e4, e5⟩ := h2
      exact ⟨a, vs, e1, own a vs e2, nf a _ e2 e3 lst_ok.1, e4, e5.mono l⟩
    | dic D =>
      obtain ⟨a, o, e1, e2, e3, e4, e5⟩ := h2
      refine ⟨a, o, e1, ?_, nf a _ e2 e3 e5.ntbl, e4, e5.mono l⟩
      cases g with
      | none => exact pr a _ e2 (.inr rfl) e5.ntbl
      | some n =>
        rcases hg with h | h
        · cases h
        · exact pr a _ e2 (.inl ((k.gn n h.symm).2.2.neD e2 e5)) e5.ntbl
  have o' : Ok Δ am F' σ H' { c with g := if g.isSome then g' else c.g } :=
    ⟨fn.fh, k.f0.trans l, fun b e => (fr b e).elim (fun z => k.fr b z) fun z => .inr (new b z), ⟨fn.tb.1, fn.tb.2.1, k.tb.2.2⟩, hpr, hal, gnew, k.len, hsv, k.di⟩
  refine ⟨o', ?_⟩
  cases r with
  | d x => exact .of s
  | gen => exact absurd rfl ng
  | scr ns => exact ⟨s, fun z => z.elim⟩
  | dic D =>
    obtain ⟨p, vs, e1, e2, e3, e4, e5⟩ := s
    have e4 : unT H p = none := e4
    refine ⟨⟨p, vs, e1, e2, e3, new p e4, e5⟩, fun _ i zs e mu z => ?_⟩
    subst e1
    obtain ⟨w, h1, s1⟩ := k.sv i _ e
    obtain ⟨a, ws, q1, q2, q3⟩ := s1.atN mu
    subst q1
    rw [z] at h1
    cases h1
    rw [unT_to q2 q3] at e4; cases e4
  | own xs =>
    obtain ⟨p, vs, e1, e2, e3, e4, e5⟩ := s
    have e4 : unT H p = none := e4
    refine ⟨⟨p, vs, e1, e2, e3, new p e4, e5⟩, fun _ i zs e mu z => ?_⟩
    subst e1
    obtain ⟨w, h1, s1⟩ := k.sv i _ e
    obtain ⟨a, ws, q1, q2, q3⟩ := s1.atN mu
    subst q1
    rw [z] at h1
    cases h1
    rw [unT_to q2 q3] at e4; cases e4
/-- f(..), a def by its contract; the drawing state is handed over, or not -/
def eCallP (Pr : Cn) (f : WA) : WE := fun c P X => f c (fun rs c1 => Rv.gen ∉ rs ∧ Pr rs none fun r _ => r ≠ .gen ∧ P r c1) X
def eCallG (Pr : Cn) (f : WA) : WE := fun c P X => f c (fun rs c1 => c1.g.isSome = true ∧ Pr rs c1.g fun r g' => r ≠ .gen ∧ P r { c1 with g := g' }) X
section
variable {k : Nat} {x : Str} {p : Pos} {Pr : Cn}
theorem de_callP (C : CalD X.prog X.w X.K X.mg X.base k x Pr) (hK : Δ.K = X.K) (hr : RoomG k X.A) (hg : Gl X x) (ha : PA X (e :: es) (tA Δ fr)) (hdb : (x == ("__debug__" : Str)) = false := by decide)
    (he : starEach (e :: es) X.env = (false, eval e X.env) :: starEach es X.env := by rfl) (hpl : (backTo pos (starEach es X.env)).any (·.1) = false := by rfl) :
    PE X (.Call (.Name x p) (e :: es) [] pos) (tE Δ (eCallP Pr fr)) := by
  obtain ⟨f, fd, ps, h1, h2, h3, h4⟩ := C.ex
  refine (pe_callX h1 hr hg h2 h3 h4 pass0 ha hdb he hpl).imp fun σ H Q ⟨am, F, c, P, XX, ok, hf, kq, kx⟩ => ?_
  refine ⟨am, F, c, _, XX, ok, hf, fun rs c1 F1 vs H1 p1 l1 o1 s1 => ?_, kx⟩
  show spD X.K Pr (vs ++ []) H1 Q E0
  rw [List.append_nil]
  refine ⟨am, F1, rs, none, _, o1.fh, o1.tbs hK, fun n z => (nomatch z), s1.to hK (fun _ => rfl), p1.2, fun r g' am' F' v H' pr l fn s => ?_⟩
  obtain ⟨o', s'⟩ := o1.back (g := none) (.inl rfl) l (hK ▸ fn) (hK ▸ s) pr.1
  exact kq r c1 F' v H' pr.2 (l1.trans l) o' s'
theorem de_callG (C : CalD X.prog X.w X.K X.mg X.base k x Pr) (hK : Δ.K = X.K) (hr : RoomG k X.A) (hg : Gl X x) (ha : PA X (e :: es) (tA Δ fr)) (hdb : (x == ("__debug__" : Str)) = false := by decide)
    (he : starEach (e :: es) X.env = (false, eval e X.env) :: starEach es X.env := by rfl) (hpl : (backTo pos (starEach es X.env)).any (·.1) = false := by rfl) :
    PE X (.Call (.Name x p) (e :: es) [] pos) (tE Δ (eCallG Pr fr)) := by
  obtain ⟨f, fd, ps, h1, h2, h3, h4⟩ := C.ex
  refine (pe_callX h1 hr hg h2 h3 h4 pass0 ha hdb he hpl).imp fun σ H Q ⟨am, F, c, P, XX, ok, hf, kq, kx⟩ => ?_
  refine ⟨am, F, c, _, XX, ok, hf, fun rs c1 F1 vs H1 p1 l1 o1 s1 => ?_, kx⟩
  show spD X.K Pr (vs ++ []) H1 Q E0
  rw [List.append_nil]
  refine ⟨am, F1, rs, c1.g, _, o1.fh, o1.tbs hK, fun n z => (o1.gn n z).2, s1.to hK (fun _ => rfl), p1.2, fun r g' am' F' v H' pr l fn s => ?_⟩
  obtain ⟨o', s'⟩ := o1.back (g := c1.g) (.inr rfl) l (hK ▸ fn) (hK ▸ s) pr.1
  rw [if_pos p1.1] at o' s'
  exact kq r _ F' v H' pr.2 (l1.trans l) o' s'
end
end
/-! ### a def's body -/
def startC (n : Nat) (rs : List Rv) (g : Option Nat) : Cf := ⟨rs.map some ++ List.replicate (n - rs.length) none, g⟩
theorem Rss.length {Δ : Dx} {am : Addr} {F : Hp} : ∀ {rs : List Rv} {vs : List V}, Rss Δ am F rs vs → rs.length = vs.length
  | _, _, .nil => rfl
  | _, _, .d _ r => congrArg (· + 1) r.length
  | _, _, .gen r => congrArg (· + 1) r.length
  | _, _, .scr _ r => congrArg (· + 1) r.length
theorem Rss.get {Δ : Dx} {am : Addr} {F H : Hp} : ∀ {rs : List Rv} {vs : List V} {i : Nat} {r : Rv}, Rss Δ am F rs vs → rs[i]? = some r → ∃ v, vs[i]? = some v ∧ Sl Δ am F H r v ∧ ¬ r.mu
  | _, _, _, _, .nil, h => by simp at h
  | _, _, 0, _, .d a _, h => by simp at h; subst h; exact ⟨_, rfl, a, fun z => z.elim⟩
  | _, _, 0, _, .gen _, h => by simp at h; subst h; exact ⟨_, rfl, rfl, fun z => z.elim⟩
  | _, _, 0, _, .scr a _, h => by simp at h; subst h; exact ⟨_, rfl, ⟨_, rfl, a⟩, fun z => z.elim⟩
  | _, _, i + 1, _, .d _ b, h => by
    obtain ⟨v, e, q⟩ := Rss.get (i := i) (H := H) b (by simpa using h)
    exact ⟨v, by simpa using e, q⟩
  | _, _, i + 1, _, .gen b, h => by
    obtain ⟨v, e, q⟩ := Rss.get (i := i) (H := H) b (by simpa using h)
    exact ⟨v, by simpa using e, q⟩
  | _, _, i + 1, _, .scr _ b, h => by
    obtain ⟨v, e, q⟩ := Rss.get (i := i) (H := H) b (by simpa using h)
    exact ⟨v, by simpa using e, q⟩
theorem start_get {n : Nat} {rs : List Rv} {g : Option Nat} {i : Nat} {r : Rv} (h : (startC n rs g).env[i]? = some (some r)) : rs[i]? = some r := by
  unfold startC at h
  by_cases hi : i < rs.length
  · rw [List.getElem?_append_left (by simpa using hi), List.getElem?_map] at h
    cases e : rs[i]? with
    | none => rw [e] at h; cases h
    | some x => rw [e] at h; cases h; rfl
  · rw [List.getElem?_append_right (by simpa using hi), List.getElem?_replicate] at h
    split at h <;> cases h
theorem start_ok {K : PySem.W.Frag} {am : Addr} {F H : Hp} {g : Option Nat} {rs : List Rv} {vs : List V} {N : List Str} (fh : Le F H) (tb : Tb0 K F H) (gn : ∀ n, g = some n → F am = none ∧ GenAt F H am n) (s : Rss (dx0 K am g F H) am F rs vs) :
    Ok (dx0 K am g F H) am F (L2.start N vs) H (startC N.length rs g) where
  fh := fh
  f0 := Le.refl F
  fr := fun a h => .inl h
  tb := ⟨tb.1, tb.2, unT_not H⟩
  pr := fun a o e _ => unT_of e
  al := fun a e => by
    cases g with
    | none => cases e
    | some n =>
      have e' : some am = some a := e
      cases e'
      obtain ⟨_, _, _, _, _, e1, _⟩ := (gn n rfl).2
      have lv : Lv H am := ⟨_, e1, dK_ok.1⟩
      exact ⟨lv, lv.un⟩
  gn := fun n e => by
    have e' : g = some n := e
    subst e'
    exact ⟨.inl rfl, gn n rfl⟩
  len := by
    unfold L2.start startC
    simp only [List.length_append, List.length_map, List.length_replicate, s.length]
  sv := fun i r e => by
    obtain ⟨v, h1, h2, _⟩ := s.get (H := H) (start_get e)
    refine ⟨v, ?_, h2⟩
    unfold L2.start
    have hi : i < vs.length := (List.getElem?_eq_some_iff.mp h1).1
    rw [List.getElem?_append_left (by simpa using hi), List.getElem?_map, h1]
    rfl
  di := fun i j r r' _ e _ mu _ => by
    obtain ⟨v, _, _, h⟩ := s.get (H := H) (start_get e)
    exact absurd mu h
def endP (P : Rv → Option Nat → Prop) : Fl → Prop := fun fl => match fl with
  | .nx c => P (.d .none) c.g
  | .rt r g => P r g
  | .bk _ => False
  | .ct _ => False
section
variable {P : Program} {w : World} {K : PySem.W.Frag} {mg : Str → Option Value} {base : Heap}
/-- THE RULE for a def -/
theorem def_ok {x qual : Str} {st : Stmt} {f : Addr} {fd : FuncData} {N ps : List Str} {k : Nat} {Pr : Cn} (nog : Bool) (F : FunD K x qual (defArgs st) (defBody st) (defScope st) [] [] f fd) (S : FnScope N ps (defScope st)) (hmg : mg x = some (.ref f)) (bi : Binds K fd ps [])
    (fw : WS) (len : ∀ rs g Q, Pr rs g Q → rs.length = ps.length) (hn : nog = true → ∀ rs g Q, Pr rs g Q → g = none) (spec : ∀ rs g Q, Pr rs g Q → fw (startC N.length rs g) (endP Q) fun _ _ => False)
    (hbody : ∀ (cdv : Value) (A : Around) (outer : List Env) (s : Shared) (H : Hp) (E : XK) (Δ : Dx), RoomG k (A.deeper (PyProof.Rows.envOfC qual (defScope st) s.heap.objs.size f cdv)) → Δ.K = K → (nog = true → Δ.a0 = none) →
      PSs (cxOf CX0 P w K mg base N qual (defScope st) f cdv A outer s H E).nox (defBody st) (tS Δ fw)) : CalD P w K mg base (k + 1) x Pr := by
  refine ⟨f, fd, ps, fnG_of F S (fun vs H Q E h => ?_) (fun cdv A outer s H vs Q E hr h => ?_), hmg, F.kp, bi⟩
  · obtain ⟨am, G, rs, g, q, _, _, _, h3, h4, _⟩ := h
    rw [← h3.length]
    exact len rs g q h4
  · obtain ⟨am, G, rs, g, q, h1, ht, h2, h3, h4, h5⟩ := h
    refine ⟨_, PSs.nox (hbody cdv A outer s H E (dx0 K am g G H) hr rfl (fun z => by rw [hn z rs g q h4]; rfl)), am, G, _, _, _, start_ok h1 ht h2 h3, spec rs g q h4, ⟨fun c am' F' σ' H' p l o => ?_, fun _ _ _ _ _ z => z.elim, fun _ _ _ _ _ z => z.elim, fun r g' am' F' H' v p l fn s => ?_⟩, fun _ _ _ _ _ z => z.elim⟩
    · exact h5 _ _ am' F' _ H' p l o.fin .non
    · exact h5 r g' am' F' v H' p l fn s
end
end Dl
set_option Elab.async false
set_option maxRecDepth 100000
set_option linter.all false
set_option autoImplicit false
namespace Dl
open PySem L2
variable [TabF]
section
variable {X : Cx} {Δ : Dx} {a b e : Expr} {fa fb fc : WE} {pos : Pos} {es : List Expr} {fr : WA}
/-! ### what is gone through -/
/-- turn i over xs: its value stands over F, or is a new tuple -/
def YD (F : Hp) (xs : List Px) : Nat → Hp → V → Hp → Prop := fun i H v H' => ∃ x, xs[i]? = some x ∧
  ((H' = H ∧ Rp F v x) ∨ ∃ T vs ds, v = .ref T ∧ H T = none ∧ H' = upd H T (.tup vs) ∧ x = .tuple ds ∧ RpA F vs ds)
abbrev WalkX (J : It) (xs : List Px) (F : Hp) : Prop := L2.Walk J xs.length (fun H => Le F H) (YD F xs)
def tI (Δ : Dx) (f : WI) : TI := fun σ H R => ∃ am F c P X, Ok Δ am F σ H c ∧ f c P X ∧
  (∀ xs c' F' H' J, P xs c' → Le F F' → Ok Δ am F' σ H' c' → WalkX J xs F' → R J H') ∧ KX Δ am F X
def asL (r : Rv) (k : List Px → Prop) : Prop := asD r fun x => match x with
  | .list xs => k xs
  | _ => False
def asT (r : Rv) (k : List Px → Prop) : Prop := asD r fun x => match x with
  | .tuple xs => k xs
  | _ => False
def iLst (f : WE) : WI := fun c P X => f c (fun r c1 => asL r fun xs => P xs c1) X
def iTpl (f : WE) : WI := fun c P X => f c (fun r c1 => asT r fun xs => P xs c1) X
theorem asL_of {am : Addr} {F : Hp} {σ : St} {H : Hp} {c : Cf} {r : Rv} {v : V} {q : List Px → Prop} (o : Ok Δ am F σ H c) (s : Rs Δ am F σ H c r v) (h : asL r q) :
    ∃ a vs xs F', v = .ref a ∧ q xs ∧ Le F F' ∧ Ok Δ am F' σ H c ∧ F' a = some (.lst vs) ∧ RpA F' vs xs := by
  obtain ⟨x, F', hx, l, o', rp⟩ := s.data o h
  split at hx
  · cases rp with
    | lst e r1 => exact ⟨_, _, _, F', rfl, hx, l, o', e, r1⟩
  · exact hx.elim
theorem asT_of {am : Addr} {F : Hp} {σ : St} {H : Hp} {c : Cf} {r : Rv} {v : V} {q : List Px → Prop} (o : Ok Δ am F σ H c) (s : Rs Δ am F σ H c r v) (h : asT r q) :
    ∃ a vs xs F', v = .ref a ∧ q xs ∧ Le F F' ∧ Ok Δ am F' σ H c ∧ TupF F' a vs ∧ RpA F' vs xs := by
  obtain ⟨x, F', hx, l, o', rp⟩ := s.data o h
  split at hx
  · cases rp with
    | tup e r1 => exact ⟨_, _, _, F', rfl, hx, l, o', e, r1⟩
  · exact hx.elim
theorem y_at {F : Hp} {vs : List V} {xs : List Px} (r : RpA F vs xs) : ∀ (i : Nat) (H : Hp) (v : V) (H' : Hp), YAt vs i H v H' → YD F xs i H v H' := fun i H v H' ⟨e1, e2⟩ => by
  obtain ⟨x, h1, h2⟩ := r.getV e2
  exact ⟨x, h1, .inl ⟨e1, h2⟩⟩
theorem walk_l {K : PySem.W.Frag} {F : Hp} {a : Addr} {vs : List V} {xs : List Px} (e : F a = some (.lst vs)) (r : RpA F vs xs) : WalkX (Itl K a) xs F := by
  have w : L2.Walk (Itl K a) vs.length (fun H => SqL K H a vs) (YAt vs) := walk_list
  rw [r.length] at w
  exact w.mono (fun H h => SqL.of (h _ _ e)) fun i H v H' _ _ y => y_at r i H v H' y
theorem walk_t {K : PySem.W.Frag} {F : Hp} {a : Addr} {vs : List V} {xs : List Px} (e : TupF F a vs) (r : RpA F vs xs) (hk : K = TabF.K := by first | rfl | assumption) : WalkX (Itt K a) xs F := by
  have w : L2.Walk (Itt K a) vs.length (fun H => SqT K H a vs) (YAt vs) := walk_tup
  rw [r.length] at w
  exact w.mono (fun H h => e.sq hk h) fun i H v H' _ _ y => y_at r i H v H' y
section
variable {tg : Expr}
theorem di_l (ha : PE X a (tE Δ fa)) : PI X tg a (tI Δ (iLst fa)) := by
  refine (pi_list ha).imp fun σ H R ⟨am, F, c, P, XX, ok, hf, kq, kx⟩ => ?_
  refine ⟨am, F, c, _, XX, ok, hf, fun r1 c1 F1 v1 H1 p1 l1 o1 s1 => ?_, kx⟩
  obtain ⟨b, vs, xs, F', e1, hx, l, o', e2, r⟩ := asL_of o1 s1 p1
  exact ⟨b, e1, ⟨vs, SqL.of (o'.fh _ _ e2)⟩, kq xs c1 F' H1 _ hx (l1.trans l) o' (walk_l e2 r)⟩
theorem di_t (ha : PE X a (tE Δ fa)) (hk : X.K = TabF.K := by first | rfl | assumption) : PI X tg a (tI Δ (iTpl fa)) := by
  refine (pi_tup ha).imp fun σ H R ⟨am, F, c, P, XX, ok, hf, kq, kx⟩ => ?_
  refine ⟨am, F, c, _, XX, ok, hf, fun r1 c1 F1 v1 H1 p1 l1 o1 s1 => ?_, kx⟩
  obtain ⟨b, vs, xs, F', e1, hx, l, o', e2, r⟩ := asT_of o1 s1 p1
  exact ⟨b, e1, ⟨vs, e2.sq hk o'.fh⟩, kq xs c1 F' H1 _ hx (l1.trans l) o' (walk_t e2 r)⟩
/-- lo, lo + 1, .. -/
def rngX (lo : Int) : Nat → List Px
  | 0 => []
  | n + 1 => .int lo :: rngX (lo + 1) n
theorem rngX_length : ∀ (lo : Int) (n : Nat), (rngX lo n).length = n
  | _, 0 => rfl
  | lo, n + 1 => congrArg (· + 1) (rngX_length (lo + 1) n)
theorem rngX_get : ∀ (n : Nat) (lo : Int) (i : Nat), i < n → (rngX lo n)[i]? = some (.int (lo + i))
  | n + 1, lo, 0, _ => by simp [rngX]
  | n + 1, lo, i + 1, h => by
    show (rngX (lo + 1) n)[i]? = _
    rw [rngX_get n (lo + 1) i (by omega)]
    rw [show lo + 1 + (i : Int) = lo + ((i + 1 : Nat) : Int) by omega]
theorem walk_r {F : Hp} (lo : Int) (n : Nat) : WalkX (Itr lo n) (rngX lo n) F := by
  have w : L2.Walk (Itr lo n) n (fun _ => True) (YFn fun i => .int (lo + i)) := walk_range
  have w' := w.mono (G' := fun H => Le F H) (Y' := YD F (rngX lo n)) (fun _ _ => True.intro) fun i H v H' hi _ ⟨y1, y2⟩ => ⟨.int (lo + i), rngX_get n lo i hi, .inl ⟨y1, by rw [y2]; exact .int _⟩⟩
  have e := rngX_length lo n
  unfold WalkX
  rw [e]
  exact w'
def smI (i : Int) : Prop := -(2 ^ 62) ≤ i ∧ i < 2 ^ 62
def iRg1 (f : WA) : WI := fun c P X => f c (fun rs c1 => match rs with
  | [.d (.int j)] => smI j ∧ P (rngX 0 j.toNat) c1
  | _ => False) X
def iRg2 (f : WA) : WI := fun c P X => f c (fun rs c1 => match rs with
  | [.d (.int i), .d (.int j)] => smI i ∧ smI j ∧ P (rngX i (j - i).toNat) c1
  | _ => False) X
theorem di_r1 {p : Pos} (hg : Gl X "range") (hm : X.mg "range" = none) (ha : PA X [a] (tA Δ fr)) (hs : starEach [a] X.env = [(false, eval a X.env)] := by rfl) : PI X tg (.Call (.Name "range" p) [a] [] pos) (tI Δ (iRg1 fr)) := by
  refine (pi_range1 hg hm ha hs).imp fun σ H R ⟨am, F, c, P, XX, ok, hf, kq, kx⟩ => ?_
  refine ⟨am, F, c, _, XX, ok, hf, fun rs c1 F1 vs H1 p1 l1 o1 s1 => ?_, kx⟩
  split at p1
  · cases s1 with
    | d r s =>
      cases s
      cases r
      exact ⟨_, rfl, p1.1.1, p1.1.2, kq _ c1 F1 H1 _ p1.2 l1 o1 (walk_r 0 _)⟩
  · exact p1.elim
def enumX (n : Int) : List Px → List Px
  | [] => []
  | x :: xs => .tuple [.int n, x] :: enumX (n + 1) xs
theorem enumX_length : ∀ (n : Int) (xs : List Px), (enumX n xs).length = xs.length
  | _, [] => rfl
  | n, x :: xs => congrArg (· + 1) (enumX_length (n + 1) xs)
theorem enumX_get : ∀ (xs : List Px) (n : Int) (i : Nat) (x : Px), xs[i]? = some x → (enumX n xs)[i]? = some (.tuple [.int (n + i), x])
  | [], _, _, _, h => by simp at h
  | y :: xs, n, 0, x, h => by simp at h; subst h; simp [enumX]
  | y :: xs, n, i + 1, x, h => by
    show (enumX (n + 1) xs)[i]? = _
    rw [enumX_get xs (n + 1) i x (by simpa using h)]
    rw [show n + 1 + (i : Int) = n + ((i + 1 : Nat) : Int) by omega]
def iEnm (f : WA) : WI := fun c P X => f c (fun rs c1 => match rs with
  | [.d (.list xs)] => P (enumX 0 xs) c1
  | _ => False) X
def zipX : List Px → List Px → List Px
  | x :: xs, y :: ys => .tuple [x, y] :: zipX xs ys
  | _, _ => []
theorem zipX_length : ∀ xs ys : List Px, (zipX xs ys).length = min xs.length ys.length
  | [], ys => by cases ys <;> simp [zipX]
  | x :: xs, [] => by simp [zipX]
  | x :: xs, y :: ys => by simp [zipX, zipX_length xs ys]
theorem zipX_get : ∀ (xs ys : List Px) (i : Nat) (x y : Px), xs[i]? = some x → ys[i]? = some y → (zipX xs ys)[i]? = some (.tuple [x, y])
  | [], _, _, _, _, h, _ => by simp at h
  | _ :: _, [], _, _, _, _, h => by simp at h
  | a :: xs, b :: ys, 0, x, y, h, h' => by simp at h h'; subst h h'; simp [zipX]
  | a :: xs, b :: ys, i + 1, x, y, h, h' => by
    show (zipX xs ys)[i]? = _
    exact zipX_get xs ys i x y (by simpa using h) (by simpa using h')
theorem walk_z {K : PySem.W.Frag} {F : Hp} {a b : Addr} {vs ws : List V} {xs ys : List Px} (e : F a = some (.lst vs)) (r : RpA F vs xs) (e' : F b = some (.lst ws)) (r' : RpA F ws ys) : WalkX (Itz K a b) (zipX xs ys) F := by
  have w : L2.Walk (Itz K a b) (min vs.length ws.length) (fun H => SqL K H a vs ∧ SqL K H b ws) (YPair (fun i => vs[i]?) (fun i => ws[i]?)) := walk_zip rfl
  have w' := w.mono (G' := fun H => Le F H) (Y' := YD F (zipX xs ys)) (fun H h => ⟨SqL.of (h _ _ e), SqL.of (h _ _ e')⟩) fun i H v H' hi _ ⟨T, y, z, h1, h2, h3, h4, h5⟩ => by
    obtain ⟨x, q1, q2⟩ := r.getV h4
    obtain ⟨x', q1', q2'⟩ := r'.getV h5
    exact ⟨_, zipX_get xs ys i x x' q1 q1', .inr ⟨T, _, _, h1, h2, h3, rfl, .cons q2 (.one q2')⟩⟩
  have el := zipX_length xs ys
  unfold WalkX
  rw [el, ← r.length, ← r'.length]
  exact w'
def iZp (f : WA) : WI := fun c P X => f c (fun rs c1 => match rs with
  | [.d (.list xs), .d (.list ys)] => P (zipX xs ys) c1
  | _ => False) X
theorem di_z {p tpos : Pos} {elts : List Expr} {kk : Nat} (hg : Gl X "zip") (hm : X.mg "zip" = none) (ha : PA X [a, b] (tA Δ fr)) (hs : starEach [a, b] X.env = (false, eval a X.env) :: starEach [b] X.env := by rfl) (hs2 : (backTo pos (starEach [b] X.env)).any (·.1) = false := by rfl) :
    PI X (.Tuple elts kk tpos) (.Call (.Name "zip" p) [a, b] [] pos) (tI Δ (iZp fr)) := by
  refine (pi_zip hg hm ha hs hs2).imp fun σ H R ⟨am, F, c, P, XX, ok, hf, kq, kx⟩ => ?_
  refine ⟨am, F, c, _, XX, ok, hf, fun rs c1 F1 vs H1 p1 l1 o1 s1 => ?_, kx⟩
  split at p1
  · cases s1 with
    | d r s =>
      cases s with
      | d r' s =>
        cases s
        cases r with
        | lst e r1 =>
          cases r' with
          | lst e' r1' => exact ⟨_, _, _, _, rfl, SqL.of (o1.fh _ _ e), SqL.of (o1.fh _ _ e'), kq _ c1 F1 H1 _ p1 l1 o1 (walk_z e r1 e' r1')⟩
  · exact p1.elim
end
/-! ### targets -/
/-- the result at name i -/
def gN (i : Nat) : WG := fun r c P => i < c.env.length ∧ P { c with env := c.env.set i (some r) }
theorem Ok.put {am : Addr} {F : Hp} {σ : St} {H : Hp} {c : Cf} (k : Ok Δ am F σ H c) {r : Rv} {v : V} (s : Rs Δ am F σ H c r v) (i : Nat) :
    Ok Δ am F (σ.set i (some v)) H { c with env := c.env.set i (some r) } := by
  have hl : ((σ.set i (some v)).length) = (c.env.set i (some r)).length := by simpa using k.len
  refine ⟨k.fh, k.f0, k.fr, k.tb, k.pr, k.al, k.gn, hl, fun j q e => ?_, fun j l ys zs n p q my mz => ?_⟩
  · rw [env_get] at e
    split at e
    · rename_i z
      cases e
      refine ⟨v, ?_, s.1⟩
      rw [St.set_get, if_pos ⟨z.1, by rw [k.len]; exact z.2⟩]
    · rename_i z
      obtain ⟨w, h1, h2⟩ := k.sv j q e
      refine ⟨w, ?_, h2⟩
      rw [St.set_get, if_neg (fun y => z ⟨y.1, by rw [← k.len]; exact y.2⟩)]
      exact h1
  · rw [env_get] at p q
    rw [St.set_get, St.set_get]
    have lw : σ.length = c.env.length := k.len
    by_cases hj : j = i ∧ i < c.env.length
    · by_cases hq : l = i ∧ i < c.env.length
      · exact absurd (hj.1.trans hq.1.symm) n
      · rw [if_pos hj] at p
        rw [if_neg hq] at q
        rw [if_pos (by rw [lw]; exact hj), if_neg (by rw [lw]; exact hq)]
        cases p
        exact (s.2 my l zs q mz).symm
    · by_cases hq : l = i ∧ i < c.env.length
      · rw [if_neg hj] at p
        rw [if_pos hq] at q
        rw [if_neg (by rw [lw]; exact hj), if_pos (by rw [lw]; exact hq)]
        cases q
        exact s.2 mz j ys p my
      · rw [if_neg hj] at p
        rw [if_neg hq] at q
        rw [if_neg (by rw [lw]; exact hj), if_neg (by rw [lw]; exact hq)]
        exact k.di j l ys zs n p q my mz
theorem Tch.one (σ : St) (i : Nat) (o : Option V) : Tch [i] σ (σ.set i o) := ⟨List.length_set, fun j h => List.getElem?_set_ne (fun e => h (by rw [e]; exact List.mem_singleton.mpr rfl))⟩
theorem Tch.refl (σ : St) (ws : List Nat) : Tch ws σ σ := ⟨rfl, fun _ _ => rfl⟩
theorem Tch.app {ws us : List Nat} {σ σ' σ'' : St} (h : Tch ws σ σ') (k : Tch us σ' σ'') : Tch (ws ++ us) σ σ'' := ⟨k.1.trans h.1, fun i n => by
  simp only [List.mem_append, not_or] at n
  exact (k.2 i n.2).trans (h.2 i n.1)⟩
theorem dg_name (i : Nat) {x : Str} (hN : X.N.Nodup) (hi : X.N[i]? = some x := by rfl) (hx : Loc X.env.scope x := by first | exact Or.inl rfl | exact Or.inr rfl)
    (hf : X.fn x = true ∨ X.env.scope.names.lookup x = some .local := by first | exact .inl rfl | exact .inr rfl) : PG X (.Name x pos) (tG Δ [i] (gN i)) :=
  (pg_name hN hi hx hf).imp fun v σ H Q ⟨am, F, c, r, P, ok, s, h, kq⟩ => kq _ F _ H h.2 (Le.refl F) (ok.put s i) (.one σ i _)
abbrev WGs := List Px → Cf → (Cf → Prop) → Prop
def tGs (Δ : Dx) (ws : List Nat) (f : WGs) : TGs := fun vs σ H Q => ∃ am F c xs P, Ok Δ am F σ H c ∧ RpA F vs xs ∧ f xs c P ∧
  (∀ c' F' σ' H', P c' → Le F F' → Ok Δ am F' σ' H' c' → Tch ws σ σ' → Q σ' H')
theorem _root_.L2.PGs.imp {es : List Expr} {t t' : TGs} (h : PGs X es t) (w : ∀ v σ H Q, t' v σ H Q → t v σ H Q) : PGs X es t' :=
  ⟨fun pins s σ H v u Q I r q => h.run pins s σ H v u Q I r (w v σ H Q q)⟩
def gsNil : WGs := fun xs c P => match xs with
  | [] => P c
  | _ => False
def gsCons (g : WG) (gs : WGs) : WGs := fun xs c P => match xs with
  | x :: r => g (.d x) c fun c1 => gs r c1 P
  | _ => False
theorem dgs_nil : PGs X [] (tGs Δ [] gsNil) := pgs_nil.imp fun vs σ H Q ⟨am, F, c, xs, P, ok, r, h, kq⟩ => by
  unfold gsNil at h
  split at h
  · cases r
    exact ⟨rfl, kq c F σ H h (Le.refl F) ok (.refl σ [])⟩
  · exact h.elim
theorem dgs_cons {g : WG} {gs : WGs} {us vs : List Nat} (h1 : PG X e (tG Δ us g)) (h2 : PGs X es (tGs Δ vs gs)) (hs : (assignEach (e :: es) X.env).map (·.2) = assign e X.env :: (assignEach es X.env).map (·.2) := by rfl) : PGs X (e :: es) (tGs Δ (us ++ vs) (gsCons g gs)) :=
  (pgs_cons h1 h2 hs).imp fun vs σ H Q ⟨am, F, c, xs, P, ok, r, h, kq⟩ => by
    unfold gsCons at h
    split at h
    · cases r with
      | cons r1 r2 =>
        refine ⟨_, _, rfl, am, F, c, _, _, ok, .of r1, h, fun c1 F1 σ1 H1 p1 l1 o1 t1 => ?_⟩
        exact ⟨am, F1, c1, _, _, o1, r2.mono l1, p1, fun c2 F2 σ2 H2 p2 l2 o2 t2 => kq c2 F2 σ2 H2 p2 (l1.trans l2) o2 (t1.app t2)⟩
    · exact h.elim
/-- (a, b, ..) = a tuple of that length -/
def gT (n : Nat) (gs : WGs) : WG := fun r c P => match r with
  | .d (.tuple xs) => xs.length = n ∧ gs xs c P
  | _ => False
theorem dg_tup {k : Nat} {gs : WGs} {n : Nat} {us : List Nat} (hc : X.calm = true) (h : PGs X es (tGs Δ us gs)) (hn : (assignEach es X.env).length = n := by rfl) (hst : (assignEach es X.env).findIdx? (·.1) = none := by rfl) (hk : X.K = TabF.K := by first | rfl | assumption) : PG X (.Tuple es k pos) (tG Δ us (gT n gs)) :=
  (pg_tup hc h hn hst).imp fun v σ H Q ⟨am, F, c, r, P, ok, s, h, kq⟩ => by
    unfold gT at h
    split at h
    · have h1 := s.1
      cases h1 with
      | tup e r1 => exact ⟨_, _, rfl, e.sq hk ok.fh, by rw [r1.length]; exact h.1, am, F, c, _, P, ok, r1, h.2, kq⟩
    · exact h.elim
end
end Dl
set_option Elab.async false
set_option maxRecDepth 100000
set_option linter.all false
set_option autoImplicit false
namespace Dl
open PySem L2
variable [TabF]
section
variable {X : Cx} {Δ : Dx} {a b e : Expr} {fa fb fc : WE} {pos : Pos} {es : List Expr} {fr : WA} {st : Stmt} {rest sa sb : List Stmt} {ws wt : WS}
/-! ### blocks and small statements -/
def sNil : WS := fun c P _ => P (.nx c)
def sSeq (f g : WS) : WS := fun c P X => f c (fun fl => match fl with
  | .nx c1 => g c1 P X
  | o => P o) X
theorem dss_nil : PSs X [] (tS Δ sNil) := pss_nil.imp fun D σ H ⟨am, F, c, P, XX, ok, hf, kf, kx⟩ => kf.1 c am F σ H hf (Le.refl F) ok
theorem KF.le {am : Addr} {F G : Hp} {P : Fl → Prop} {D : Ends} (k : KF Δ am F P D) (l : Le F G) (am' : Addr) : KF Δ am' G P D :=
  ⟨fun c am' F' σ' H' p l' o => k.1 c am' F' σ' H' p (l.trans l') o, fun c am' F' σ' H' p l' o => k.2.1 c am' F' σ' H' p (l.trans l') o,
    fun c am' F' σ' H' p l' o => k.2.2.1 c am' F' σ' H' p (l.trans l') o, fun r g am' F' H' v p l' o s => k.2.2.2 r g am' F' H' v p (l.trans l') o s⟩
theorem dss_cons (h1 : PS X st (tS Δ ws)) (h2 : PSs X rest (tS Δ wt)) : PSs X (st :: rest) (tS Δ (sSeq ws wt)) := by
  refine (pss_cons h1 h2).imp fun D σ H ⟨am, F, c, P, XX, ok, hf, kf, kx⟩ => ?_
  refine ⟨am, F, c, _, XX, ok, hf, ⟨fun c1 am1 F1 σ1 H1 p1 l1 o1 => ?_, fun c1 am1 F1 σ1 H1 p1 l1 o1 => kf.2.1 c1 am1 F1 σ1 H1 p1 l1 o1, fun c1 am1 F1 σ1 H1 p1 l1 o1 => kf.2.2.1 c1 am1 F1 σ1 H1 p1 l1 o1,
    fun r g am1 F1 H1 v p1 l1 o1 s1 => kf.2.2.2 r g am1 F1 H1 v p1 l1 o1 s1⟩, kx⟩
  exact ⟨am1, F1, c1, P, XX, o1, p1, kf.le l1 am1, kx.le l1⟩
theorem dss_one (h1 : PS X st (tS Δ ws)) : PSs X [st] (tS Δ ws) := pss_one h1
def sBrk : WS := fun c P _ => P (.bk c)
def sCnt : WS := fun c P _ => P (.ct c)
def sNo : WS := fun _ _ _ => False
def sExp (fa : WE) : WS := fun c P X => fa c (fun _ c1 => P (.nx c1)) X
theorem ds_expr (ha : PE X a (tE Δ fa)) (hs : swapsWith a none pos.line X.env = pure false := by rfl) : PS X (.Expr a pos) (tS Δ (sExp fa)) := by
  refine (ps_expr ha hs).imp fun D σ H ⟨am, F, c, P, XX, ok, hf, kf, kx⟩ => ?_
  exact ⟨am, F, c, _, XX, ok, hf, fun r c1 F1 v1 H1 p1 l1 o1 s1 => kf.1 c1 am F1 σ H1 p1 l1 o1, kx am⟩
def sRet (fa : WE) : WS := fun c P X => fa c (fun r c1 => P (.rt r c1.g)) X
theorem ds_ret (ha : PE X a (tE Δ fa)) : PS X (.Return (some a) pos) (tS Δ (sRet fa)) := by
  refine (ps_ret ha).imp fun D σ H ⟨am, F, c, P, XX, ok, hf, kf, kx⟩ => ?_
  exact ⟨am, F, c, _, XX, ok, hf, fun r c1 F1 v1 H1 p1 l1 o1 s1 => kf.2.2.2 r c1.g am F1 H1 v1 p1 l1 o1.fin s1.1, kx am⟩
def sIf (t : WT) (f g : WS) : WS := fun c P X => t c (fun b c1 => if b = true then f c1 P X else g c1 P X) X
theorem ds_if {cnd : Expr} {fA : WT} (hc : PT X cnd (tT Δ fA)) (ha : PSs X sa (tS Δ ws)) (hb : PSs X sb (tS Δ wt)) : PS X (.If cnd sa sb pos) (tS Δ (sIf fA ws wt)) := by
  refine (ps_if hc ha hb).imp fun D σ H ⟨am, F, c, P, XX, ok, hf, kf, kx⟩ => ?_
  refine ⟨am, F, c, _, XX, ok, hf, fun k c1 F1 H1 p1 l1 o1 => ?_, kx am⟩
  cases k with
  | true =>
    rw [if_pos rfl]
    rw [if_pos rfl] at p1
    exact ⟨am, F1, c1, P, XX, o1, p1, kf.le l1 am, kx.le l1⟩
  | false =>
    rw [if_neg Bool.false_ne_true]
    rw [if_neg Bool.false_ne_true] at p1
    exact ⟨am, F1, c1, P, XX, o1, p1, kf.le l1 am, kx.le l1⟩
/-- target = value -/
def sAsg (fa : WE) (g : WG) : WS := fun c P X => fa c (fun r c1 => g r c1 fun c2 => P (.nx c2)) X
theorem asg_of {te : TE} {tg : TG} {g : WG} {us : List Nat} (h1 : ∀ σ H Q, tE Δ fa σ H Q → te σ H Q) (h2 : ∀ v σ H Q, tG Δ us g v σ H Q → tg v σ H Q) (D : Ends) (σ : St) (H : Hp) (h : tS Δ (sAsg fa g) D σ H) : tAsg te tg D σ H := by
  obtain ⟨am, F, c, P, XX, ok, hf, kf, kx⟩ := h
  exact h1 σ H _ ⟨am, F, c, _, XX, ok, hf, fun r c1 F1 v1 H1 p1 l1 o1 s1 => h2 v1 σ H1 _ ⟨am, F1, c1, r, _, o1, s1, p1, fun c2 F2 σ2 H2 p2 l2 o2 _ => kf.1 c2 am F2 σ2 H2 p2 (l1.trans l2) o2⟩, kx am⟩
theorem ds_set (i : Nat) {x : Str} {pos' : Pos} (hN : X.N.Nodup) (ha : PE X a (tE Δ fa)) (hi : X.N[i]? = some x := by rfl) (hx : Loc X.env.scope x := by first | exact Or.inl rfl | exact Or.inr rfl)
    (hs : swapsWith a (some (.Name x pos')) pos.line X.env = pure false := by rfl) (hf : X.fn x = true ∨ X.env.scope.names.lookup x = some .local := by first | exact .inl rfl | exact .inr rfl) : PS X (.Assign [.Name x pos'] a pos) (tS Δ (sAsg fa (gN i))) :=
  (ps_set hN hi hx ha hs hf).imp fun D σ H h => asg_of (us := [i]) (fun _ _ _ h => h) (fun v σ H Q ⟨am, F, c, r, P, ok, s, h, kq⟩ => kq _ F _ H h.2 (Le.refl F) (ok.put s i) (.one σ i _)) D σ H h
theorem ds_asg {tg : Expr} {g : WG} {us : List Nat} (ha : PE X a (tE Δ fa)) (hg : PG X tg (tG Δ us g)) (hs : swapsWithSole [tg] a pos.line X.env = pure false := by rfl) (hw : swappedStores [tg] a X.env = pure none := by rfl)
    (h1 : (assignEach [tg] X.env).map (·.2) = [assign tg X.env] := by rfl) : PS X (.Assign [tg] a pos) (tS Δ (sAsg fa g)) :=
  (ps_asg ha hg hs hw h1).imp fun D σ H h => asg_of (fun _ _ _ h => h) (fun _ _ _ _ h => h) D σ H h
theorem Rs.arg' {am : Addr} {F : Hp} {σ : St} {H : Hp} {c : Cf} {r : Rv} {v : V} {k : Rv → Prop} (o : Ok Δ am F σ H c) (h : Rs Δ am F σ H c r v) (q : argR r k) :
    ∃ x F', k x ∧ Le F F' ∧ Ok Δ am F' σ H c ∧ ∀ G I σ' c', Le F' G → Rs Δ am G σ' I c' x v := by
  cases r with
  | d x => exact ⟨_, F, q, Le.refl F, o, fun G I σ' c' l => .of (Rp.mono l h.1)⟩
  | own xs =>
    obtain ⟨x, F', h1, l, o', rp⟩ := h.data (k := fun x => k (.d x)) o q
    exact ⟨_, F', h1, l, o', fun G I σ' c' l => .of (Rp.mono l rp)⟩
  | gen => exact ⟨_, F, q, Le.refl F, o, fun G I σ' c' l => ⟨h.1, fun z => z.elim⟩⟩
  | dic D => exact q.elim
  | scr ns =>
    obtain ⟨a, e, hq⟩ := h.1
    exact ⟨_, F, q, Le.refl F, o, fun G I σ' c' l => ⟨⟨a, e, sq_le l hq⟩, fun z => z.elim⟩⟩
/-! ### an own list without a name, kept while something else runs -/
def Dx.hold (Δ : Dx) (a : Addr) (o : HO) : Dx := { Δ with H0 := upd Δ.H0 a o }
section
variable {am : Addr} {F : Hp} {σ : St} {H : Hp} {c : Cf} {p : Addr} {o : HO}
theorem unh0 {b : Addr} (h : (Δ.hold p o).H0 b = none) : Δ.H0 b = none ∧ b ≠ p := by
  have h : upd Δ.H0 p o b = none := h
  by_cases q : b = p
  · subst q
    rw [upd_same] at h
    cases h
  · rw [upd_ne q] at h
    exact ⟨h, q⟩
theorem Ok.holdO (k : Ok Δ am F σ H c) (h : H p = some o) (nt : ∀ ps, o ≠ .tbl ps) (hg : ∀ n, c.g = some n → am ≠ p) (hf : F p = none) (h0 : Δ.H0 p = none) (no : ∀ (i : Nat) (r : Rv), c.env[i]? = some (some r) → r.mu → σ[i]? ≠ some (some (.ref p))) :
    Ok (Δ.hold p o) am F σ H c where
  fh := k.fh
  f0 := k.f0
  fr := fun b e => by
    by_cases q : b = p
    · subst q
      exact absurd hf e
    · exact (k.fr b e).elim .inl fun z => .inr (by show upd Δ.H0 p _ b = none; rw [upd_ne q]; exact z)
  tb := ⟨k.tb.1, k.tb.2.1, k.tb.2.2.upd nt⟩
  pr := fun b o' e n => by
    have e : upd Δ.H0 p o b = some o' := e
    by_cases q : b = p
    · subst q
      rw [upd_same] at e
      cases e
      exact h
    · rw [upd_ne q] at e
      exact k.pr b o' e n
  al := fun b e => ⟨(k.al b e).1, fun z => (k.al b e).2 (unh0 z).1⟩
  gn := fun n e => by
    obtain ⟨h1, h2, h3⟩ := k.gn n e
    refine ⟨h1.elim .inl fun z => .inr ⟨z.1, ?_⟩, h2, h3⟩
    show upd Δ.H0 p _ am = none
    rw [upd_ne (hg n e)]
    exact z.2
  len := k.len
  sv := fun i r e => by
    obtain ⟨v, h1, h2⟩ := k.sv i r e
    refine ⟨v, h1, ?_⟩
    cases r with
    | d x => exact h2
    | gen => exact h2
    | scr ns => exact h2
    | own xs =>
      obtain ⟨a, ws, e1, e2, e3, e4, e5⟩ := h2
      subst e1
      refine ⟨a, ws, rfl, e2, e3, ?_, e5⟩
      show upd Δ.H0 p _ a = none
      rw [upd_ne (show a ≠ p from fun z => no i _ e True.intro (by rw [h1, z]))]
      exact e4
    | dic D =>
      obtain ⟨a, ws, e1, e2, e3, e4, e5⟩ := h2
      subst e1
      refine ⟨a, ws, rfl, e2, e3, ?_, e5⟩
      show upd Δ.H0 p _ a = none
      rw [upd_ne (show a ≠ p from fun z => no i _ e True.intro (by rw [h1, z]))]
      exact e4
  di := k.di
theorem Fin.unhold {g : Option Nat} (k : Fin (Δ.hold p o) am F H g) (h0 : Δ.H0 p = none) (hna : Δ.a0 ≠ some p) : Fin Δ am F H g :=
  ⟨k.fh, k.f0, fun b e => (k.fr b e).elim .inl fun z => .inr (unh0 z).1, ⟨k.tb.1, k.tb.2.1, fun b ps z => k.tb.2.2 b ps (by show upd Δ.H0 p _ b = some _; rw [upd_ne (ne_of_none z h0)]; exact z)⟩, fun b o' e n => k.pr b o' (by show upd Δ.H0 p _ b = some o'; rw [upd_ne (ne_of_none e h0)]; exact e) n, fun b e => ⟨(k.al b e).1, fun z => (k.al b e).2 (by show upd Δ.H0 p _ b = none; rw [upd_ne (show b ≠ p from fun q => hna (by rw [← q]; exact e))]; exact z)⟩,
    fun n e => ⟨(k.gn n e).1.elim .inl fun z => .inr ⟨z.1, (unh0 z.2).1⟩, (k.gn n e).2⟩⟩
theorem Ok.unhold (k : Ok (Δ.hold p o) am F σ H c) (h0 : Δ.H0 p = none) (f0 : Δ.F0 p = none) (na : Δ.a0 ≠ some p) :
    Ok Δ am F σ H c ∧ H p = some o ∧ F p = none ∧ ∀ (i : Nat) (r : Rv), c.env[i]? = some (some r) → r.mu → σ[i]? ≠ some (some (.ref p)) := by
  have fn := k.fin.unhold h0 na
  refine ⟨⟨fn.fh, fn.f0, fn.fr, fn.tb, fn.pr, fn.al, fn.gn, k.len, fun i r e => ?_, k.di⟩, k.pr p _ upd_same na, ?_, fun i r e mu z => ?_⟩
  · obtain ⟨v, h1, h2⟩ := k.sv i r e
    refine ⟨v, h1, ?_⟩
    cases r with
    | d x => exact h2
    | gen => exact h2
    | scr ns => exact h2
    | own xs =>
      obtain ⟨a, ws, e1, e2, e3, e4, e5⟩ := h2
      exact ⟨a, ws, e1, e2, e3, (unh0 e4).1, e5⟩
    | dic D =>
      obtain ⟨a, ws, e1, e2, e3, e4, e5⟩ := h2
      exact ⟨a, ws, e1, e2, e3, (unh0 e4).1, e5⟩
  · cases q : F p with
    | none => rfl
    | some u =>
      rcases k.fr p (by rw [q]; exact fun z => nomatch z) with z | z
      · exact absurd f0 z
      · exact absurd rfl (unh0 z).2
  · obtain ⟨v, h1, s1⟩ := k.sv i _ e
    obtain ⟨a, ws, e1, _, _, e4⟩ := s1.at mu
    subst e1
    rw [z] at h1
    cases h1
    exact (unh0 e4).2 rfl
theorem Ok.hold {vs : List V} (k : Ok Δ am F σ H c) (h : H p = some (.lst vs)) (hf : F p = none) (h0 : Δ.H0 p = none) (no : ∀ (i : Nat) (r : Rv), c.env[i]? = some (some r) → r.mu → σ[i]? ≠ some (some (.ref p))) : Ok (Δ.hold p (.lst vs)) am F σ H c :=
  k.holdO h lst_ok.1 (fun n e => ((k.gn n e).2.2.ne h).symm) hf h0 no
end
theorem _root_.Dl.Sl.unhold {Δ : Dx} {p : Addr} {o : HO} {am : Addr} {F H : Hp} {r : Rv} {v : V} (s : Sl (Δ.hold p o) am F H r v) : Sl Δ am F H r v := by
  cases r with
  | d x => exact s
  | gen => exact s
  | scr ns => exact s
  | own ys =>
    obtain ⟨a, ws, q1, q2, q3, q4, q5⟩ := s
    exact ⟨a, ws, q1, q2, q3, (unh0 q4).1, q5⟩
  | dic D =>
    obtain ⟨a, ws, q1, q2, q3, q4, q5⟩ := s
    exact ⟨a, ws, q1, q2, q3, (unh0 q4).1, q5⟩
/-- a result is kept while another expression runs -/
theorem keep_of {am : Addr} {F : Hp} {σ : St} {H : Hp} {c : Cf} {r : Rv} {v : V} {XX : XP} {P : Rv → Cf → Prop} {R : V → Hp → Prop} {tb : TE} (ok : Ok Δ am F σ H c) (s : Rs Δ am F σ H c r v)
    (hb : ∀ Δ' : Dx, Δ'.K = Δ.K → ∀ σ H Q, tE Δ' fb σ H Q → tb σ H Q) (hf : fb c P XX) (kx : KX Δ am F XX)
    (q : ∀ r2 c2 F' w H', P r2 c2 → Le F F' → Ok Δ am F' σ H' c2 → Rs Δ am F' σ H' c2 r2 w → Rs Δ am F' σ H' c2 r v → (r.mu → r2.mu → v ≠ w) → R w H') : tb σ H R := by
  cases r with
  | d x => exact hb Δ rfl σ H R ⟨am, F, c, P, XX, ok, hf, fun r2 c2 F' w H' p l o s2 => q r2 c2 F' w H' p l o s2 (.of (Rp.mono l s.1)) fun z => z.elim, kx⟩
  | gen => exact hb Δ rfl σ H R ⟨am, F, c, P, XX, ok, hf, fun r2 c2 F' w H' p l o s2 => q r2 c2 F' w H' p l o s2 ⟨s.1, fun z => z.elim⟩ fun z => z.elim, kx⟩
  | scr ns =>
    obtain ⟨a, e, hq⟩ := s.1
    exact hb Δ rfl σ H R ⟨am, F, c, P, XX, ok, hf, fun r2 c2 F' w H' p l o s2 => q r2 c2 F' w H' p l o s2 ⟨⟨a, e, sq_le l hq⟩, fun z => z.elim⟩ fun z => z.elim, kx⟩
  | own xs =>
    obtain ⟨⟨p, vs, e1, e2, e3, e4, e5⟩, e6⟩ := s
    subst e1
    have na : Δ.a0 ≠ some p := fun z => (ok.al p z).2 e4
    have o' := ok.hold e2 e3 e4 fun i ys e mu z => e6 True.intro i ys e mu z
    refine hb (Δ.hold p (.lst vs)) rfl σ H R ⟨am, F, c, P, XX, o', hf, fun r2 c2 F' w H' pp l o2 s2 => ?_, fun x g F' H' h l fn => kx x g F' H' h l (fn.unhold e4 na)⟩
    obtain ⟨o3, h1, h2, h3⟩ := o2.unhold e4 (ok.f0.nn e3) na
    refine q r2 c2 F' w H' pp l o3 ⟨s2.1.unhold, s2.2⟩ ⟨⟨p, vs, rfl, h1, h2, e4, e5.mono l⟩, fun _ i zs e mu z => h3 i zs e mu z⟩ fun _ hy => ?_
    obtain ⟨a, ws, q1, q2, q3, q4⟩ := s2.1.at hy
    subst q1
    intro z
    cases z
    exact (unh0 q4).2 rfl
  | dic D =>
    obtain ⟨⟨p, ob, e1, e2, e3, e4, e5⟩, e6⟩ := s
    subst e1
    have na : Δ.a0 ≠ some p := fun z => (ok.al p z).2 e4
    have o' := ok.holdO e2 e5.ntbl (fun n e => ((ok.gn n e).2.2.neD e2 e5).symm) e3 e4 fun i ys e mu z => e6 True.intro i ys e mu z
    refine hb (Δ.hold p ob) rfl σ H R ⟨am, F, c, P, XX, o', hf, fun r2 c2 F' w H' pp l o2 s2 => ?_, fun x g F' H' h l fn => kx x g F' H' h l (fn.unhold e4 na)⟩
    obtain ⟨o3, h1, h2, h3⟩ := o2.unhold e4 (ok.f0.nn e3) na
    refine q r2 c2 F' w H' pp l o3 ⟨s2.1.unhold, s2.2⟩ ⟨⟨p, ob, rfl, h1, h2, e4, e5.mono l⟩, fun _ i zs e mu z => h3 i zs e mu z⟩ fun _ hy => ?_
    obtain ⟨a, ws, q1, q2, q3, q4⟩ := s2.1.at hy
    subst q1
    intro z
    cases z
    exact (unh0 q4).2 rfl
end
end Dl
set_option Elab.async false
set_option maxRecDepth 100000
set_option linter.all false
set_option autoImplicit false
namespace Dl
open PySem L2
variable [TabF]
section
variable {X : Cx} {Δ : Dx} {a b e : Expr} {fa fb fc : WE} {pos : Pos} {es : List Expr} {fr : WA} {st : Stmt} {rest sa sb : List Stmt} {ws wt : WS}
/-! ### a, b = x, y and a, b, c = x, y, z: no tuple is kept -/
def tPar3 (i j l : Nat) (ta : TA) : TS := fun D σ H => ta σ H fun vs H1 => ∃ v w u, vs = [v, w, u] ∧ D.nx (((σ.set l (some u)).set j (some w)).set i (some v)) H1
open PyProof.Rows in
theorem ps_par3 {i j l : Nat} {x y z : Str} {p q r : Expr} {ta : TA} {px py pz pt : Pos} {kt k2 : Nat} {pt2 : Pos} (calm : X.calm = true) (nd : X.N.Nodup)
    (hi : X.N[i]? = some x) (hj : X.N[j]? = some y) (hl : X.N[l]? = some z) (hx : X.env.scope.names.lookup x = some .local) (hy : X.env.scope.names.lookup y = some .local) (hz : X.env.scope.names.lookup z = some .local)
    (args : PA X [p, q, r] ta) (sw : swappedStores [.Tuple [.Name x px, .Name y py, .Name z pz] kt pt] (.Tuple [p, q, r] k2 pt2) X.env = pure (some [x, y, z]))
    (ns : swapsWithSole [.Tuple [.Name x px, .Name y py, .Name z pz] kt pt] (.Tuple [p, q, r] k2 pt2) pos.line X.env = pure false := by rfl) :
    PS X (.Assign [.Tuple [.Name x px, .Name y py, .Name z pz] kt pt] (.Tuple [p, q, r] k2 pt2) pos) (tPar3 i j l ta) := by
  constructor
  intro pins s σ H D J want
  rw [exec_Assign_arm]
  apply wpAny_bind
  apply wpAny_standAt
  rw [ns]
  apply wpAny_bind
  apply wpAny_pure
  rw [if_neg (by decide)]
  apply wpAny_bind
  apply Tuple_
  refine thn (args.run _ pins s σ H _ J want) ?_
  rintro us s1 ⟨vs, H1, J1, rv, v, w, u, hvs, fin⟩
  subst hvs
  cases rv with
  | cons r1 rv =>
  cases rv with
  | cons r2 rv =>
  cases rv with
  | cons r3 rv =>
  cases rv
  rename_i u1 u2 u3
  refine wpAny_newObj_type ?_ (show 3 ≤ sizeLine by decide)
  have J2 : Inv X pins σ H1 { s1 with heap := s1.heap.push { cls := .type "tuple", data := .seq [u1, u2, u3].toArray } } := J1.kept (t' := s1.toks) fun _ _ h => Heap.get?_push_of_some _ h
  rw [sw]
  apply wpAny_bind
  apply wpAny_pure
  show wpAny (model X.prog X.w) X.A (rule "assign.swapped-stores" >>= fun _ => unpackItems (.ref s1.heap.objs.size) 3 none >>= fun items => assignInOrder [bindName X.env z, bindName X.env y, bindName X.env x] items.reverse >>= fun _ => pure Flow.next) _ _ _
  apply wpAny_bind
  apply wpAny_rule
  apply wpAny_bind
  refine unpackItems_tuple (items := #[u1, u2, u3]) (J.ok.hd calm) (IsTup.new s1.heap _) ?_
  intro hp ext
  have J3 := J2.kept (h' := hp) (t' := s1.toks) fun b o h => ext b o (Nat.ne_of_lt (Heap.lt_size h)) h
  show wpAny _ _ (assignInOrder [bindName X.env z, bindName X.env y, bindName X.env x] [u3, u2, u1] >>= fun _ => pure Flow.next) _ _ _
  apply wpAny_bind
  refine assignInOrder_cons (wpAny_bindName (store_ok J3 nd hl (.inl hz) r3 (fun s4 J4 => ?_) (.inr hz)))
  refine assignInOrder_cons (wpAny_bindName (store_ok J4 nd hj (.inl hy) r2 (fun s5 J5 => ?_) (.inr hy)))
  refine assignInOrder_cons (wpAny_bindName (store_ok J5 nd hi (.inl hx) r1 (fun s6 J6 => ?_) (.inr hx)))
  exact assignInOrder_nil (wpAny_pure ⟨_, H1, J6, fin⟩)
def putE (c : Cf) (i : Nat) (r : Rv) : Cf := { c with env := c.env.set i (some r) }
def sPar2 (i j : Nat) (fa fb : WE) : WS := fun c P X => fa c (fun r1 c1 => fb c1 (fun r2 c2 => P (.nx (putE (putE c2 i r1) j r2))) X) X
def sPar3 (i j l : Nat) (fa fb fc : WE) : WS := fun c P X => fa c (fun r1 c1 => argR r1 fun x1 => fb c1 (fun r2 c2 => fc c2 (fun r3 c3 => P (.nx (putE (putE (putE c3 l r3) j r2) i x1))) X) X) X
/-- one result is stored, another one is still at hand -/
theorem Rs.put {am : Addr} {F : Hp} {σ : St} {H : Hp} {c : Cf} {r r' : Rv} {v v' : V} (s : Rs Δ am F σ H c r v) (hl : σ.length = c.env.length) (ne : r.mu → r'.mu → v ≠ v') (i : Nat) :
    Rs Δ am F (σ.set i (some v')) H (putE c i r') r v := by
  refine ⟨s.1, fun m1 j ys h m2 z => ?_⟩
  have h : (c.env.set i (some r'))[j]? = some (some ys) := h
  rw [env_get] at h
  rw [St.set_get, hl] at z
  split at h
  · rename_i q
    rw [if_pos q] at z
    cases z
    cases h
    exact ne m1 m2 rfl
  · rename_i q
    rw [if_neg q] at z
    exact s.2 m1 j ys h m2 z
theorem ds_par2 (i j : Nat) {x y : Str} {px py pt : Pos} {kt k2 : Nat} {pt2 : Pos} (hc : X.calm = true) (hN : X.N.Nodup) (ha : PE X a (tE Δ fa)) (hb : ∀ Δ' : Dx, Δ'.K = Δ.K → PE X b (tE Δ' fb))
    (hw : swappedStores [.Tuple [.Name x px, .Name y py] kt pt] (.Tuple [a, b] k2 pt2) X.env = pure (some [x, y])) (hi : X.N[i]? = some x := by rfl) (hj : X.N[j]? = some y := by rfl) (hij : i ≠ j := by decide)
    (hx : X.env.scope.names.lookup x = some .local := by rfl) (hy : X.env.scope.names.lookup y = some .local := by rfl) (hs1 : starEach (a :: [b]) X.env = (false, eval a X.env) :: starEach [b] X.env := by rfl) (hs2 : starEach (b :: []) X.env = (false, eval b X.env) :: starEach [] X.env := by rfl)
    (hs : swapsWithSole [.Tuple [.Name x px, .Name y py] kt pt] (.Tuple [a, b] k2 pt2) pos.line X.env = pure false := by rfl) :
    PS X (.Assign [.Tuple [.Name x px, .Name y py] kt pt] (.Tuple [a, b] k2 pt2) pos) (tS Δ (sPar2 i j fa fb)) := by
  -- b's reading, for whatever is kept
  let tb : TE := fun σ H Q => ∃ Δ' : Dx, Δ'.K = Δ.K ∧ tE Δ' fb σ H Q
  have hb' : PE X b tb := ⟨fun pins s σ H Q I ⟨Δ', e, h⟩ => (hb Δ' e).run pins s σ H Q I h⟩
  refine (ps_par hc hN hi hj hij hx hy (pa_cons ha (pa_cons hb' pa_nil hs2) hs1) hw hs).imp fun D σ H ⟨am, F, c, P, XX, ok, hf, kf, kx⟩ => ?_
  refine ⟨am, F, c, _, XX, ok, hf, fun r1 c1 F1 v1 H1 p1 l1 o1 s1 => ?_, kx am⟩
  refine keep_of (Δ := Δ) o1 s1 (fun Δ' e σ H Q h => ⟨Δ', e, h⟩) p1 ((kx am).le l1) fun r2 c2 F2 v2 H2 p2 l2 o2 s2 s1' ne => ?_
  refine ⟨v1, v2, rfl, kf.1 _ am F2 _ H2 p2 (l1.trans l2) ?_⟩
  have o3 := o2.put s1' i
  exact o3.put (s2.put o2.len (fun z1 z2 e => ne z2 z1 e.symm) i) j
theorem ds_par3 (i j l : Nat) {x y z : Str} {d : Expr} {px py pz pt : Pos} {kt k2 : Nat} {pt2 : Pos} (hc : X.calm = true) (hN : X.N.Nodup) (ha : PE X a (tE Δ fa)) (hb : ∀ Δ' : Dx, Δ'.K = Δ.K → PE X b (tE Δ' fb)) (hd : ∀ Δ' : Dx, Δ'.K = Δ.K → PE X d (tE Δ' fc))
    (hw : swappedStores [.Tuple [.Name x px, .Name y py, .Name z pz] kt pt] (.Tuple [a, b, d] k2 pt2) X.env = pure (some [x, y, z])) (hi : X.N[i]? = some x := by rfl) (hj : X.N[j]? = some y := by rfl) (hl : X.N[l]? = some z := by rfl)
    (hx : X.env.scope.names.lookup x = some .local := by rfl) (hy : X.env.scope.names.lookup y = some .local := by rfl) (hz : X.env.scope.names.lookup z = some .local := by rfl)
    (hs1 : starEach (a :: [b, d]) X.env = (false, eval a X.env) :: starEach [b, d] X.env := by rfl) (hs2 : starEach (b :: [d]) X.env = (false, eval b X.env) :: starEach [d] X.env := by rfl) (hs3 : starEach (d :: []) X.env = (false, eval d X.env) :: starEach [] X.env := by rfl)
    (hs : swapsWithSole [.Tuple [.Name x px, .Name y py, .Name z pz] kt pt] (.Tuple [a, b, d] k2 pt2) pos.line X.env = pure false := by rfl) :
    PS X (.Assign [.Tuple [.Name x px, .Name y py, .Name z pz] kt pt] (.Tuple [a, b, d] k2 pt2) pos) (tS Δ (sPar3 i j l fa fb fc)) := by
  let tb : TE := fun σ H Q => ∃ Δ' : Dx, Δ'.K = Δ.K ∧ tE Δ' fb σ H Q
  let td : TE := fun σ H Q => ∃ Δ' : Dx, Δ'.K = Δ.K ∧ tE Δ' fc σ H Q
  have hb' : PE X b tb := ⟨fun pins s σ H Q I ⟨Δ', e, h⟩ => (hb Δ' e).run pins s σ H Q I h⟩
  have hd' : PE X d td := ⟨fun pins s σ H Q I ⟨Δ', e, h⟩ => (hd Δ' e).run pins s σ H Q I h⟩
  refine (ps_par3 hc hN hi hj hl hx hy hz (pa_cons ha (pa_cons hb' (pa_cons hd' pa_nil hs3) hs2) hs1) hw hs).imp fun D σ H ⟨am, F, c, P, XX, ok, hf, kf, kx⟩ => ?_
  refine ⟨am, F, c, _, XX, ok, hf, fun r1 c1 F1 v1 H1 p1 l1 o1 s1 => ?_, kx am⟩
  obtain ⟨x1, F1', hx1, l1', o1', k1⟩ := Rs.arg' o1 s1 p1
  refine ⟨Δ, rfl, am, F1', c1, _, XX, o1', hx1, fun r2 c2 F2 v2 H2 p2 l2 o2 s2 => ?_, (kx am).le (l1.trans l1')⟩
  refine keep_of (Δ := Δ) o2 s2 (fun Δ' e σ H Q h => ⟨Δ', e, h⟩) p2 ((kx am).le ((l1.trans l1').trans l2)) fun r3 c3 F3 v3 H3 p3 l3 o3 s3 s2' ne => ?_
  refine ⟨v1, v2, v3, rfl, kf.1 _ am F3 _ H3 p3 (((l1.trans l1').trans l2).trans l3) ?_⟩
  have o4 := o3.put s3 l
  have o5 := o4.put (s2'.put o3.len ne l) j
  exact o5.put (k1 F3 H3 _ _ (l2.trans l3)) i
/-! ### comprehensions -/
def wipeE (env : List (Option Rv)) : List Nat → List (Option Rv)
  | [] => env
  | v :: vs => (wipeE env vs).set v none
/-- the items of xs, one after another: each at the target, then the test, then the element -/
def lcW (g : WG) (t : WT) (f : WE) (vs : List Nat) (env : List (Option Rv)) (X : XP) (P : Rv → Cf → Prop) : List Px → List Px → Option Nat → Prop
  | [], acc, gs => P (.own acc) ⟨env, gs⟩
  | x :: xs, acc, gs => g (.d x) ⟨wipeE env vs, gs⟩ fun c1 => wipeE c1.env vs = wipeE env vs ∧ t c1 (fun b c2 => c2.env = c1.env ∧ if b = true then f c2 (fun r c3 => c3.env = c1.env ∧ asD r fun y => acc.length < 1000000 ∧ lcW g t f vs env X P xs (acc ++ [y]) c3.g) X
      else lcW g t f vs env X P xs acc c2.g) X
def nown (env : List (Option Rv)) (vs : List Nat) : Prop := ∀ j ∈ vs, ∀ r : Rv, env[j]? = some (some r) → ¬ r.mu
def eLc (it : WI) (g : WG) (t : WT) (f : WE) (vs : List Nat) : WE := fun c P X => it c (fun xs c1 => nown c1.env vs ∧ lcW g t f vs c1.env X P xs [] c1.g) X
theorem wipeE_length (env : List (Option Rv)) : ∀ vs : List Nat, (wipeE env vs).length = env.length
  | [] => rfl
  | v :: vs => by unfold wipeE; rw [List.length_set, wipeE_length env vs]
theorem wipeE_some {env : List (Option Rv)} {i : Nat} {r : Rv} : ∀ {vs : List Nat}, (wipeE env vs)[i]? = some (some r) → env[i]? = some (some r) ∧ i ∉ vs
  | [], h => ⟨h, by simp⟩
  | v :: vs, h => by
    unfold wipeE at h
    rw [env_get] at h
    split at h
    · cases h
    · rename_i z
      obtain ⟨h1, h2⟩ := wipeE_some h
      refine ⟨h1, ?_⟩
      have hl : v = i → False := fun e => z ⟨e.symm, by rw [e]; exact (List.getElem?_eq_some_iff.mp h).1⟩
      simp only [List.mem_cons, not_or]
      exact ⟨fun e => hl e.symm, h2⟩
theorem wipe_keep {σ : St} {i : Nat} : ∀ {vs : List Nat}, i ∉ vs → (wipe σ vs)[i]? = σ[i]?
  | [], _ => rfl
  | v :: vs, h => by
    unfold wipe
    simp only [List.mem_cons, not_or] at h
    rw [List.getElem?_set_ne (Ne.symm h.1), wipe_keep h.2]
theorem Ok.wiped {am : Addr} {F : Hp} {σ : St} {H : Hp} {c : Cf} (k : Ok Δ am F σ H c) (vs : List Nat) : Ok Δ am F (wipe σ vs) H { c with env := wipeE c.env vs } := by
  refine ⟨k.fh, k.f0, k.fr, k.tb, k.pr, k.al, k.gn, by rw [wipe_length, k.len]; exact (wipeE_length _ _).symm, fun i r e => ?_, fun i j xs ys n p q m1 m2 => ?_⟩
  · obtain ⟨h1, h2⟩ := wipeE_some e
    obtain ⟨v, h3, h4⟩ := k.sv i r h1
    exact ⟨v, by rw [wipe_keep h2]; exact h3, h4⟩
  · obtain ⟨h1, h2⟩ := wipeE_some p
    obtain ⟨h3, h4⟩ := wipeE_some q
    rw [wipe_keep h2, wipe_keep h4]
    exact k.di i j xs ys n h1 h3 m1 m2
theorem wipe_set {σ : St} {i : Nat} : ∀ {vs : List Nat}, i ∈ vs → i < σ.length → (wipe σ vs)[i]? = some none
  | v :: vs, h, hl => by
    unfold wipe
    rw [St.set_get, wipe_length]
    by_cases e : i = v
    · rw [if_pos ⟨e, by rw [← e]; exact hl⟩]
    · rw [if_neg (fun z => e z.1)]
      exact wipe_set ((List.mem_cons.mp h).resolve_left e) hl
theorem wipe_idem (σ : St) (vs : List Nat) : wipe (wipe σ vs) vs = wipe σ vs := by
  apply List.ext_getElem?
  intro i
  by_cases q : i ∈ vs
  · by_cases hl : i < σ.length
    · rw [wipe_set q hl, wipe_set q (by rw [wipe_length]; exact hl)]
    · rw [List.getElem?_eq_none (by rw [wipe_length, wipe_length]; omega), List.getElem?_eq_none (by rw [wipe_length]; omega)]
  · rw [wipe_keep q]
theorem wipe_tch {σ σ' : St} {ws vs : List Nat} (h : Tch ws σ σ') (s : ∀ i ∈ ws, i ∈ vs) : wipe σ' vs = wipe σ vs := by
  apply List.ext_getElem?
  intro i
  by_cases q : i ∈ vs
  · by_cases hl : i < σ.length
    · rw [wipe_set q hl, wipe_set q (by rw [h.1]; exact hl)]
    · rw [List.getElem?_eq_none (by rw [wipe_length, h.1]; omega), List.getElem?_eq_none (by rw [wipe_length]; omega)]
  · rw [wipe_keep q, wipe_keep q]
    exact h.2 i fun z => q (s i z)
theorem wipeE_keep {env : List (Option Rv)} {i : Nat} : ∀ {vs : List Nat}, i ∉ vs → (wipeE env vs)[i]? = env[i]?
  | [], _ => rfl
  | v :: vs, h => by
    unfold wipeE
    simp only [List.mem_cons, not_or] at h
    rw [List.getElem?_set_ne (Ne.symm h.1), wipeE_keep h.2]
/-- behind a turn of a comprehension: the def's own slots again -/
theorem Ok.unwipe {am : Addr} {F F' : Hp} {σ σ2 : St} {H H' : Hp} {env env2 : List (Option Rv)} {g g2 : Option Nat} {ws vs : List Nat} (k : Ok Δ am F σ H ⟨env, g⟩) (k2 : Ok Δ am F' σ2 H' ⟨env2, g2⟩) (l : Le F F')
    (t : Tch ws (L2.wipe σ vs) σ2) (s : ∀ i ∈ ws, i ∈ vs) (e : wipeE env2 vs = wipeE env vs) (n : nown env vs) : Ok Δ am F' σ H' ⟨env, g2⟩ := by
  have hs : ∀ i, i ∉ vs → σ2[i]? = σ[i]? := fun i h => (t.2 i fun z => h (s i z)).trans (wipe_keep h)
  have he : ∀ i, i ∉ vs → env2[i]? = env[i]? := fun i h => by rw [← wipeE_keep (env := env2) h, e, wipeE_keep h]
  refine ⟨k2.fh, k2.f0, k2.fr, k2.tb, k2.pr, k2.al, k2.gn, k.len, fun i r q => ?_, fun i j xs ys ne q1 q2 m1 m2 => ?_⟩
  · by_cases hv : i ∈ vs
    · obtain ⟨v, h1, h2⟩ := k.sv i r q
      refine ⟨v, h1, ?_⟩
      cases r with
      | d x => exact Rp.mono l h2
      | gen => exact h2
      | scr ns =>
        obtain ⟨a, e1, e2⟩ := h2
        exact ⟨a, e1, sq_le l e2⟩
      | own xs => exact absurd True.intro (n i hv _ q)
      | dic D => exact absurd True.intro (n i hv _ q)
    · obtain ⟨v, h1, h2⟩ := k2.sv i r ((he i hv).trans q)
      exact ⟨v, (hs i hv).symm.trans h1, h2⟩
  · have h1 : i ∉ vs := fun z => n i z _ q1 m1
    have h2 : j ∉ vs := fun z => n j z _ q2 m2
    have := k2.di i j xs ys ne ((he i h1).trans q1) ((he j h2).trans q2) m1 m2
    rw [hs i h1, hs j h2] at this
    exact this
/-- an own list without a name, changed -/
theorem Ok.chg {am : Addr} {F : Hp} {σ : St} {H : Hp} {c : Cf} {p : Addr} {vs ws : List V} (k : Ok Δ am F σ H c) (h : H p = some (.lst vs)) (hf : F p = none) (h0 : Δ.H0 p = none) (no : ∀ (i : Nat) (r : Rv), c.env[i]? = some (some r) → r.mu → σ[i]? ≠ some (some (.ref p))) :
    Ok Δ am F σ (upd H p (.lst ws)) c where
  fh := fun b o e => by rw [upd_ne (fun q => by rw [q, hf] at e; cases e)]; exact k.fh b o e
  f0 := k.f0
  fr := k.fr
  tb := k.tb.lst h
  pr := fun b o e n => by rw [upd_ne (ne_of_none e h0)]; exact k.pr b o e n
  al := fun b e => ⟨(k.al b e).1.upd lst_ok.1, (k.al b e).2⟩
  gn := fun n e => by
    obtain ⟨h1, h2, h3⟩ := k.gn n e
    have ne := (h3.ne h).symm
    obtain ⟨l, s, sp, ac, ns, h4, h5⟩ := h3
    exact ⟨h1, h2, l, s, sp, ac, ns, by rw [upd_ne ne]; exact h4, h5⟩
  len := k.len
  sv := fun i r e => by
    obtain ⟨v, h1, h2⟩ := k.sv i r e
    refine ⟨v, h1, ?_⟩
    cases r with
    | d x => exact h2
    | gen => exact h2
    | scr ns => exact h2
    | own xs =>
      obtain ⟨a, us, e1, e2, e3⟩ := h2
      subst e1
      exact ⟨a, us, rfl, by rw [upd_ne (show a ≠ p from fun z => no i _ e True.intro (by rw [h1, z]))]; exact e2, e3⟩
    | dic D =>
      obtain ⟨a, us, e1, e2, e3⟩ := h2
      subst e1
      exact ⟨a, us, rfl, by rw [upd_ne (show a ≠ p from fun z => no i _ e True.intro (by rw [h1, z]))]; exact e2, e3⟩
  di := k.di
theorem lc_of {it : WI} {g : WG} {t : WT} {f : WE} {ws vs0 : List Nat} {tg' : TG} {tt' : TT} {te' : TE} (hg : ∀ Δ' : Dx, Δ'.K = Δ.K → ∀ v σ H Q, tG Δ' ws g v σ H Q → tg' v σ H Q) (ht : ∀ Δ' : Dx, Δ'.K = Δ.K → ∀ σ H Q, tT Δ' t σ H Q → tt' σ H Q)
    (he : ∀ Δ' : Dx, Δ'.K = Δ.K → ∀ σ H Q, tE Δ' f σ H Q → te' σ H Q) (hws : ∀ i ∈ ws, i ∈ vs0) (σ : St) (H : Hp) (Q : VK) (h : tE Δ (eLc it g t f vs0) σ H Q) : tLc (tI Δ it) tg' tt' te' vs0 σ H Q := by
  obtain ⟨am, F, c, P, XX, ok, hf, kq, kx⟩ := h
  refine ⟨am, F, c, _, XX, ok, hf, fun xs c1 F1 H1 J p1 l1 o1 wk => ?_, kx⟩
  intro D hD
  obtain ⟨nw, p1⟩ := p1
  refine lc_it wk (fun i H => ∃ F' acc vs gs, Le F1 F' ∧ Ok Δ am F' σ H ⟨c1.env, gs⟩ ∧ H D = some (.lst vs) ∧ F' D = none ∧ RpA F' vs acc ∧
    (∀ (i : Nat) (r : Rv), c1.env[i]? = some (some r) → r.mu → σ[i]? ≠ some (some (.ref D))) ∧ lcW g t f vs0 c1.env XX P (xs.drop i) acc gs) ?_ ?_ ?_ ?_
  · obtain ⟨o2, r2⟩ := Rs.fresh o1 hD (vs := []) (xs := []) .nil
    refine ⟨F1, [], [], c1.g, Le.refl F1, o2, upd_same, o1.fh.nn hD, .nil, fun i ys e mu => r2.2 True.intro i ys e mu, p1⟩
  · rintro i H' _ ⟨F', acc, vs, gs, l2, o2, _⟩
    exact l2.trans o2.fh
  · rintro i v H2 H3 hi ⟨F', acc, vs, gs, l2, o2, hd, fd, ra, no, hw⟩ ⟨x, hx, hy⟩
    have h0 : Δ.H0 D = none := o1.new hD
    have hdrop : xs.drop i = x :: xs.drop (i + 1) := by
      rw [List.drop_eq_getElem_cons hi]
      rw [List.getElem?_eq_getElem hi] at hx
      cases hx
      rfl
    rw [hdrop] at hw
    obtain ⟨F3, l3, o3, hd3, fd3, rx⟩ : ∃ F3, Le F' F3 ∧ Ok Δ am F3 σ H3 ⟨c1.env, gs⟩ ∧ H3 D = some (.lst vs) ∧ F3 D = none ∧ Rp F3 v x := by
      rcases hy with ⟨rfl, rx⟩ | ⟨T, us, ds, rfl, hT, rfl, rfl, rx⟩
      · exact ⟨F', Le.refl F', o2, hd, fd, rx.mono l2⟩
      · obtain ⟨o3, l3, rp⟩ := o2.tupN hT (rx.mono l2)
        have ne : D ≠ T := ne_of_none hd hT
        exact ⟨_, l3, o3, by rw [upd_ne ne]; exact hd, by rw [upd_ne ne]; exact fd, rp⟩
    have f00 : Δ.F0 D = none := o3.f0.nn fd3
    have na : Δ.a0 ≠ some D := fun z => (o3.al D z).2 h0
    have oh := o3.hold hd3 fd3 h0 no
    refine hg (Δ.hold D (.lst vs)) rfl _ _ _ _ ⟨am, F3, _, .d x, _, oh.wiped vs0, .of rx, hw, fun c2 F4 σ4 H4 p4 l4 o4 t4 => ?_⟩
    obtain ⟨e4, p4⟩ := p4
    refine ⟨?_, ?_⟩
    · rw [wipe_tch t4 hws]
      exact wipe_idem σ _
    have kxh : ∀ {G : Hp}, Le F G → KX (Δ.hold D (.lst vs)) am G XX := fun {G} lg x g F' H' h l fn => kx x g F' H' h (lg.trans l) (fn.unhold h0 na)
    have lF3 : Le F F3 := (l1.trans l2).trans l3
    refine ht (Δ.hold D (.lst vs)) rfl _ _ _ ⟨am, F4, c2, _, XX, o4, p4, fun b c3 F5 H5 p5 l5 o5 => ?_, kxh (lF3.trans l4)⟩
    obtain ⟨e5, p5⟩ := p5
    cases b with
    | true =>
      rw [if_pos rfl] at p5 ⊢
      refine he (Δ.hold D (.lst vs)) rfl _ _ _ ⟨am, F5, c3, _, XX, o5, p5, fun r c6 F6 v6 H6 p6 l6 o6 s6 => ?_, kxh ((lF3.trans l4).trans l5)⟩
      obtain ⟨e6, p6⟩ := p6
      obtain ⟨y, F7, hy, l7, o7, rp7⟩ := s6.data o6 p6
      obtain ⟨o8, hd8, fd8, no8⟩ := o7.unhold h0 f00 na
      obtain ⟨c6e, c6g⟩ := c6
      have e6 : c6e = c2.env := e6
      subst e6
      have ll : Le F' F7 := (((l3.trans l4).trans l5).trans l6).trans l7
      have o9 := o2.unwipe o8 ll t4 hws e4 nw
      refine ⟨vs, hd8, Nat.lt_of_lt_of_le (show vs.length < 1000000 by rw [ra.length]; exact hy.1) (line_of (Nat.le_refl _)), F7, acc ++ [y], vs ++ [v6], c6g, l2.trans ll, o9.chg hd8 fd8 h0 no, upd_same, fd8, (ra.mono ll).append (.one rp7), no, hy.2⟩
    | false =>
      rw [if_neg Bool.false_ne_true] at p5 ⊢
      obtain ⟨o8, hd8, fd8, no8⟩ := o5.unhold h0 f00 na
      obtain ⟨c3e, c3g⟩ := c3
      have e5 : c3e = c2.env := e5
      subst e5
      have ll : Le F' F5 := (l3.trans l4).trans l5
      have o9 := o2.unwipe o8 ll t4 hws e4 nw
      exact ⟨F5, acc, vs, c3g, l2.trans ll, o9, hd8, fd8, ra.mono ll, no, p5⟩
  · rintro H2 ⟨F', acc, vs, gs, l2, o2, hd, fd, ra, no, hw⟩
    rw [List.drop_length] at hw
    exact kq (.own acc) ⟨c1.env, gs⟩ F' (.ref D) H2 hw (l1.trans l2) o2 ⟨⟨D, vs, rfl, hd, fd, o1.new hD, ra⟩, fun _ i ys e mu => no i ys e mu⟩
theorem de_lc {elt tg iter : Expr} {ifs : List Expr} {scope : Scope} {own : List (Str × Nat)} {it : WI} {g : WG} {t : WT} {f : WE} {ws : List Nat} (hc : X.calm = true) (hN : X.N.Nodup) (hi : PI X tg iter (tI Δ it)) (bok : BlkOk X.N X.env.scope scope own)
    (hg : ∀ (s : Shared) (H : Hp) (C : Addr) (cl : List (Str × Addr)) (fp : List Addr) (Δ' : Dx), Δ'.K = Δ.K → PG (X.blk s H scope (compEnvC scope cl C X.env) fp) tg (tG Δ' ws g))
    (ht : ∀ (s : Shared) (H : Hp) (C : Addr) (cl : List (Str × Addr)) (fp : List Addr) (Δ' : Dx), Δ'.K = Δ.K → PTs (X.blk s H scope (compEnvC scope cl C X.env) fp) ifs (tT Δ' t))
    (he : ∀ (s : Shared) (H : Hp) (C : Addr) (cl : List (Str × Addr)) (fp : List Addr) (Δ' : Dx), Δ'.K = Δ.K → PE (X.blk s H scope (compEnvC scope cl C X.env) fp) elt (tE Δ' f))
    (hws : ∀ i ∈ ws, i ∈ own.map (·.2) := by decide) (hs : ∀ x, foldedSetIterable iter X.env x = pure x := by intro _; rfl) :
    PE X (.ListComp elt [⟨tg, iter, ifs, 0⟩] scope pos) (tE Δ (eLc it g t f (own.map (·.2)))) := by
  let tg' : TG := fun v σ H Q => ∃ Δ' : Dx, Δ'.K = Δ.K ∧ tG Δ' ws g v σ H Q
  let tt' : TT := fun σ H Q => ∃ Δ' : Dx, Δ'.K = Δ.K ∧ tT Δ' t σ H Q
  let te' : TE := fun σ H Q => ∃ Δ' : Dx, Δ'.K = Δ.K ∧ tE Δ' f σ H Q
  exact (pe_lc (g := tg') (tt := tt') (te := te') hc hN hi bok (fun s H C cl fp => ⟨fun pins s' σ H' v u Q I r ⟨Δ', e, h⟩ => (hg s H C cl fp Δ' e).run pins s' σ H' v u Q I r h⟩)
    (fun s H C cl fp => ⟨fun pins s' σ H' Q I ⟨Δ', e, h⟩ => (ht s H C cl fp Δ' e).run pins s' σ H' Q I h⟩) (fun s H C cl fp => ⟨fun pins s' σ H' Q I ⟨Δ', e, h⟩ => (he s H C cl fp Δ' e).run pins s' σ H' Q I h⟩) hs).imp
    fun σ H Q h => lc_of (fun Δ' e v σ H Q h => ⟨Δ', e, h⟩) (fun Δ' e σ H Q h => ⟨Δ', e, h⟩) (fun Δ' e σ H Q h => ⟨Δ', e, h⟩) hws σ H Q h
/-- name = [..] on one row, the name a local -/
theorem ds_setLc (i : Nat) {y : Str} {py spos : Pos} {elt tg iter : Expr} {ifs : List Expr} {scope : Scope} {own : List (Str × Nat)} {it : WI} {g : WG} {t : WT} {f : WE} {ws : List Nat} (hc : X.calm = true) (hy : X.N[i]? = some y) (hyl : X.env.scope.names.lookup y = some .local) (hsw : swapsWith (.ListComp elt [⟨tg, iter, ifs, 0⟩] scope pos) (some (.Name y py)) spos.line X.env = pure true) (hN : X.N.Nodup) (hi : PI X tg iter (tI Δ it)) (bok : BlkOk X.N X.env.scope scope own)
    (hg : ∀ (s : Shared) (H : Hp) (C : Addr) (cl : List (Str × Addr)) (fp : List Addr) (Δ' : Dx), Δ'.K = Δ.K → PG (X.blk s H scope (compEnvC scope cl C X.env) fp) tg (tG Δ' ws g))
    (ht : ∀ (s : Shared) (H : Hp) (C : Addr) (cl : List (Str × Addr)) (fp : List Addr) (Δ' : Dx), Δ'.K = Δ.K → PTs (X.blk s H scope (compEnvC scope cl C X.env) fp) ifs (tT Δ' t))
    (he : ∀ (s : Shared) (H : Hp) (C : Addr) (cl : List (Str × Addr)) (fp : List Addr) (Δ' : Dx), Δ'.K = Δ.K → PE (X.blk s H scope (compEnvC scope cl C X.env) fp) elt (tE Δ' f))
    (hws : ∀ i ∈ ws, i ∈ own.map (·.2) := by decide) (hs : ∀ x, foldedSetIterable iter X.env x = pure x := by intro _; rfl) :
    PS X (.Assign [.Name y py] (.ListComp elt [⟨tg, iter, ifs, 0⟩] scope pos) spos) (tS Δ (sAsg (eLc it g t f (own.map (·.2))) (gN i))) := by
  let tg' : TG := fun v σ H Q => ∃ Δ' : Dx, Δ'.K = Δ.K ∧ tG Δ' ws g v σ H Q
  let tt' : TT := fun σ H Q => ∃ Δ' : Dx, Δ'.K = Δ.K ∧ tT Δ' t σ H Q
  let te' : TE := fun σ H Q => ∃ Δ' : Dx, Δ'.K = Δ.K ∧ tE Δ' f σ H Q
  exact (ps_setLc (g := tg') (tt := tt') (te := te') hc hN hy hyl hsw hi bok (fun s H C cl fp => ⟨fun pins s' σ H' v u Q I r ⟨Δ', e, h⟩ => (hg s H C cl fp Δ' e).run pins s' σ H' v u Q I r h⟩)
    (fun s H C cl fp => ⟨fun pins s' σ H' Q I ⟨Δ', e, h⟩ => (ht s H C cl fp Δ' e).run pins s' σ H' Q I h⟩) (fun s H C cl fp => ⟨fun pins s' σ H' Q I ⟨Δ', e, h⟩ => (he s H C cl fp Δ' e).run pins s' σ H' Q I h⟩) hs).imp
    fun D σ H h => asg_of (us := [i]) (fun σ H Q h => lc_of (fun Δ' e v σ H Q h => ⟨Δ', e, h⟩) (fun Δ' e σ H Q h => ⟨Δ', e, h⟩) (fun Δ' e σ H Q h => ⟨Δ', e, h⟩) hws σ H Q h) (fun v σ H Q ⟨am, F, c, r, P, ok, s, h, kq⟩ => kq _ F _ H h.2 (Le.refl F) (ok.put s i) (.one σ i _)) D σ H h
end
end Dl
set_option Elab.async false
set_option maxRecDepth 100000
set_option linter.all false
set_option autoImplicit false
namespace Dl
open PySem L2
variable [TabF]
section
variable {X : Cx} {Δ : Dx} {a b e : Expr} {fa fb fc : WE} {pos : Pos} {es : List Expr} {fr : WA} {st : Stmt} {rest sa sb : List Stmt} {ws wt : WS}
/-! ### a name's own list, changed -/
def ownD (c : Cf) (i : Nat) (k : List Px → Prop) : Prop := match c.env[i]? with
  | some (some (.own xs)) => k xs
  | _ => False
def isOwn (c : Cf) (i : Nat) : Prop := ownD c i fun _ => True
theorem Ok.mine {am : Addr} {F : Hp} {σ : St} {H : Hp} {c : Cf} (k : Ok Δ am F σ H c) {i : Nat} {q : List Px → Prop} (h : ownD c i q) :
    ∃ a vs xs, q xs ∧ c.env[i]? = some (some (.own xs)) ∧ σ[i]? = some (some (.ref a)) ∧ H a = some (.lst vs) ∧ F a = none ∧ Δ.H0 a = none ∧ RpA F vs xs := by
  unfold ownD at h
  split at h
  · rename_i xs e
    obtain ⟨v, h1, a, vs, e1, e2, e3, e4, e5⟩ := k.sv i _ e
    subst e1
    exact ⟨a, vs, xs, h, e, h1, e2, e3, e4, e5⟩
  · exact h.elim
theorem set_self {α : Type} {l : List α} {i : Nat} {x : α} (h : l[i]? = some x) : l.set i x = l := by
  apply List.ext_getElem?
  intro j
  by_cases e : i = j
  · subst e
    rw [List.getElem?_set_self (List.getElem?_eq_some_iff.mp h).1, h]
  · rw [List.getElem?_set_ne e]
theorem Ok.mutate {am : Addr} {F : Hp} {σ : St} {H : Hp} {c : Cf} (k : Ok Δ am F σ H c) {i : Nat} {a : Addr} {vs us : List V} {xs ys : List Px} (e : c.env[i]? = some (some (.own xs))) (h1 : σ[i]? = some (some (.ref a))) (h2 : H a = some (.lst vs)) (h3 : F a = none) (h4 : Δ.H0 a = none) (r : RpA F us ys) :
    Ok Δ am F σ (upd H a (.lst us)) (putE c i (.own ys)) := by
  have no : ∀ (j : Nat) (zs : Rv), j ≠ i → c.env[j]? = some (some zs) → zs.mu → σ[j]? ≠ some (some (.ref a)) := fun j zs n p mu z => k.di j i zs _ n p e mu True.intro (z.trans h1.symm)
  have k1 : Ok Δ am F σ H { c with env := c.env.set i none } := ⟨k.fh, k.f0, k.fr, k.tb, k.pr, k.al, k.gn, by simpa using k.len, fun j r e => by
      rw [env_get] at e
      split at e
      · cases e
      · exact k.sv j r e, fun j l ys zs n p q => by
      rw [env_get] at p q
      split at p
      · cases p
      · split at q
        · cases q
        · exact k.di j l ys zs n p q⟩
  have hi : i < c.env.length := (List.getElem?_eq_some_iff.mp e).1
  have no' : ∀ (j : Nat) (zs : Rv), (c.env.set i none)[j]? = some (some zs) → zs.mu → σ[j]? ≠ some (some (.ref a)) := fun j zs p => by
    rw [env_get] at p
    split at p
    · cases p
    · rename_i q
      exact no j zs (fun z => q ⟨z, hi⟩) p
  have k2 := (k1.chg (ws := us) h2 h3 h4 no').put (r := .own ys) (v := .ref a) ⟨⟨a, us, rfl, upd_same, h3, h4, r⟩, fun _ j zs p => no' j zs p⟩ i
  rw [set_self h1] at k2
  have : putE c i (.own ys) = { c with env := (c.env.set i none).set i (some (.own ys)) } := by
    unfold putE
    rw [List.set_set]
  rw [this]
  exact k2
def eApp (i : Nat) (fb : WE) : WE := fun c P X => isOwn c i ∧ fb c (fun r c1 => asD r fun y => ownD c1 i fun xs => xs.length < 1000000 ∧ P (.d .none) (putE c1 i (.own (xs ++ [y])))) X
def eExt (i : Nat) (fb : WE) : WE := fun c P X => isOwn c i ∧ fb c (fun r c1 => asL r fun ys => ownD c1 i fun xs => xs.length + ys.length ≤ 1000000 ∧ P (.d .none) (putE c1 i (.own (xs ++ ys)))) X
def ePop (i : Nat) : WE := fun c P _ => ownD c i fun xs => match xs[xs.length - 1]? with
  | some y => P (.d y) (putE c i (.own xs.dropLast))
  | none => False
section
variable {x : Str} {p p2 : Pos}
theorem de_app (i : Nat) (hb : PE X b (tE Δ fb)) (hN : X.N[i]? = some x := by rfl)
    (hv : Vis X.env.scope x := by first | exact Or.inl rfl | exact Or.inr (Or.inl rfl) | exact Or.inr (Or.inr rfl)) (hd : (x == ("__debug__" : Str)) = false := by decide)
    (hcd : (x == ("__classdict__" : Str)) = false := by decide) (hst : starEach (b :: []) X.env = (false, eval b X.env) :: starEach [] X.env := by rfl) (hln : (p2.endLine == pos.line) = true := by rfl)
    (hfw : ((backTo pos (starEach [b] X.env)).all (fun x => !x.1) && (backToKw pos (keywordEach [] X.env)).all (fun x => x.1.isSome) && decide ([b].length + ([] : List Keyword).length + (if ([] : List Keyword).isEmpty then 0 else 1) < 30)) = true := by rfl) : PE X (.Call (.Attribute (.Name x p) "append" p2) [b] [] pos) (tE Δ (eApp i fb)) := by
  refine (pe_bm PySem.F.plainAttrs_list PySem.F.slot_list_append PySem.F.type_list_append mt_append (pv i hN hv hd hcd) (pa_cons hb pa_nil hst) rfl hfw hln hst).imp fun σ H Q ⟨am, F, c, P, XX, ok, ⟨ho, hf⟩, kq, kx⟩ => ?_
  obtain ⟨a, vs, xs, _, e0, h1, h2, h3, h4, h5⟩ := ok.mine ho
  refine ⟨_, h1, Or.inl ⟨rfl, _, SqL.of h2⟩, am, F, c, _, XX, ok, hf, fun r c1 F1 v1 H1 p1 l1 o1 s1 => ?_, kx⟩
  obtain ⟨y, F2, hy, l2, o2, ry⟩ := s1.data o1 p1
  obtain ⟨a', us, ys, q, e1, g1, g2, g3, g4, g5⟩ := o2.mine hy
  rw [h1] at g1
  cases g1
  exact ⟨a, us, v1, rfl, rfl, g2, Nat.lt_of_lt_of_le (show us.length < 1000000 by rw [g5.length]; exact q.1) (line_of (Nat.le_refl _)), kq _ _ F2 _ _ q.2 (l1.trans l2) (o2.mutate e1 h1 g2 g3 g4 (g5.append (.one ry))) (.of .non)⟩
theorem de_ext (i : Nat) (hb : PE X b (tE Δ fb)) (hN : X.N[i]? = some x := by rfl)
    (hv : Vis X.env.scope x := by first | exact Or.inl rfl | exact Or.inr (Or.inl rfl) | exact Or.inr (Or.inr rfl)) (hd : (x == ("__debug__" : Str)) = false := by decide)
    (hcd : (x == ("__classdict__" : Str)) = false := by decide) (hst : starEach (b :: []) X.env = (false, eval b X.env) :: starEach [] X.env := by rfl) (hln : (p2.endLine == pos.line) = true := by rfl)
    (hfw : ((backTo pos (starEach [b] X.env)).all (fun x => !x.1) && (backToKw pos (keywordEach [] X.env)).all (fun x => x.1.isSome) && decide ([b].length + ([] : List Keyword).length + (if ([] : List Keyword).isEmpty then 0 else 1) < 30)) = true := by rfl) : PE X (.Call (.Attribute (.Name x p) "extend" p2) [b] [] pos) (tE Δ (eExt i fb)) := by
  refine (pe_bm PySem.F.plainAttrs_list PySem.F.slot_list_extend PySem.F.type_list_extend mt_extend (pv i hN hv hd hcd) (pa_cons hb pa_nil hst) rfl hfw hln hst).imp fun σ H Q ⟨am, F, c, P, XX, ok, ⟨ho, hf⟩, kq, kx⟩ => ?_
  obtain ⟨a, vs, xs, _, e0, h1, h2, h3, h4, h5⟩ := ok.mine ho
  refine ⟨_, h1, Or.inl ⟨rfl, _, SqL.of h2⟩, am, F, c, _, XX, ok, hf, fun r c1 F1 v1 H1 p1 l1 o1 s1 => ?_, kx⟩
  obtain ⟨b', zs, ws, F2, rfl, hy, l2, o2, q1, q2⟩ := asL_of o1 s1 p1
  obtain ⟨a', us, ys, q, e1, g1, g2, g3, g4, g5⟩ := o2.mine hy
  rw [h1] at g1
  cases g1
  exact ⟨a, b', us, zs, rfl, rfl, g2, o2.fh _ _ q1, line_of (by rw [g5.length, q2.length]; exact q.1), kq _ _ F2 _ _ q.2 (l1.trans l2) (o2.mutate e1 h1 g2 g3 g4 (g5.append q2)) (.of .non)⟩
theorem de_pop (i : Nat) (hN : X.N[i]? = some x := by rfl)
    (hv : Vis X.env.scope x := by first | exact Or.inl rfl | exact Or.inr (Or.inl rfl) | exact Or.inr (Or.inr rfl)) (hd : (x == ("__debug__" : Str)) = false := by decide)
    (hcd : (x == ("__classdict__" : Str)) = false := by decide) (hln : (p2.endLine == pos.line) = true := by rfl) : PE X (.Call (.Attribute (.Name x p) "pop" p2) [] [] pos) (tE Δ (ePop i)) := by
  refine (pe_bm0 PySem.F.plainAttrs_list PySem.F.slot_list_pop PySem.F.type_list_pop mt_pop (pv i hN hv hd hcd) rfl hln).imp fun σ H Q ⟨am, F, c, P, XX, ok, hf, kq, kx⟩ => ?_
  obtain ⟨a, vs, xs, q, e0, h1, h2, h3, h4, h5⟩ := ok.mine hf
  refine ⟨_, h1, Or.inl ⟨rfl, _, SqL.of h2⟩, ?_⟩
  split at q
  · rename_i y ey
    obtain ⟨v, ev, rv⟩ := h5.get ey
    refine ⟨a, vs, v, rfl, rfl, h2, (by rw [h5.length]; exact ev), kq _ _ F _ _ q (Le.refl F) (ok.mutate e0 h1 h2 h3 h4 h5.dropLast) (.of rv)⟩
  · exact q.elim
/-- name[k] = e -/
def sSetI (i : Nat) (fe fi : WE) : WS := fun c P X => isOwn c i ∧ fe c (fun r c1 => asD r fun y => isOwn c1 i ∧ fi c1 (fun r2 c2 => match r2 with
  | .d (.int k) => ownD c2 i fun xs => (match ixN xs.length k with
    | some j => P (.nx (putE c2 i (.own (xs.set j y))))
    | none => False)
  | _ => False) X) X
/-- name op= e -/
def sAug (i : Nat) (o : OD) (fb : WE) : WS := fun c P X => hasD c i ∧ fb c (fun r c1 => asD r fun y => match c1.env[i]? with
  | some (some (.d x)) => o x y fun rr => P (.nx (putE c1 i rr))
  | _ => False) X
theorem ds_aug (i : Nat) {op : Operator} {o : OD} (hN : X.N.Nodup) (hb : PE X b (tE Δ fb)) (ho : OpD X Δ (inplaceOp op) o) (hi : X.N[i]? = some x := by rfl) (hx : Loc X.env.scope x := by first | exact Or.inl rfl | exact Or.inr rfl)
    (hf : X.fn x = true ∨ X.env.scope.names.lookup x = some .local := by first | exact .inl rfl | exact .inr rfl) : PS X (.AugAssign (.Name x p) op b pos) (tS Δ (sAug i o fb)) := by
  obtain ⟨r, h1, h2⟩ := ho.ex
  refine (ps_aug (ti := r) hN hi hx hb h1 hf).imp fun D σ H ⟨am, F, c, P, XX, ok, ⟨hd, hf⟩, kf, kx⟩ => ?_
  obtain ⟨_, v, _, hv, _⟩ := ok.look hd
  refine ⟨v, hv, am, F, c, _, XX, ok, hf, fun r2 c2 F2 v2 H2 p2 l2 o2 s2 => ?_, kx am⟩
  obtain ⟨y, F3, hy, l3, o3, ry⟩ := s2.data o2 p2
  split at hy
  · rename_i z ez
    obtain ⟨w, g1, g2⟩ := o3.sv i _ ez
    rw [hv] at g1
    cases g1
    exact h2 am F3 σ H2 c2 v v2 z y _ _ o3 g2 ry hy fun rr F4 v4 H4 p4 l4 o4 s4 => kf.1 _ am F4 _ H4 p4 ((l2.trans l3).trans l4) (o4.put s4 i)
  · exact hy.elim
end
theorem di_add : OpD X Δ (inplaceOp .Add) (iD (fun i j => .int (i + j)) fun _ _ => True) := op_iD0 iop_add fun _ _ _ => .int _
theorem CMul2.ok {i j : Int} (h : CMul2 i j) : PySem.IntMulOk i j := by
  rcases h with h | h | ⟨a, b, h1, h2, h3, h4, h5⟩
  · exact CMul.ok (.inl h)
  · exact CMul.ok (.inr h)
  · exact (wide_mul h1 h2 h3 h4 h5).ok
theorem di_mul : OpD X Δ (inplaceOp .Mult) (iD (fun i j => .int (i * j)) CMul2) :=
  op_iD (C' := CMul2) (opI fun _ _ _ _ _ _ _ hc q => PyProof.Rows.imul_int q hc.ok) (fun _ _ h => h) fun _ _ _ _ => .int _
/-! ### loops -/
def forW (g : WG) (f : WS) (X : XP) (P : Fl → Prop) : List Px → Cf → Prop
  | [], c => P (.nx c)
  | x :: xs, c => g (.d x) c fun c1 => f c1 (fun fl => match fl with
    | .nx c2 => forW g f X P xs c2
    | .ct c2 => forW g f X P xs c2
    | .bk c2 => P (.nx c2)
    | .rt r gs => P (.rt r gs)) X
def sFor (it : WI) (g : WG) (f : WS) : WS := fun c P X => it c (fun xs c1 => forW g f X P xs c1) X
theorem ds_for {tg iter : Expr} {body : List Stmt} {it : WI} {g : WG} {us : List Nat} (hp : PassesOwn (model X.prog X.w) X.A X.env X.xe) (hc : X.calm = true) (hi : PI X tg iter (tI Δ it)) (hg : PG X tg (tG Δ us g)) (hb : PSs X body (tS Δ ws))
    (hs : ∀ x, foldedSetIterable iter X.env x = pure x := by intro _; rfl) : PS X (.For tg iter body [] pos) (tS Δ (sFor it g ws)) := by
  refine (ps_for hp hc hi hg hb hs).imp fun D σ H ⟨am, F, c, P, XX, ok, hf, kf, kx⟩ => ?_
  refine ⟨am, F, c, _, XX, ok, hf, fun xs c1 F1 H1 J p1 l1 o1 wk => ?_, kx am⟩
  refine for_it wk (fun i σ H => ∃ am' F' c', Le F1 F' ∧ Ok Δ am' F' σ H c' ∧ forW g ws XX P (xs.drop i) c') ⟨am, F1, c1, Le.refl F1, o1, p1⟩ (fun i σ H _ ⟨am', F', c', l, o, _⟩ => l.trans o.fh) ?_ ?_
  · rintro i v σ2 H2 H3 hi ⟨am', F', c', l2, o2, hw⟩ ⟨x, hx, hy⟩
    have hdrop : xs.drop i = x :: xs.drop (i + 1) := by
      rw [List.drop_eq_getElem_cons hi]
      rw [List.getElem?_eq_getElem hi] at hx
      cases hx
      rfl
    rw [hdrop] at hw
    obtain ⟨F3, l3, o3, rx⟩ : ∃ F3, Le F' F3 ∧ Ok Δ am' F3 σ2 H3 c' ∧ Rp F3 v x := by
      rcases hy with ⟨rfl, rx⟩ | ⟨T, vs, ds, rfl, hT, rfl, rfl, rx⟩
      · exact ⟨F', Le.refl F', o2, rx.mono l2⟩
      · obtain ⟨o3, l3, rp⟩ := o2.tupN hT (rx.mono l2)
        exact ⟨_, l3, o3, rp⟩
    refine ⟨am', F3, c', .d x, _, o3, .of rx, hw, fun c4 F4 σ4 H4 p4 l4 o4 _ => ?_⟩
    have ll : Le F F4 := ((l1.trans l2).trans l3).trans l4
    have ll1 : Le F1 F4 := (l2.trans l3).trans l4
    exact ⟨am', F4, c4, _, XX, o4, p4, ⟨fun c5 am5 F5 σ5 H5 p5 l5 o5 => ⟨am5, F5, c5, ll1.trans l5, o5, p5⟩, fun c5 am5 F5 σ5 H5 p5 l5 o5 => kf.1 c5 am5 F5 σ5 H5 p5 (ll.trans l5) o5,
      fun c5 am5 F5 σ5 H5 p5 l5 o5 => ⟨am5, F5, c5, ll1.trans l5, o5, p5⟩, fun r gs am5 F5 H5 v5 p5 l5 o5 s5 => kf.2.2.2 r gs am5 F5 H5 v5 p5 (ll.trans l5) o5 s5⟩, kx.le ll⟩
  · rintro σ2 H2 ⟨am', F', c', l2, o2, hw⟩
    rw [List.drop_length] at hw
    exact kf.1 c' am' F' σ2 H2 hw (l1.trans l2) o2
def whW (t : WT) (f : WS) (X : XP) (P : Fl → Prop) : Nat → Cf → Prop
  | 0, _ => False
  | n + 1, c => t c (fun b c1 => if b = true then f c1 (fun fl => match fl with
      | .nx c2 => whW t f X P n c2
      | .ct c2 => whW t f X P n c2
      | .bk c2 => P (.nx c2)
      | .rt r gs => P (.rt r gs)) X else P (.nx c1)) X
def sWh (t : WT) (f : WS) : WS := fun c P X => ∃ n, whW t f X P n c
theorem ds_wh {cnd : Expr} {body : List Stmt} {fA : WT} (hp : PassesOwn (model X.prog X.w) X.A X.env X.xe) (hc : PT X cnd (tT Δ fA)) (hb : PSs X body (tS Δ ws)) : PS X (.While cnd body [] pos) (tS Δ (sWh fA ws)) := by
  refine (ps_while hp hc hb).imp fun D σ H ⟨am, F, c, P, XX, ok, ⟨n, hf⟩, kf, kx⟩ => ?_
  refine ⟨fun m σ H => ∃ am' F' c', Le F F' ∧ Ok Δ am' F' σ H c' ∧ whW fA ws XX P m c', ⟨n, am, F, c, Le.refl F, ok, hf⟩, ?_⟩
  rintro m σ2 H2 ⟨am', F', c', l2, o2, hw⟩
  cases m with
  | zero => exact hw.elim
  | succ m =>
    refine ⟨am', F', c', _, XX, o2, hw, fun b c3 F3 H3 p3 l3 o3 => ?_, (kx am').le l2⟩
    cases b with
    | true =>
      rw [if_pos rfl] at p3 ⊢
      refine ⟨fun σ H => ∃ am' F' c', Le F F' ∧ Ok Δ am' F' σ H c' ∧ whW fA ws XX P m c', fun σ' H' h => ⟨m, Nat.lt_succ_self m, h⟩, am', F3, c3, _, XX, o3, p3, ?_, kx.le (l2.trans l3)⟩
      have ll : Le F F3 := l2.trans l3
      exact ⟨fun c5 am5 F5 σ5 H5 p5 l5 o5 => ⟨am5, F5, c5, ll.trans l5, o5, p5⟩, fun c5 am5 F5 σ5 H5 p5 l5 o5 => kf.1 c5 am5 F5 σ5 H5 p5 (ll.trans l5) o5,
        fun c5 am5 F5 σ5 H5 p5 l5 o5 => ⟨am5, F5, c5, ll.trans l5, o5, p5⟩, fun r gs am5 F5 H5 v5 p5 l5 o5 s5 => kf.2.2.2 r gs am5 F5 H5 v5 p5 (ll.trans l5) o5 s5⟩
    | false =>
      rw [if_neg Bool.false_ne_true] at p3 ⊢
      exact kf.1 c3 am' F3 σ2 H3 p3 (l2.trans l3) o3
end
end Dl
set_option Elab.async false
set_option maxRecDepth 100000
set_option linter.all false
set_option autoImplicit false
namespace Dl
open PySem L2
variable [TabF]
/-! ### the drawing state: read, written, made -/
theorem k_ls : ¬ (Sum.inr ("left" : Str) : Key) = (Sum.inr ("seed" : Str) : Key) := by decide +kernel
theorem k_lc : ¬ (Sum.inr ("left" : Str) : Key) = (Sum.inr ("cells" : Str) : Key) := by decide +kernel
theorem k_lp : ¬ (Sum.inr ("left" : Str) : Key) = (Sum.inr ("spot" : Str) : Key) := by decide +kernel
theorem k_sc : ¬ (Sum.inr ("seed" : Str) : Key) = (Sum.inr ("cells" : Str) : Key) := by decide +kernel
theorem k_sp : ¬ (Sum.inr ("seed" : Str) : Key) = (Sum.inr ("spot" : Str) : Key) := by decide +kernel
theorem k_cp : ¬ (Sum.inr ("cells" : Str) : Key) = (Sum.inr ("spot" : Str) : Key) := by decide +kernel
def genKV (l s : Int) (ac : Addr) (p : Int) : List (Key × V) := [(.inr "left", .int l), (.inr "seed", .int s), (.inr "cells", .ref ac), (.inr "spot", .int p)]
theorem gv_left (l s : Int) (ac : Addr) (p : Int) : valV (genKV l s ac p) (Sum.inr ("left" : Str) : Key) = some (.int l) := valV_pos rfl
theorem gv_seed (l s : Int) (ac : Addr) (p : Int) : valV (genKV l s ac p) (Sum.inr ("seed" : Str) : Key) = some (.int s) := by
  unfold genKV
  rw [valV_neg k_ls, valV_pos rfl]
theorem gv_cells (l s : Int) (ac : Addr) (p : Int) : valV (genKV l s ac p) (Sum.inr ("cells" : Str) : Key) = some (.ref ac) := by
  unfold genKV
  rw [valV_neg k_lc, valV_neg k_sc, valV_pos rfl]
theorem gv_spot (l s : Int) (ac : Addr) (p : Int) : valV (genKV l s ac p) (Sum.inr ("spot" : Str) : Key) = some (.int p) := by
  unfold genKV
  rw [valV_neg k_lp, valV_neg k_sp, valV_neg k_cp, valV_pos rfl]
theorem gp_left (l s : Int) (ac : Addr) (p l' : Int) : putK (genKV l s ac p) (Sum.inr ("left" : Str) : Key) (.int l') = genKV l' s ac p := by
  unfold putK genKV
  simp only [List.any_cons, decide_true, Bool.true_or, if_true, List.map_cons, List.map_nil, if_neg (Ne.symm k_ls), if_neg (Ne.symm k_lc), if_neg (Ne.symm k_lp)]
theorem gp_spot (l s : Int) (ac : Addr) (p p' : Int) : putK (genKV l s ac p) (Sum.inr ("spot" : Str) : Key) (.int p') = genKV l s ac p' := by
  unfold putK genKV
  simp only [List.any_cons, decide_true, Bool.true_or, Bool.or_true, if_true, List.map_cons, List.map_nil, if_neg k_lp, if_neg k_sp, if_neg k_cp]
section
variable {X : Cx} {Δ : Dx} {a b e : Expr} {fa fb fc fd : WE} {pos : Pos} {x : Str} {p p2 p3 : Pos} {k : Nat}
/-- m['left'], .. -/
def eGL (i : Nat) : WE := fun c P _ => c.env[i]? = some (some .gen) ∧ c.g.isSome = true ∧ ∀ l : Int, 0 ≤ l → P (.d (.int l)) c
def eGS (i : Nat) : WE := fun c P _ => c.env[i]? = some (some .gen) ∧ c.g.isSome = true ∧ ∀ s : Int, 0 ≤ s → s < 2147483647 → P (.d (.int s)) c
def eGC (i : Nat) : WE := fun c P _ => c.env[i]? = some (some .gen) ∧ c.g.isSome = true ∧ ∀ ns : List Int, ns ≠ [] → ns.length ≤ 1000 → P (.d (.list (ns.map .int))) c
def eGP (i : Nat) : WE := fun c P _ => c.env[i]? = some (some .gen) ∧ ∃ n, c.g = some n ∧ n ≤ 2 ^ 40 ∧ ∀ s : Int, 0 ≤ s → s ≤ n → P (.d (.int s)) c
theorem Ok.gen {am : Addr} {F : Hp} {σ : St} {H : Hp} {c : Cf} (k : Ok Δ am F σ H c) {i : Nat} (h : c.env[i]? = some (some .gen)) : σ[i]? = some (some (.ref am)) := by
  obtain ⟨v, h1, h2⟩ := k.sv i _ h
  have e : v = .ref am := h2
  rw [h1, e]
theorem Ok.gen' {am : Addr} {F : Hp} {σ : St} {H : Hp} {c : Cf} (k : Ok Δ am F σ H c) (h : c.g.isSome = true) : ∃ n left seed spot ac ns, c.g = some n ∧ H am = some (.dK (genKV left seed ac spot)) ∧
    F ac = some (.lst (ns.map V.int)) ∧ ns ≠ [] ∧ ns.length ≤ 1000 ∧ 0 ≤ left ∧ 0 ≤ seed ∧ seed < 2147483647 ∧ 0 ≤ spot ∧ spot ≤ (n : Int) ∧ n ≤ 2 ^ 40 := by
  cases e : c.g with
  | none => rw [e] at h; cases h
  | some n =>
    obtain ⟨h1, h2, l, s, sp, ac, ns, h3⟩ := k.gn n e
    exact ⟨n, l, s, sp, ac, ns, rfl, h3⟩
section
variable (i : Nat) (hu : X.A.units + 1 < cLine) (hN : X.N[i]? = some x)
    (hv : Vis X.env.scope x) (hd : (x == ("__debug__" : Str)) = false) (hcd : (x == ("__classdict__" : Str)) = false)
include hu hN hv hd hcd
theorem de_gl : PE X (.Subscript (.Name x p) (.Constant (.str "left") k p2) pos) (tE Δ (eGL i)) := by
  refine (pe_dget hu (pv i hN hv hd hcd) (pe_str (x := "left")) (fun _ _ => rfl)).imp fun σ H Q ⟨am, F, c, P, XX, ok, ⟨h1, h2, h3⟩, kq, kx⟩ => ?_
  obtain ⟨n, left, seed, spot, ac, ns, q1, q2, q3⟩ := ok.gen' h2
  exact ⟨_, ok.gen h1, am, .int left, rfl, (gv_left left seed ac spot) ▸ DGet.k (k := (Sum.inr ("left" : Str) : Key)) q2, kq _ c F _ H (h3 left q3.2.2.2.1) (Le.refl F) ok (.of (.int _))⟩
theorem de_gs : PE X (.Subscript (.Name x p) (.Constant (.str "seed") k p2) pos) (tE Δ (eGS i)) := by
  refine (pe_dget hu (pv i hN hv hd hcd) (pe_str (x := "seed")) (fun _ _ => rfl)).imp fun σ H Q ⟨am, F, c, P, XX, ok, ⟨h1, h2, h3⟩, kq, kx⟩ => ?_
  obtain ⟨n, left, seed, spot, ac, ns, q1, q2, q3⟩ := ok.gen' h2
  exact ⟨_, ok.gen h1, am, .int seed, rfl, (gv_seed left seed ac spot) ▸ DGet.k (k := (Sum.inr ("seed" : Str) : Key)) q2, kq _ c F _ H (h3 seed q3.2.2.2.2.1 q3.2.2.2.2.2.1) (Le.refl F) ok (.of (.int _))⟩
theorem de_gp : PE X (.Subscript (.Name x p) (.Constant (.str "spot") k p2) pos) (tE Δ (eGP i)) := by
  refine (pe_dget hu (pv i hN hv hd hcd) (pe_str (x := "spot")) (fun _ _ => rfl)).imp fun σ H Q ⟨am, F, c, P, XX, ok, ⟨h1, n, h2, h2', h3⟩, kq, kx⟩ => ?_
  obtain ⟨m, left, seed, spot, ac, ns, q1, q2, q3⟩ := ok.gen' (by rw [h2]; rfl)
  rw [h2] at q1
  cases q1
  exact ⟨_, ok.gen h1, am, .int spot, rfl, (gv_spot left seed ac spot) ▸ DGet.k (k := (Sum.inr ("spot" : Str) : Key)) q2, kq _ c F _ H (h3 spot q3.2.2.2.2.2.2.1 q3.2.2.2.2.2.2.2.1) (Le.refl F) ok (.of (.int _))⟩
theorem de_gc : PE X (.Subscript (.Name x p) (.Constant (.str "cells") k p2) pos) (tE Δ (eGC i)) := by
  refine (pe_dget hu (pv i hN hv hd hcd) (pe_str (x := "cells")) (fun _ _ => rfl)).imp fun σ H Q ⟨am, F, c, P, XX, ok, ⟨h1, h2, h3⟩, kq, kx⟩ => ?_
  obtain ⟨n, left, seed, spot, ac, ns, q1, q2, q3⟩ := ok.gen' h2
  exact ⟨_, ok.gen h1, am, .ref ac, rfl, (gv_cells left seed ac spot) ▸ DGet.k (k := (Sum.inr ("cells" : Str) : Key)) q2, kq _ c F _ H (h3 ns q3.2.1 q3.2.2.1) (Le.refl F) ok (.of (.lst q3.1 (RpA.map_int ns)))⟩
/-- m['left'] = e, m['spot'] = e -/
def sGL (i : Nat) (fa : WE) : WS := fun c P X => fa c (fun r c1 => c1.env[i]? = some (some .gen) ∧ c1.g.isSome = true ∧ match r with
  | .d (.int l) => 0 ≤ l ∧ P (.nx c1)
  | _ => False) X
def sGP (i : Nat) (fa : WE) : WS := fun c P X => fa c (fun r c1 => c1.env[i]? = some (some .gen) ∧ c1.g.isSome = true ∧ match r with
  | .d (.int s) => 0 ≤ s ∧ ∃ n : Nat, s ≤ n ∧ n ≤ 2 ^ 40 ∧ P (.nx { c1 with g := some n })
  | _ => False) X
omit hu hN hv hd hcd in
theorem Ok.genSet {am : Addr} {F : Hp} {σ : St} {H : Hp} {c : Cf} (k : Ok Δ am F σ H c) (h : c.g.isSome = true) {o : HO} {m : Nat} (h2 : GenAt F (upd H am o) am m) : Ok Δ am F σ (upd H am o) { c with g := some m } := by
  obtain ⟨n, left, seed, spot, ac, ns, q1, q2, q3⟩ := k.gen' h
  obtain ⟨g1, g2, g3⟩ := k.gn n q1
  have ne : ∀ b u, F b = some u → b ≠ am := fun b u e z => by rw [z, g2] at e; cases e
  refine ⟨fun b u e => by rw [upd_ne (ne b u e)]; exact k.fh b u e, k.f0, k.fr, k.tb.upd (fun u e => by
    obtain ⟨_, _, _, _, _, e1, _⟩ := g3
    rw [e1] at e
    cases e
    exact dK_ok), fun b u e n => ?_, fun b e => ⟨?_, (k.al b e).2⟩, fun n' e => ?_, k.len, fun i r e => ?_, k.di⟩
  · have : b ≠ am := by
      rintro rfl
      rcases g1 with z | z
      · exact n z
      · rw [z.2] at e; cases e
    rw [upd_ne this]
    exact k.pr b u e n
  · obtain ⟨_, _, _, _, _, e1, _⟩ := h2
    rw [upd_same] at e1
    exact (k.al b e).1.upd fun ps z => by rw [z] at e1; cases e1
  · have e : some m = some n' := e
    cases e
    exact ⟨g1, g2, h2⟩
  · obtain ⟨v, h1, h2⟩ := k.sv i r e
    refine ⟨v, h1, ?_⟩
    cases r with
    | d x => exact h2
    | gen => exact h2
    | scr ns => exact h2
    | own xs =>
      obtain ⟨a, us, e1, e2, e3⟩ := h2
      exact ⟨a, us, e1, by rw [upd_ne (g3.ne e2)]; exact e2, e3⟩
    | dic D =>
      obtain ⟨a, us, e1, e2, e3⟩ := h2
      exact ⟨a, us, e1, by rw [upd_ne (g3.neD e2 e3.2.2)]; exact e2, e3⟩
theorem ds_gl (ha : PE X a (tE Δ fa)) (hs : swapsWith a (some (.Subscript (.Name x p) (.Constant (.str "left") k p2) p3)) pos.line X.env = pure false) : PS X (.Assign [.Subscript (.Name x p) (.Constant (.str "left") k p2) p3] a pos) (tS Δ (sGL i fa)) := by
  refine (ps_dput hu (pv i hN hv hd hcd) (pe_str (x := "left")) ha hs).imp fun D σ H ⟨am, F, c, P, XX, ok, hf, kf, kx⟩ => ?_
  refine ⟨am, F, c, _, XX, ok, hf, fun r c1 F1 v1 H1 p1 l1 o1 s1 => ?_, kx am⟩
  obtain ⟨h1, h2, p1⟩ := p1
  split at p1
  · rename_i l
    have h3 := s1.1
    cases h3
    obtain ⟨n, left, seed, spot, ac, ns, q1, q2, q3⟩ := o1.gen' h2
    have h4 := DPut.k (k := (Sum.inr ("left" : Str) : Key)) (v := V.int l) q2 (by show 4 < sizeLine; decide)
    rw [gp_left] at h4
    have g2 : GenAt F1 (upd H1 am (.dK (genKV l seed ac spot))) am n := ⟨l, seed, spot, ac, ns, upd_same, q3.1, q3.2.1, q3.2.2.1, p1.1, q3.2.2.2.2⟩
    have o2 := o1.genSet h2 g2
    have ec : { c1 with g := some n } = c1 := by
      obtain ⟨env, g⟩ := c1
      cases q1
      rfl
    rw [ec] at o2
    exact ⟨_, o1.gen h1, am, _, rfl, h4, kf.1 c1 am F1 σ _ p1.2 l1 o2⟩
  · exact p1.elim
theorem ds_gp (ha : PE X a (tE Δ fa)) (hs : swapsWith a (some (.Subscript (.Name x p) (.Constant (.str "spot") k p2) p3)) pos.line X.env = pure false) : PS X (.Assign [.Subscript (.Name x p) (.Constant (.str "spot") k p2) p3] a pos) (tS Δ (sGP i fa)) := by
  refine (ps_dput hu (pv i hN hv hd hcd) (pe_str (x := "spot")) ha hs).imp fun D σ H ⟨am, F, c, P, XX, ok, hf, kf, kx⟩ => ?_
  refine ⟨am, F, c, _, XX, ok, hf, fun r c1 F1 v1 H1 p1 l1 o1 s1 => ?_, kx am⟩
  obtain ⟨h1, h2, p1⟩ := p1
  split at p1
  · rename_i l
    have h3 := s1.1
    cases h3
    obtain ⟨n, left, seed, spot, ac, ns, q1, q2, q3⟩ := o1.gen' h2
    obtain ⟨p0, m, pm, pm2, p1⟩ := p1
    have h4 := DPut.k (k := (Sum.inr ("spot" : Str) : Key)) (v := V.int l) q2 (by show 4 < sizeLine; decide)
    rw [gp_spot] at h4
    have g2 : GenAt F1 (upd H1 am (.dK (genKV left seed ac l))) am m := ⟨left, seed, l, ac, ns, upd_same, q3.1, q3.2.1, q3.2.2.1, q3.2.2.2.1, q3.2.2.2.2.1, q3.2.2.2.2.2.1, p0, pm, pm2⟩
    exact ⟨_, o1.gen h1, am, _, rfl, h4, kf.1 _ am F1 σ _ p1 l1 (o1.genSet h2 g2)⟩
  · exact p1.elim
end
/-! the script -/
def scrD (c : Cf) (i : Nat) (k : List Int → Prop) : Prop := match c.env[i]? with
  | some (some (.scr ns)) => k ns
  | _ => False
theorem Ok.scr {am : Addr} {F : Hp} {σ : St} {H : Hp} {c : Cf} (k : Ok Δ am F σ H c) {i : Nat} {q : List Int → Prop} (h : scrD c i q) : ∃ a ns, q ns ∧ σ[i]? = some (some (.ref a)) ∧ SqL Δ.K F a (ns.map V.int) := by
  unfold scrD at h
  split at h
  · rename_i ns e
    obtain ⟨v, h1, a, e1, e2⟩ := k.sv i _ e
    subst e1
    exact ⟨a, ns, h, h1, e2⟩
  · exact h.elim
def iScr (i : Nat) : WI := fun c P _ => scrD c i fun ns => P (ns.map .int) c
section
variable (i : Nat) (hK : Δ.K = X.K) (hN : X.N[i]? = some x)
    (hv : Vis X.env.scope x) (hd : (x == ("__debug__" : Str)) = false) (hcd : (x == ("__classdict__" : Str)) = false)
include hK hN hv hd hcd
theorem di_scr {tg : Expr} : PI X tg (.Name x p) (tI Δ (iScr i)) := by
  refine (pi_list (pv i hN hv hd hcd)).imp fun σ H R ⟨am, F, c, P, XX, ok, hf, kq, kx⟩ => ?_
  obtain ⟨a, ns, h1, h2, h3⟩ := ok.scr hf
  rw [hK] at h3
  refine ⟨_, h2, a, rfl, ⟨_, sq_le ok.fh h3⟩, kq _ c F H _ h1 (Le.refl F) ok ?_⟩
  have w : L2.Walk (Itl X.K a) (ns.map V.int).length (fun H => SqL X.K H a (ns.map V.int)) (YAt (ns.map V.int)) := walk_list
  rw [(RpA.map_int (F := F) ns).length] at w
  exact w.mono (fun H h => sq_le h h3) fun i H v H' _ _ y => y_at (RpA.map_int ns) i H v H' y
def eSlS (i : Nat) (fl fh : WO) : WE := fun c P X => scrD c i (fun _ => True) ∧ fl c (fun lo c2 => fh c2 (fun hi c3 => scrD c3 i fun ns => P (.own ((cutX ns lo hi).map .int)) c3) X) X
omit hK hN hv hd hcd in
theorem cut_map {α β : Type} (f : α → β) (ns : List α) (lo hi : Option Int) : cutX (ns.map f) lo hi = (cutX ns lo hi).map f := by
  unfold cutX
  rw [List.length_map, List.map_take, List.map_drop]
theorem de_slS {lo hi : Option Expr} {fl fh : WO} (hl : PO X lo (tO Δ fl)) (hh : PO X hi (tO Δ fh)) : PE X (.Subscript (.Name x p) (.Slice lo hi none p2) pos) (tE Δ (eSlS i fl fh)) := by
  refine (pe_slice sl_list (pv i hN hv hd hcd) hl hh).imp fun σ H Q ⟨am, F, c, P, XX, ok, ⟨hd, hf⟩, kq, kx⟩ => ?_
  obtain ⟨a, ns, _, h2, _⟩ := ok.scr hd
  refine ⟨_, h2, am, F, c, _, XX, ok, hf, fun u c2 F2 H2 p2 l2 o2 => ?_, kx⟩
  refine ⟨am, F2, c2, _, XX, o2, p2, fun w c3 F3 H3 p3 l3 o3 => ?_, kx.le l2⟩
  obtain ⟨a', ms, h1, h4, h5⟩ := o3.scr p3
  rw [h2] at h4
  cases h4
  refine ⟨a, _, rfl, hK ▸ sq_le o3.fh h5, fun p hp => ?_⟩
  have r := (RpA.map_int (F := F3) ms).cut u w
  rw [cut_map] at r
  obtain ⟨o', rs⟩ := Rs.fresh o3 hp r
  exact kq _ c3 F3 _ _ h1 (l2.trans l3) o' rs
end
/-! ### the drawing state made and handed back -/
def sRetG (f1 f2 f3 f4 : WE) : WS := fun c P X => c.g = none ∧ f1 c (fun r1 c1 => match r1 with
  | .d (.int l) => 0 ≤ l ∧ f2 c1 (fun r2 c2 => match r2 with
    | .d (.int s) => 0 ≤ s ∧ s < 2147483647 ∧ f3 c2 (fun r3 c3 => asL r3 fun xs => ∃ ns : List Int, xs = ns.map .int ∧ ns ≠ [] ∧ ns.length ≤ 1000 ∧ f4 c3 (fun r4 c4 => match r4 with
      | .d (.int z) => z = 0 ∧ c4.g = none ∧ P (.rt .gen (some 0))
      | _ => False) X) X
    | _ => False) X
  | _ => False) X
theorem mg4 (l s : Int) (ac : Addr) (p : Int) : mergeK [] (genKV l s ac p) = genKV l s ac p := by
  unfold mergeK genKV
  simp only [List.foldl_cons, List.foldl_nil]
  have e1 : putK ([] : List (Key × V)) (Sum.inr ("left" : Str) : Key) (.int l) = [(Sum.inr ("left" : Str), V.int l)] := putK_new _ rfl
  have e2 : putK [((Sum.inr ("left" : Str) : Key), V.int l)] (Sum.inr ("seed" : Str) : Key) (.int s) = [((Sum.inr ("left" : Str) : Key), V.int l), (Sum.inr ("seed" : Str), V.int s)] := putK_new _ (by rw [valV_neg k_ls]; rfl)
  have e3 : putK [((Sum.inr ("left" : Str) : Key), V.int l), (Sum.inr ("seed" : Str), V.int s)] (Sum.inr ("cells" : Str) : Key) (.ref ac) = [((Sum.inr ("left" : Str) : Key), V.int l), (Sum.inr ("seed" : Str), V.int s), (Sum.inr ("cells" : Str), V.ref ac)] :=
    putK_new _ (by rw [valV_neg k_lc, valV_neg k_sc]; rfl)
  rw [e1, e2, e3]
  exact putK_new _ (by rw [valV_neg k_lp, valV_neg k_sp, valV_neg k_cp]; rfl)
section
variable {e1 e2 e3 e4 : Expr} {f1 f2 f3 f4 : WE} {q1 q2 q3 q4 : Pos} {k1 k2 k3 k4 : Nat}
theorem ds_retG (a0 : Δ.a0 = none) (h1 : ∀ Δ' : Dx, Δ'.K = Δ.K → PE X e1 (tE Δ' f1)) (h2 : ∀ Δ' : Dx, Δ'.K = Δ.K → PE X e2 (tE Δ' f2)) (h3 : ∀ Δ' : Dx, Δ'.K = Δ.K → PE X e3 (tE Δ' f3)) (h4 : ∀ Δ' : Dx, Δ'.K = Δ.K → PE X e4 (tE Δ' f4)) :
    PS X (.Return (some (.Dict [some (.Constant (.str "left") k1 q1), some (.Constant (.str "seed") k2 q2), some (.Constant (.str "cells") k3 q3), some (.Constant (.str "spot") k4 q4)] [e1, e2, e3, e4] p)) pos) (tS Δ (sRetG f1 f2 f3 f4)) := by
  let t1 : TE := fun σ H Q => ∃ Δ' : Dx, Δ'.K = Δ.K ∧ tE Δ' f1 σ H Q
  let t2 : TE := fun σ H Q => ∃ Δ' : Dx, Δ'.K = Δ.K ∧ tE Δ' f2 σ H Q
  let t3 : TE := fun σ H Q => ∃ Δ' : Dx, Δ'.K = Δ.K ∧ tE Δ' f3 σ H Q
  let t4 : TE := fun σ H Q => ∃ Δ' : Dx, Δ'.K = Δ.K ∧ tE Δ' f4 σ H Q
  have g1 : PE X e1 t1 := ⟨fun pins s σ H Q I ⟨Δ', e, h⟩ => (h1 Δ' e).run pins s σ H Q I h⟩
  have g2 : PE X e2 t2 := ⟨fun pins s σ H Q I ⟨Δ', e, h⟩ => (h2 Δ' e).run pins s σ H Q I h⟩
  have g3 : PE X e3 t3 := ⟨fun pins s σ H Q I ⟨Δ', e, h⟩ => (h3 Δ' e).run pins s σ H Q I h⟩
  have g4 : PE X e4 t4 := ⟨fun pins s σ H Q I ⟨Δ', e, h⟩ => (h4 Δ' e).run pins s σ H Q I h⟩
  refine (ps_ret (pe_disp (pps_cons (pe_str (x := "left")) g1 (pps_cons (pe_str (x := "seed")) g2 (pps_cons (pe_str (x := "cells")) g3 (pps_cons (pe_str (x := "spot")) g4 pps_nil)))) rfl rfl (fun z => nomatch z) (show 4 ≤ 15 by decide))).imp fun D σ H ⟨am, F, c, P, XX, ok, ⟨cg, hf⟩, kf, kx⟩ => ?_
  intro d hd
  have h0 : Δ.H0 d = none := ok.new hd
  have fd : F d = none := ok.fh.nn hd
  have f00 : Δ.F0 d = none := ok.f0.nn fd
  have na : Δ.a0 ≠ some d := fun z => (ok.al d z).2 h0
  have no : ∀ (i : Nat) (r : Rv), c.env[i]? = some (some r) → r.mu → σ[i]? ≠ some (some (.ref d)) := fun i xs e mu z => by
    obtain ⟨v, w1, s1⟩ := ok.sv i _ e
    obtain ⟨a, vs, w2, w3, _⟩ := s1.at mu
    subst w2
    rw [z] at w1
    cases w1
    rw [hd] at w3; cases w3
  have oh := (ok.alloc hd (.dK [])).holdO (p := d) (o := .dK []) upd_same dK_ok.1 (fun n e => by rw [cg] at e; cases e) fd h0 no
  have kxh : ∀ {G : Hp}, Le F G → KX (Δ.hold d (.dK [])) am G XX := fun {G} lg x g F' H' h l fn => kx am x g F' H' h (lg.trans l) (fn.unhold h0 na)
  refine ⟨Δ.hold d (.dK []), rfl, am, F, c, _, XX, oh, hf, fun r1 c1 F1 v1 H1 p1 l1 o1 s1 => ?_, kxh (Le.refl F)⟩
  dsimp only at p1
  split at p1
  case h_2 => exact p1.elim
  rename_i lft
  have w1 := s1.1
  cases w1
  refine ⟨Δ.hold d (.dK []), rfl, am, F1, c1, _, XX, o1, p1.2, fun r2 c2 F2 v2 H2 p2 l2 o2 s2 => ?_, kxh l1⟩
  dsimp only at p2
  split at p2
  case h_2 => exact p2.elim
  rename_i sd
  have w2 := s2.1
  cases w2
  refine ⟨Δ.hold d (.dK []), rfl, am, F2, c2, _, XX, o2, p2.2.2, fun r3 c3 F3 v3 H3 p3 l3 o3 s3 => ?_, kxh (l1.trans l2)⟩
  obtain ⟨ac, vs, xs, F3', rfl, ⟨ns, rfl, hn, hl, p3⟩, l3', o3', ea, ra⟩ := asL_of o3 s3 p3
  have := ra.ints
  subst this
  refine ⟨Δ.hold d (.dK []), rfl, am, F3', c3, _, XX, o3', p3, fun r4 c4 F4 v4 H4 p4 l4 o4 s4 => ?_, kxh (((l1.trans l2).trans l3).trans l3')⟩
  dsimp only at p4
  split at p4
  case h_2 => exact p4.elim
  obtain ⟨rfl, cg4, p4⟩ := p4
  have w4 := s4.1
  cases w4
  obtain ⟨o5, hd5, fd5, no5⟩ := o4.unhold h0 f00 na
  refine ⟨hd5, genKV lft sd ac 0, rfl, (by show 4 ≤ 15; decide), ?_⟩
  rw [mg4]
  have ll : Le F F4 := ((((l1.trans l2).trans l3).trans l3').trans l4)
  refine kf.2.2.2 .gen (some 0) d F4 _ (.ref d) p4 ll ⟨fun b u e => ?_, o5.f0, o5.fr, o5.tb.upd (fun u e => by rw [hd5] at e; cases e; exact dK_ok), fun b u e n => ?_, fun b e => ?_, fun n e => ?_⟩ rfl
  · rw [upd_ne (fun z => by rw [z, fd5] at e; cases e)]
    exact o5.fh b u e
  · rw [upd_ne (ne_of_none e h0)]
    exact o5.pr b u e n
  · rw [a0] at e; cases e
  · cases e
    exact ⟨.inr ⟨a0, h0⟩, fd5, lft, sd, 0, ac, ns, upd_same, l4 _ _ ea, hn, hl, p1.1, p2.1, p2.2.1, by decide, by decide, by decide⟩
end
/-- name = f(..) where f makes the drawing state -/
def sSetG (i : Nat) (Pr : Cn) (fr : WA) : WS := fun c P X => fr c (fun rs c1 => Rv.gen ∉ rs ∧ i < c1.env.length ∧ (∀ j, j ≠ i → c1.env[j]? ≠ some (some .gen)) ∧ Pr rs none fun r g' => r = .gen ∧ ∃ n, g' = some n ∧ P (.nx (putE { c1 with g := some n } i .gen))) X
theorem ds_setG (i : Nat) {Pr : Cn} {fr : WA} {f : Str} {es : List Expr} {kk : Nat} (a0 : Δ.a0 = none) (C : CalD X.prog X.w X.K X.mg X.base kk f Pr) (hK : Δ.K = X.K) (hr : RoomG kk X.A) (hg : Gl X f) (hN : X.N.Nodup) (ha : PA X (e :: es) (tA Δ fr)) (hi : X.N[i]? = some x := by rfl) (hx : Loc X.env.scope x := by first | exact Or.inl rfl | exact Or.inr rfl)
    (hs : swapsWith (.Call (.Name f p2) (e :: es) [] p3) (some (.Name x p)) pos.line X.env = pure false := by rfl) (hf : X.fn x = true ∨ X.env.scope.names.lookup x = some .local := by first | exact .inl rfl | exact .inr rfl)
    (hdb : (f == ("__debug__" : Str)) = false := by decide) (he : starEach (e :: es) X.env = (false, eval e X.env) :: starEach es X.env := by rfl) (hpl : (backTo p3 (starEach es X.env)).any (·.1) = false := by rfl) :
    PS X (.Assign [.Name x p] (.Call (.Name f p2) (e :: es) [] p3) pos) (tS Δ (sSetG i Pr fr)) := by
  obtain ⟨fa, fd, ps, w1, w2, w3, w4⟩ := C.ex
  refine (ps_set hN hi hx (pe_callX w1 hr hg w2 w3 w4 pass0 ha hdb he hpl) hs hf).imp fun D σ H ⟨am, F, c, P, XX, ok, hf, kf, kx⟩ => ?_
  refine ⟨am, F, c, _, XX, ok, hf, fun rs c1 F1 vs H1 p1 l1 o1 s1 => ?_, kx am⟩
  obtain ⟨ng, hi1, hno, p1⟩ := p1
  show spD X.K Pr (vs ++ []) H1 _ E0
  rw [List.append_nil]
  refine ⟨am, F1, rs, none, _, o1.fh, o1.tbs hK, fun n z => (nomatch z), s1.to hK (fun _ => rfl), p1, fun r g' am' F' v H' pr l fn s => ?_⟩
  obtain ⟨rfl, n, rfl, pr⟩ := pr
  have ev : v = .ref am' := s
  subst ev
  obtain ⟨g1, g2, g3⟩ := fn.gn n rfl
  have hnew : unT H1 am' = none := by
    rcases g1 with z | z
    · cases z
    · exact z.2
  have prs : ∀ b o, H1 b = some o → (∀ ps, o ≠ .tbl ps) → H' b = some o := fun b o e nt => fn.pr b o (unT_to e nt) fun z => nomatch z
  refine kf.1 _ am' F' _ H' pr (l1.trans l) ?_
  have hT : (dx0 X.K am none F1 H1).T = Δ.T := (congrArg TabF.T hK).symm
  have new : ∀ b, unT H1 b = none → Δ.H0 b = none := fun b e => by
    rcases unT_none e with e | ⟨ps, e⟩
    · exact o1.new e
    · cases q : Δ.H0 b with
      | none => rfl
      | some o =>
        have h1 := o1.pr b o q (by rw [a0]; exact fun z => nomatch z)
        rw [e] at h1
        rw [← Option.some.inj h1] at q
        exact absurd q (o1.tb.2.2 b ps)
  have nf : ∀ b o, H1 b = some o → F1 b = none → (∀ ps, o ≠ .tbl ps) → F' b = none := fun b o e n nt => by
    cases q : F' b with
    | none => rfl
    | some u =>
      rcases fn.fr b (by rw [q]; exact fun z => nomatch z) with z | z
      · exact absurd n z
      · have z : unT H1 b = none := z
        rw [unT_to e nt] at z; cases z
  refine ⟨fn.fh, o1.f0.trans l, fun b e => (fn.fr b e).elim (fun z => o1.fr b z) fun z => .inr (new b z), ⟨hT ▸ fn.tb.1, fn.tb.2.1, o1.tb.2.2⟩, fun b o e n => prs b o (o1.pr b o e n) (fun ps z => o1.tb.2.2 b ps (z ▸ e)), fun b e => (by rw [a0] at e; cases e),
    fun n' e => ?_, ?_, fun j r e => ?_, fun j l xs ys n q1 q2 m1 m2 => ?_⟩
  · have e : some n = some n' := e
    cases e
    exact ⟨.inr ⟨a0, new _ hnew⟩, g2, g3⟩
  · show (σ.set i _).length = (c1.env.set i _).length
    rw [List.length_set, List.length_set, o1.len]
  · have e : (c1.env.set i (some .gen))[j]? = some (some r) := e
    rw [env_get] at e
    rw [St.set_get]
    split at e
    · rename_i q
      cases e
      refine ⟨.ref am', ?_, rfl⟩
      rw [if_pos ⟨q.1, by rw [o1.len]; exact q.2⟩]
    · rename_i q
      have hj : j ≠ i := fun z => q ⟨z, hi1⟩
      obtain ⟨w, h1, h2⟩ := o1.sv j r e
      refine ⟨w, ?_, ?_⟩
      · rw [if_neg (fun y => hj y.1)]
        exact h1
      · cases r with
        | d x => exact Rp.mono l h2
        | gen => exact absurd e (hno j hj)
        | scr ns =>
          obtain ⟨a, e1, e2⟩ := h2
          exact ⟨a, e1, sq_le l e2⟩
        | own xs =>
          obtain ⟨a, us, e1, e2, e3, e4, e5⟩ := h2
          exact ⟨a, us, e1, prs a _ e2 lst_ok.1, nf a _ e2 e3 lst_ok.1, e4, e5.mono l⟩
        | dic D =>
          obtain ⟨a, us, e1, e2, e3, e4, e5⟩ := h2
          exact ⟨a, us, e1, prs a _ e2 e5.ntbl, nf a _ e2 e3 e5.ntbl, e4, e5.mono l⟩
  · have q1 : (c1.env.set i (some .gen))[j]? = some (some xs) := q1
    have q2 : (c1.env.set i (some .gen))[l]? = some (some ys) := q2
    rw [env_get] at q1 q2
    rw [St.set_get, St.set_get]
    split at q1
    · cases q1
      exact m1.elim
    · rename_i z1
      split at q2
      · cases q2
        exact m2.elim
      · rename_i z2
        rw [if_neg (fun y => z1 ⟨y.1, hi1⟩), if_neg (fun y => z2 ⟨y.1, hi1⟩)]
        exact o1.di j l xs ys n q1 q2 m1 m2
end
end Dl
set_option Elab.async false
set_option maxRecDepth 100000
set_option linter.all false
set_option autoImplicit false
namespace Dl
open PySem L2
variable [TabF]
section
variable {X : Cx} {Δ : Dx}
def subD : OD := iD (fun i j => .int (i - j)) fun _ _ => True
def mulD : OD := iD (fun i j => .int (i * j)) CMul2
def fdivD : OD := iD (fun i j => .int (i.fdiv j)) CDiv2
def modD : OD := iD (fun i j => .int (i.fmod j)) fun _ j => j ≠ 0
def powD : OD := iD (fun i j => .int (i ^ j.toNat)) fun i j => 0 ≤ j ∧ (Builtin.Int.intBits i : Int) * j ≤ 2 ^ 27
def iaddD : OD := iD (fun i j => .int (i + j)) fun _ _ => True
theorem do_pow : OpD X Δ (binaryOp .Pow) powD :=
  op_iD (C' := fun i j => 0 ≤ j ∧ (Builtin.Int.intBits i : Int) * j ≤ 2 ^ 27) (opI fun _ _ _ _ _ _ _ hc q => PyProof.Rows.pow_int hc.1 hc.2 q) (fun _ _ h => h) fun _ _ _ _ => .int _
theorem do_sub' : OpD X Δ (binaryOp .Sub) subD := do_sub
theorem do_mul' : OpD X Δ (binaryOp .Mult) mulD := do_mul
theorem do_fdiv' : OpD X Δ (binaryOp .FloorDiv) fdivD := do_fdiv
theorem do_mod' : OpD X Δ (binaryOp .Mod) modD := do_mod
theorem di_add' : OpD X Δ (inplaceOp .Add) iaddD := di_add
theorem di_mul' : OpD X Δ (inplaceOp .Mult) mulD := di_mul
def wYes : WT := fun c P _ => P true c
theorem dts_nil : PTs X [] (tT Δ wYes) := ⟨fun pins s σ H Q I ⟨am, F, c, P, XX, ok, hf, kq, kx⟩ => pts_nil.run pins s σ H Q I (kq true c F H hf (Le.refl F) ok)⟩
end
end Dl
set_option Elab.async false
set_option maxRecDepth 100000
set_option linter.all false
set_option autoImplicit false
namespace Dl
open PySem L2
variable [TabF]
/-! ### running a reading: equations -/
section
variable {k : Px → Prop} {a b d e f : Px} {l xs ys : List Px}
theorem ixt0 : ixD (.tuple (a :: l)) (.int 0) k = k a := by simp [ixD, atI, ixN]
theorem ixt1 : ixD (.tuple (a :: b :: l)) (.int 1) k = k b := by
  simp only [ixD, atI, ixN, List.length_cons]
  rw [if_pos (by omega), if_pos (by omega)]; rfl
theorem ixt2 : ixD (.tuple (a :: b :: d :: l)) (.int 2) k = k d := by
  simp only [ixD, atI, ixN, List.length_cons]
  rw [if_pos (by omega), if_pos (by omega)]; rfl
theorem ixt3 : ixD (.tuple (a :: b :: d :: e :: l)) (.int 3) k = k e := by
  simp only [ixD, atI, ixN, List.length_cons]
  rw [if_pos (by omega), if_pos (by omega)]; rfl
theorem ixl0 : ixD (.list (a :: l)) (.int 0) k = k a := by simp [ixD, atI, ixN]
theorem ixl1 : ixD (.list (a :: b :: l)) (.int 1) k = k b := by
  simp only [ixD, atI, ixN, List.length_cons]
  rw [if_pos (by omega), if_pos (by omega)]; rfl
theorem ixtn {i : Nat} (h : xs[i]? = some a) : ixD (.tuple xs) (.int (i : Int)) k = k a := by simp only [ixD, atI_nat h]
theorem ixln {i : Nat} (h : xs[i]? = some a) : ixD (.list xs) (.int (i : Int)) k = k a := by simp only [ixD, atI_nat h]
theorem ixtl : ixD (.tuple (xs ++ [a])) (.int (-1)) k = k a := by simp only [ixD, atI_last]
theorem ixll : ixD (.list (xs ++ [a])) (.int (-1)) k = k a := by simp only [ixD, atI_last]
end
theorem asD_d {x : Px} {k : Px → Prop} : asD (.d x) k = k x := rfl
theorem asD_own {x : List Px} {k : Px → Prop} : asD (.own x) k = k (.list x) := rfl
theorem argR_d {x : Px} {k : Rv → Prop} : argR (.d x) k = k (.d x) := rfl
theorem argR_own {x : List Px} {k : Rv → Prop} : argR (.own x) k = k (.d (.list x)) := rfl
theorem argR_gen {k : Rv → Prop} : argR .gen k = k .gen := rfl
theorem argR_scr {ns : List Int} {k : Rv → Prop} : argR (.scr ns) k = k (.scr ns) := rfl
theorem asL_own {x : List Px} {k : List Px → Prop} : asL (.own x) k = k x := rfl
theorem asL_d {x : List Px} {k : List Px → Prop} : asL (.d (.list x)) k = k x := rfl
theorem asT_d {x : List Px} {k : List Px → Prop} : asT (.d (.tuple x)) k = k x := rfl
theorem asB_d {b : Bool} {k : Bool → Prop} : asB (.d (.bool b)) k = k b := rfl
theorem sub_i {i j : Int} {P : Rv → Prop} : subD (.int i) (.int j) P = (True ∧ P (.d (.int (i - j)))) := rfl
theorem iadd_i {i j : Int} {P : Rv → Prop} : iaddD (.int i) (.int j) P = (True ∧ P (.d (.int (i + j)))) := rfl
theorem mul_i {i j : Int} {P : Rv → Prop} : mulD (.int i) (.int j) P = (CMul2 i j ∧ P (.d (.int (i * j)))) := rfl
theorem fdiv_i {i j : Int} {P : Rv → Prop} : fdivD (.int i) (.int j) P = (CDiv2 i j ∧ P (.d (.int (i.fdiv j)))) := rfl
theorem mod_i {i j : Int} {P : Rv → Prop} : modD (.int i) (.int j) P = (j ≠ 0 ∧ P (.d (.int (i.fmod j)))) := rfl
theorem pow_i {i j : Int} {P : Rv → Prop} : powD (.int i) (.int j) P = ((0 ≤ j ∧ (Builtin.Int.intBits i : Int) * j ≤ 2 ^ 27) ∧ P (.d (.int (i ^ j.toNat)))) := rfl
theorem lt_i {i j : Int} {P : Rv → Prop} : ltD (.int i) (.int j) P = (True ∧ P (.d (.bool (decide (i < j))))) := rfl
theorem le_i {i j : Int} {P : Rv → Prop} : leD (.int i) (.int j) P = (True ∧ P (.d (.bool (decide (i ≤ j))))) := rfl
theorem gt_i {i j : Int} {P : Rv → Prop} : gtD (.int i) (.int j) P = (True ∧ P (.d (.bool (decide (j < i))))) := rfl
theorem ge_i {i j : Int} {P : Rv → Prop} : geD (.int i) (.int j) P = (True ∧ P (.d (.bool (decide (j ≤ i))))) := rfl
theorem add_i {i j : Int} {P : Rv → Prop} : addD (.int i) (.int j) P = P (.d (.int (i + j))) := rfl
theorem add_l {x y : List Px} {P : Rv → Prop} : addD (.list x) (.list y) P = (x.length + y.length ≤ 1000000 ∧ P (.own (x ++ y))) := rfl
theorem add_t {x y : List Px} {P : Rv → Prop} : addD (.tuple x) (.tuple y) P = (x.length + y.length ≤ 1000000 ∧ P (.d (.tuple (x ++ y)))) := rfl
theorem cat_i {i j : Int} {P : Rv → Prop} : catD (.int i) (.int j) P = P (.d (.int (i + j))) := rfl
theorem cat_l {x y : List Px} {P : Rv → Prop} : catD (.list x) (.list y) P = (x.length + y.length ≤ 1000000 ∧ P (.own (x ++ y))) := rfl
theorem cat_t {x y : List Px} {P : Rv → Prop} : catD (.tuple x) (.tuple y) P = (x.length + y.length ≤ 1000000 ∧ P (.d (.tuple (x ++ y)))) := rfl
theorem neg_i {i : Int} {P : Rv → Prop} : negD (.int i) P = P (.d (.int (-i))) := rfl
theorem sh_int {i : Int} : SeqAt.shaped (.int i) = true := by simp [SeqAt.shaped, PyData.canLay0, PyData.depth]
theorem eqf_i {i j : Int} {P : Rv → Prop} : eqD false (.int i) (.int j) P = (True ∧ True ∧ P (.d (.bool (i == j)))) := by simp only [eqD, sh_int]; rfl
theorem eqt_i {i j : Int} {P : Rv → Prop} : eqD true (.int i) (.int j) P = (True ∧ True ∧ P (.d (.bool (!(i == j))))) := by simp only [eqD, sh_int]; rfl
theorem lenC_l {x : List Px} {P : Rv → Prop} : lenC [.d (.list x)] P = P (.d (.int x.length)) := rfl
theorem lenC_t {x : List Px} {P : Rv → Prop} : lenC [.d (.tuple x)] P = P (.d (.int x.length)) := rfl
theorem absC_i {i : Int} {P : Rv → Prop} : absC [.d (.int i)] P = P (.d (.int i.natAbs)) := rfl
theorem intC_i {i : Int} {P : Rv → Prop} : intC [.d (.int i)] P = P (.d (.int i)) := rfl
theorem tupC_l {x : List Px} {P : Rv → Prop} : tupC [.d (.list x)] P = P (.d (.tuple x)) := rfl
theorem tupC_t {x : List Px} {P : Rv → Prop} : tupC [.d (.tuple x)] P = P (.d (.tuple x)) := rfl
theorem max2C_i {i j : Int} {P : Rv → Prop} : max2C [.d (.int i), .d (.int j)] P = P (.d (.int (if i < j then j else i))) := rfl
theorem max3C_i {i j l : Int} {P : Rv → Prop} : max3C [.d (.int i), .d (.int j), .d (.int l)] P = P (.d (.int (max2 (max2 i j) l))) := rfl
theorem gT_d {n : Nat} {gs : WGs} {xs : List Px} {c : Cf} {P : Cf → Prop} : gT n gs (.d (.tuple xs)) c P = (xs.length = n ∧ gs xs c P) := rfl
theorem gsC {g : WG} {gs : WGs} {x : Px} {r : List Px} {c : Cf} {P : Cf → Prop} : gsCons g gs (x :: r) c P = g (.d x) c fun c1 => gs r c1 P := rfl
theorem gsN {c : Cf} {P : Cf → Prop} : gsNil [] c P = P c := rfl
/-- plain data, not deep -/
def Shp (n : Nat) (x : Px) : Prop := x.canLay0 = true ∧ x.depth ≤ n
theorem Shp.sh {n : Nat} {x : Px} (h : Shp n x) (hn : n ≤ 64 := by decide) : SeqAt.shaped x = true := by
  simp only [SeqAt.shaped, h.1, Bool.true_and, decide_eq_true_eq]
  exact Nat.le_trans h.2 hn
theorem Shp.int {n : Nat} (i : Int) : Shp n (.int i) := ⟨by simp [PyData.canLay0], by simp [PyData.depth]⟩
theorem Shp.all {n : Nat} : ∀ {xs : List Px}, (∀ x ∈ xs, Shp n x) → PyData.canLayAll0 xs = true ∧ PyData.depthAll xs ≤ n
  | [], _ => ⟨by simp [PyData.canLayAll0], by simp [PyData.depthAll]⟩
  | x :: xs, h => by
    have h1 := h x List.mem_cons_self
    have h2 := Shp.all fun y hy => h y (List.mem_cons_of_mem _ hy)
    refine ⟨by simp only [PyData.canLayAll0, h1.1, h2.1, Bool.and_self], ?_⟩
    simp only [PyData.depthAll]
    exact Nat.max_le.mpr ⟨h1.2, h2.2⟩
theorem Shp.tup {n : Nat} {xs : List Px} (h : ∀ x ∈ xs, Shp n x) : Shp (n + 1) (.tuple xs) := by
  have := Shp.all h
  exact ⟨by simp only [PyData.canLay0]; exact this.1, by simp only [PyData.depth]; omega⟩
theorem Shp.lst {n : Nat} {xs : List Px} (h : ∀ x ∈ xs, Shp n x) : Shp (n + 1) (.list xs) := by
  have := Shp.all h
  exact ⟨by simp only [PyData.canLay0]; exact this.1, by simp only [PyData.depth]; omega⟩
theorem Shp.ints (ns : List Int) : Shp 1 (.tuple (ns.map .int)) := .tup fun x hx => by
  obtain ⟨i, _, rfl⟩ := List.mem_map.mp hx
  exact .int i
theorem eqv_nil {xs : List Px} : PyData.eqv (.list xs) (.list []) = xs.isEmpty := by cases xs <;> simp [PyData.eqv, PyData.eqvAll]
/-! the readings of names, stuck where the slot isn't known -/
def slotE (o : Option (Option Rv)) (i : Nat) (c : Cf) (P : Rv → Cf → Prop) : Prop := match o with
  | some (some (.d x)) => P (.d x) c
  | some (some .gen) => P .gen c
  | some (some (.scr ns)) => P (.scr ns) c
  | some (some (.own xs)) => P (.d (.list xs)) { c with env := c.env.set i (some (.d (.list xs))) }
  | _ => False
theorem eName_eq {i : Nat} {c : Cf} {P : Rv → Cf → Prop} {X : XP} : eName i c P X = slotE c.env[i]? i c P := rfl
theorem slotE_d {x : Px} {i : Nat} {c : Cf} {P : Rv → Cf → Prop} : slotE (some (some (.d x))) i c P = P (.d x) c := rfl
theorem slotE_gen {i : Nat} {c : Cf} {P : Rv → Cf → Prop} : slotE (some (some .gen)) i c P = P .gen c := rfl
theorem slotE_scr {ns : List Int} {i : Nat} {c : Cf} {P : Rv → Cf → Prop} : slotE (some (some (.scr ns))) i c P = P (.scr ns) c := rfl
theorem slotE_own {xs : List Px} {i : Nat} {c : Cf} {P : Rv → Cf → Prop} : slotE (some (some (.own xs))) i c P = P (.d (.list xs)) { c with env := c.env.set i (some (.d (.list xs))) } := rfl
def slotK (o : Option (Option Rv)) (k : Px → Prop) : Prop := match o with
  | some (some (.d x)) => k x
  | some (some (.own xs)) => k (.list xs)
  | _ => False
theorem slotD_eq {c : Cf} {i : Nat} {k : Px → Prop} : slotD c i k = slotK c.env[i]? k := rfl
theorem slotK_d {x : Px} {k : Px → Prop} : slotK (some (some (.d x))) k = k x := rfl
theorem slotK_own {xs : List Px} {k : Px → Prop} : slotK (some (some (.own xs))) k = k (.list xs) := rfl
def slotO (o : Option (Option Rv)) (k : List Px → Prop) : Prop := match o with
  | some (some (.own xs)) => k xs
  | _ => False
theorem ownD_eq {c : Cf} {i : Nat} {k : List Px → Prop} : ownD c i k = slotO c.env[i]? k := rfl
theorem slotO_own {xs : List Px} {k : List Px → Prop} : slotO (some (some (.own xs))) k = k xs := rfl
theorem wB_eq {f : WE} {c : Cf} {P : Bool → Cf → Prop} {X : XP} : wB f c P X = f c (fun r c1 => asB r fun b => P b c1) X := rfl
def asI (r : Rv) (k : Int → Prop) : Prop := match r with
  | .d (.int i) => k i
  | _ => False
theorem asI_i {i : Int} {k : Int → Prop} : asI (.d (.int i)) k = k i := rfl
theorem oSome_eq {f : WE} {c : Cf} {P : Option Int → Cf → Prop} {X : XP} : oSome f c P X = f c (fun r c1 => asI r fun i => P (some i) c1) X := rfl
theorem sSetI_eq {i : Nat} {fe fi : WE} {c : Cf} {P : Fl → Prop} {X : XP} : sSetI i fe fi c P X = (isOwn c i ∧ fe c (fun r c1 => asD r fun y => isOwn c1 i ∧ fi c1 (fun r2 c2 => asI r2 fun k => ownD c2 i fun xs => ∃ j, ixN xs.length k = some j ∧ P (.nx (putE c2 i (.own (xs.set j y))))) X) X) := by
  unfold sSetI
  congr 2
  funext r c1
  congr 1
  funext y
  congr 2
  funext r2 c2
  cases r2 with
  | d x =>
    cases x with
    | int k =>
      show (ownD c2 i fun xs => _) = asI (.d (.int k)) _
      rw [asI_i]
      congr 1
      funext xs
      cases ixN xs.length k <;> simp
    | _ => rfl
  | _ => rfl
def slotA (o : Option (Option Rv)) (k : Px → Prop) : Prop := match o with
  | some (some (.d x)) => k x
  | _ => False
theorem slotA_d {x : Px} {k : Px → Prop} : slotA (some (some (.d x))) k = k x := rfl
theorem sAug_eq {i : Nat} {o : OD} {fb : WE} {c : Cf} {P : Fl → Prop} {X : XP} : sAug i o fb c P X = (hasD c i ∧ fb c (fun r c1 => asD r fun y => slotA c1.env[i]? fun x => o x y fun rr => P (.nx (putE c1 i rr))) X) := rfl
end Dl
set_option Elab.async false
set_option maxRecDepth 100000
set_option linter.all false
set_option autoImplicit false
namespace Dl
open PySem L2
variable [TabF]
/-! ### loops and comprehensions by induction -/
section
variable {g : WG} {t : WT} {f : WE} {vs : List Nat} {env : List (Option Rv)} {X : XP} {P : Rv → Cf → Prop}
/-- one turn of a comprehension -/
def Turn1 (g : WG) (t : WT) (f : WE) (vs : List Nat) (env : List (Option Rv)) (X : XP) (x : Px) (gs : Option Nat) (R : Px → Option Nat → Prop) (S : Option Nat → Prop) : Prop :=
  g (.d x) ⟨wipeE env vs, gs⟩ fun c1 => wipeE c1.env vs = wipeE env vs ∧ t c1 (fun b c2 => c2.env = c1.env ∧ if b = true then f c2 (fun r c3 => c3.env = c1.env ∧ asD r fun y => R y c3.g) X else S c2.g) X
end
theorem forW_ind {g : WG} {f : WS} {X : XP} {P : Fl → Prop} (xs : List Px) (I : Nat → Cf → Prop) (hs : ∀ (i : Nat) (x : Px) (c : Cf), xs[i]? = some x → I i c → ∀ R : Cf → Prop, (∀ c', I (i + 1) c' → R c') →
      g (.d x) c fun c1 => f c1 (fun fl => match fl with
        | .nx c2 => R c2
        | .ct c2 => R c2
        | .bk c2 => P (.nx c2)
        | .rt r gs => P (.rt r gs)) X) (hd : ∀ c, I xs.length c → P (.nx c)) : ∀ c, I 0 c → forW g f X P xs c := by
  have key : ∀ (ys : List Px) (i : Nat) (c : Cf), (∀ j x, ys[j]? = some x → xs[i + j]? = some x) → i + ys.length = xs.length → I i c → forW g f X P ys c := by
    intro ys
    induction ys with
    | nil =>
      intro i c _ hl hI
      simp only [List.length_nil, Nat.add_zero] at hl
      subst hl
      exact hd c hI
    | cons y ys ih =>
      intro i c hg hl hI
      refine hs i y c (by simpa using hg 0 y rfl) hI (fun c' => forW g f X P ys c') fun c' hI' => ih (i + 1) c' (fun j x hx => ?_) (by simp only [List.length_cons] at hl; omega) hI'
      have := hg (j + 1) x (by simpa using hx)
      rw [show i + 1 + j = i + (j + 1) by omega]
      exact this
  intro c hI
  exact key xs 0 c (fun j x h => by simpa using h) (by simp) hI
theorem rng_at {lo : Int} {n i : Nat} {x : Px} (h : (rngX lo n)[i]? = some x) : i < n ∧ x = .int (lo + i) := by
  have hi : i < n := by
    have := (List.getElem?_eq_some_iff.mp h).1
    rwa [rngX_length] at this
  rw [rngX_get n lo i hi] at h
  exact ⟨hi, (Option.some.inj h).symm⟩
theorem map_at {α : Type} {f : α → Px} {l : List α} {i : Nat} {x : Px} (h : (l.map f)[i]? = some x) : ∃ a, l[i]? = some a ∧ x = f a := by
  rw [List.getElem?_map] at h
  cases e : l[i]? with
  | none => rw [e] at h; cases h
  | some a => rw [e] at h; exact ⟨a, rfl, (Option.some.inj h).symm⟩
theorem map_of {α : Type} (f : α → Px) {l : List α} {i : Nat} {a : α} (h : l[i]? = some a) : (l.map f)[i]? = some (f a) := by
  rw [List.getElem?_map, h]; rfl
/-- an item at an int that is in bounds -/
theorem int_ix {n : Nat} {j : Int} (h0 : 0 ≤ j) (h1 : j < n) : ∃ i : Nat, j = (i : Int) ∧ i < n := ⟨j.toNat, by omega, by omega⟩
theorem ixl_of {xs : List Px} {j : Int} {k : Px → Prop} (h0 : 0 ≤ j) (h1 : j < xs.length) (h : ∀ x ∈ xs, k x) : ixD (.list xs) (.int j) k := by
  obtain ⟨i, rfl, hi⟩ := int_ix h0 h1
  rw [ixln (a := xs[i]) (by simp [hi])]
  exact h _ (List.getElem_mem hi)
theorem fmod_b {i b : Int} (hb : 0 < b) : 0 ≤ i.fmod b ∧ i.fmod b < b := by
  rw [Int.fmod_eq_emod_of_nonneg i (by omega)]
  exact ⟨Int.emod_nonneg _ (by omega), Int.emod_lt_of_pos _ hb⟩
theorem fdiv_nn {i b : Int} (hi : 0 ≤ i) (hb : 0 < b) : 0 ≤ i.fdiv b := by
  rw [Int.fdiv_eq_ediv_of_nonneg i (by omega)]
  exact Int.ediv_nonneg hi (by omega)
theorem CMul2.l {i j : Int} (h1 : -1000000000000000000 < i) (h2 : i < 1000000000000000000) : CMul2 i j := .inl ⟨by omega, by omega⟩
theorem CMul2.r {i j : Int} (h1 : -1000000000000000000 < j) (h2 : j < 1000000000000000000) : CMul2 i j := .inr (.inl ⟨by omega, by omega⟩)
theorem CDiv2.s {i j : Int} (h : j ≠ 0) (h1 : -1000000000 < j) (h2 : j < 1000000000) : CDiv2 i j := .inl ⟨h, by omega⟩
theorem CDiv2.g {i j : Int} (h : 0 < j) {b : Nat} (h1 : j.natAbs < 2 ^ b) (h2 : b ≤ 9000 := by decide) (h3 : 0 < b := by decide) : CDiv2 i j := .inr ⟨h, b, h1, h3, h2⟩
end Dl
set_option Elab.async false
set_option maxRecDepth 100000
set_option linter.all false
set_option autoImplicit false
namespace Dl
open PySem L2
variable [TabF]
section
variable {X : Cx} {Δ : Dx} {pos : Pos} {es : List Expr}
/-- a, b, .. = a list of that length -/
def gL (n : Nat) (gs : WGs) : WG := fun r c P => asL r fun xs => xs.length = n ∧ gs xs c P
theorem dg_lst {k : Nat} {gs : WGs} {n : Nat} {us : List Nat} (hc : X.calm = true) (h : PGs X es (tGs Δ us gs)) (hn : (assignEach es X.env).length = n := by rfl) (hst : (assignEach es X.env).findIdx? (·.1) = none := by rfl) : PG X (.Tuple es k pos) (tG Δ us (gL n gs)) :=
  (pg_lst hc h hn hst).imp fun v σ H Q ⟨am, F, c, r, P, ok, s, h, kq⟩ => by
    obtain ⟨a, vs, xs, F', e1, hx, l, o', e2, r1⟩ := asL_of ok s h
    exact ⟨a, vs, e1, SqL.of (o'.fh _ _ e2), by rw [r1.length]; exact hx.1, am, F', c, xs, P, o', r1, hx.2, fun c' F2 σ' H' p l2 o t => kq c' F2 σ' H' p (l.trans l2) o t⟩
end
theorem gL_own {n : Nat} {gs : WGs} {xs : List Px} {c : Cf} {P : Cf → Prop} : gL n gs (.own xs) c P = (xs.length = n ∧ gs xs c P) := rfl
theorem gL_d {n : Nat} {gs : WGs} {xs : List Px} {c : Cf} {P : Cf → Prop} : gL n gs (.d (.list xs)) c P = (xs.length = n ∧ gs xs c P) := rfl
end Dl
set_option Elab.async false
set_option maxRecDepth 100000
set_option linter.all false
set_option autoImplicit false
namespace Dl
open PySem L2
variable [TabF]
section
variable {g : WG} {t : WT} {f : WE} {vs : List Nat} {env : List (Option Rv)} {X : XP} {P : Rv → Cf → Prop}
theorem lcW_fma {α : Type} (e : α → Px) (h : α → Option Px) {gs : Option Nat} : ∀ (l : List α) (acc : List Px), (∀ x ∈ l, ∀ (R : Px → Option Nat → Prop) (S : Option Nat → Prop), (∀ y, h x = some y → R y gs) → (h x = none → S gs) → Turn1 g t f vs env X (e x) gs R S) →
    acc.length + l.length ≤ 1000000 → P (.own (acc ++ l.filterMap h)) ⟨env, gs⟩ → lcW g t f vs env X P (l.map e) acc gs
  | [], acc, _, _, q => by
    simp only [List.filterMap_nil, List.append_nil] at q
    exact q
  | x :: xs, acc, ht, hl, q => by
    simp only [List.length_cons] at hl
    refine ht x List.mem_cons_self (fun y g' => acc.length < 1000000 ∧ lcW g t f vs env X P (xs.map e) (acc ++ [y]) g') (fun g' => lcW g t f vs env X P (xs.map e) acc g') (fun y hy => ⟨by omega, ?_⟩) fun hy => ?_
    · refine lcW_fma e h xs (acc ++ [y]) (fun z hz => ht z (List.mem_cons_of_mem _ hz)) (by simp only [List.length_append, List.length_cons, List.length_nil]; omega) ?_
      rw [List.filterMap_cons_some hy] at q
      rw [List.append_assoc]
      exact q
    · refine lcW_fma e h xs acc (fun z hz => ht z (List.mem_cons_of_mem _ hz)) (by omega) ?_
      rw [List.filterMap_cons_none hy] at q
      exact q
/-- a comprehension that keeps every item -/
theorem lcW_mpa {α : Type} (e h : α → Px) {gs : Option Nat} (l : List α) (ht : ∀ x ∈ l, ∀ (R : Px → Option Nat → Prop) (S : Option Nat → Prop), R (h x) gs → Turn1 g t f vs env X (e x) gs R S)
    (hl : l.length ≤ 1000000) (q : P (.own (l.map h)) ⟨env, gs⟩) : lcW g t f vs env X P (l.map e) [] gs := by
  refine lcW_fma e (fun x => some (h x)) l [] (fun x hx R S hR _ => ht x hx R S (hR _ rfl)) (by simpa using hl) ?_
  rw [List.nil_append, show l.filterMap (fun x => some (h x)) = l.map h by simp [List.filterMap_eq_map']]
  exact q
end
theorem rngX_map (lo : Int) (n : Nat) : rngX lo n = (List.range n).map fun i : Nat => PyData.int (lo + i) := by
  apply List.ext_getElem?
  intro i
  by_cases h : i < n
  · rw [rngX_get n lo i h]
    simp [h]
  · rw [List.getElem?_eq_none (by rw [rngX_length]; omega), List.getElem?_eq_none (by simp; omega)]
theorem cut_hd {α : Type} (xs : List α) {i : Nat} (h : i ≤ xs.length) : cutX xs none (some (i : Int)) = xs.take i := by
  unfold cutX
  rw [HT.sIx_none, HT.sIx_nat, Nat.min_eq_left h]
  simp
theorem cut_tl {α : Type} (xs : List α) {i : Nat} (h : i ≤ xs.length) : cutX xs (some (i : Int)) none = xs.drop i := by
  unfold cutX
  rw [HT.sIx_none, HT.sIx_nat, Nat.min_eq_left h]
  rw [List.take_of_length_le (by simp)]
theorem cut_last {α : Type} (xs : List α) (a : α) : cutX (xs ++ [a]) none (some (-1)) = xs := by
  unfold cutX
  have e : HT.sIx (xs ++ [a]).length (xs ++ [a]).length (some (-1)) = xs.length := by
    unfold HT.sIx
    simp only [List.length_append, List.length_cons, List.length_nil]
    rw [if_pos (by decide)]
    omega
  rw [HT.sIx_none, e]
  simp
theorem eqt_nil {xs : List Px} {P : Rv → Prop} (h : ∀ x ∈ xs, Shp 60 x) : eqD true (.list xs) (.list []) P = P (.d (.bool (!xs.isEmpty))) := by
  have h1 : SeqAt.shaped (.list xs) = true := (Shp.lst h).sh
  have h2 : SeqAt.shaped (.list []) = true := (Shp.lst (n := 60) (xs := []) (by simp)).sh
  simp only [eqD, h1, h2, eqv_nil, true_and, if_true]
theorem slD_l {xs : List Px} {lo hi : Option Int} {k : Rv → Prop} : slD (.list xs) lo hi k = k (.own (cutX xs lo hi)) := rfl
/-! ### powers of constants -/
theorem powc {i j v : Int} (h1 : 0 ≤ j) (h2 : (Builtin.Int.intBits i : Int) * j ≤ 2 ^ 27) (h3 : i ^ j.toNat = v) : eOp powD (eC (.int i)) (eC (.int j)) = eC (.int v) := by
  funext c P X
  show ((0 ≤ j ∧ (Builtin.Int.intBits i : Int) * j ≤ 2 ^ 27) ∧ P (.d (.int (i ^ j.toNat))) c) = P (.d (.int v)) c
  rw [h3]
  exact propext ⟨fun h => h.2, fun h => ⟨⟨h1, h2⟩, h⟩⟩
theorem b10 : Builtin.Int.intBits 10 = 4 := by decide
theorem pow18 : eOp powD (eC (.int 10)) (eC (.int 18)) = eC (.int 1000000000000000000) := powc (by decide) (by rw [b10]; decide) (by decide)
/-! ### what comes behind a call, a loop, a comprehension: held back till its turn -/
inductive Tag {α : Type} (a : α) : Type
  | mk
abbrev Hold (C : Cn) (rs : List Rv) (g : Option Nat) (Q : Rv → Option Nat → Prop) (_ : Tag Q) : Prop := C rs g Q
theorem eCallP_eq {Pr : Cn} {f : WA} {c : Cf} {P : Rv → Cf → Prop} {X : XP} : eCallP Pr f c P X = f c (fun rs c1 => Rv.gen ∉ rs ∧ Hold Pr rs none (fun r _ => r ≠ .gen ∧ P r c1) .mk) X := rfl
theorem eCallG_eq {Pr : Cn} {f : WA} {c : Cf} {P : Rv → Cf → Prop} {X : XP} : eCallG Pr f c P X = f c (fun rs c1 => c1.g.isSome = true ∧ Hold Pr rs c1.g (fun r g' => r ≠ .gen ∧ P r { c1 with g := g' }) .mk) X := rfl
theorem sSetG_eq {i : Nat} {Pr : Cn} {fr : WA} {c : Cf} {P : Fl → Prop} {X : XP} : sSetG i Pr fr c P X = fr c (fun rs c1 => Rv.gen ∉ rs ∧ i < c1.env.length ∧ (∀ j, j ≠ i → c1.env[j]? ≠ some (some .gen)) ∧ Hold Pr rs none (fun r g' => r = .gen ∧ ∃ n, g' = some n ∧ P (.nx (putE { c1 with g := some n } i .gen))) .mk) X := rfl
abbrev forH (g : WG) (f : WS) (X : XP) (P : Fl → Prop) (_ : Tag P) (xs : List Px) (c : Cf) : Prop := forW g f X P xs c
theorem sFor_eq {it : WI} {g : WG} {f : WS} {c : Cf} {P : Fl → Prop} {X : XP} : sFor it g f c P X = it c (fun xs c1 => forH g f X P .mk xs c1) X := rfl
abbrev lcH (g : WG) (t : WT) (f : WE) (vs : List Nat) (env : List (Option Rv)) (X : XP) (P : Rv → Cf → Prop) (_ : Tag P) (xs acc : List Px) (gs : Option Nat) : Prop := lcW g t f vs env X P xs acc gs
theorem eLc_eq {it : WI} {g : WG} {t : WT} {f : WE} {vs : List Nat} {c : Cf} {P : Rv → Cf → Prop} {X : XP} : eLc it g t f vs c P X = it c (fun xs c1 => nown c1.env vs ∧ lcH g t f vs c1.env X P .mk xs [] c1.g) X := rfl
end Dl
set_option Elab.async false
set_option maxRecDepth 100000
set_option linter.all false
set_option autoImplicit false
namespace Dl
open PySem PySem.Spec PyProof.Rows L2
variable [TabF]
section
variable {X : Cx} {Δ : Dx}
theorem cr_repr_bool : CallR X (.builtin "repr") (fun xs H Q => ∃ b, xs = [.bl b] ∧ Q (.str (if b then "True" else "False")) H) := by
  intro pins s σ H xs us Q I r h
  obtain ⟨i, rfl, q⟩ := h
  obtain ⟨u, rfl, e⟩ := vals1 r
  cases e
  exact PySem.P.repr_of_bool ⟨.str _, H, I.tok _, ⟨_, rfl⟩, q⟩
def reprC : CD := fun rs P => match rs with
  | [.d (.bool b)] => P (.d (.str (if b then "True" else "False")))
  | [.d (.int i)] => i.natAbs.log2 < 1920 ∧ P (.d (.str (toString i)))
  | _ => False
end
end Dl
set_option Elab.async false
set_option maxRecDepth 100000
set_option linter.all false
set_option autoImplicit false
/-! enumerate over a tuple, with one argument -/
namespace Dl
open PySem L2 PySem.Spec PyProof.Rows
variable [TabF]
abbrev enO (a : Addr) : Obj := { cls := .type "enumerate", data := .fields #[.none, .bool false, .ref a, rawInt 0, .none, .none] }
abbrev ttO (t : Addr) : Obj := { cls := .type "tuple_iterator", data := .fields #[.ref t, .int 0 0] }
set_option maxHeartbeats 1000000 in
theorem meets_enT {v : Value} {o : Obj} {G : Heap → Prop} (B : Begins v o G) : Meets (Builtin.«enumerate.__new__» ⟨[.type "enumerate", v], []⟩) (fun _ R s => G s.heap ∧ R (.ok (.ret (.ref (s.heap.push o).objs.size))) { s with heap := (s.heap.push o).push (enO s.heap.objs.size) }) :=
  .of_wp fun prog w A R s ⟨h1, h⟩ => by
    have su := sub_enumerate
    obtain ⟨hp, gg, dd, tk, os⟩ := s
    have q : ∀ {A' : Around} {E : Value → Shared → Prop} {Q : Value → Shared → Prop}, Q (.ref hp.objs.size) ⟨hp.push o, gg, dd, tk, os⟩ → wpAny (model prog w) A' (pyIter v) Q E ⟨hp, gg, dd, tk, os⟩ := fun z => B.iter prog w _ _ ⟨hp, gg, dd, tk, os⟩ _ h1 z
    wp_walk using q
    refine wpAny_stack_any fun fr => wpAny_pure ?_
    split
    · rename_i cc _ _ _ _ _
      cases (cc == Value.type "enumerate") <;> (wp_walk using q; exact ⟨_, rfl, h⟩)
    · wp_walk using q; exact ⟨_, rfl, h⟩
theorem call_enT {prog : Program} {w : World} {A : Around} {E : Value → Shared → Prop} {s : Shared} {t : Addr} {its : Array Value} {Q : Value → Shared → Prop} (hT : s.heap.IsTuple t its)
    (h : ∀ h', IsEnum h' (s.heap.objs.size + 1) s.heap.objs.size 0 .none → h'.IsTupleIter s.heap.objs.size t 0 → (∀ b o, s.heap.get? b = some o → h'.get? b = some o) → Q (.ref (s.heap.objs.size + 1)) { s with heap := h' }) :
    wpAny (model prog w) A (call (.type "enumerate") [.ref t]) Q E s := by
  refine callType_new F.called_enumerate (by decide) (F.typeCall_enumerate_1 _) (F.newCall_enumerate_1 _) (fun x => F.args_object_init_2 x _) F.entry_enumerate_new (meets_enT (begins_tuple t its)) ⟨hT, ?_⟩
  have hz : (s.heap.push (ttO t)).objs.size = s.heap.objs.size + 1 := Heap.size_push ..
  have he : IsEnum ((s.heap.push (ttO t)).push (enO s.heap.objs.size)) (s.heap.objs.size + 1) s.heap.objs.size 0 .none := by
    have z := Heap.get?_push_size (s.heap.push (ttO t)) (o := enO s.heap.objs.size) rfl
    rw [hz] at z
    exact z
  show _ ∧ _
  rw [hz]
  exact ⟨⟨_, he, rfl⟩, h _ he ⟨_, Heap.get?_push_of_some _ (Heap.get?_push_size _ rfl), rfl, rfl⟩ fun b o x => Heap.get?_push_of_some _ (Heap.get?_push_of_some _ x)⟩
/-- the tuple at a: each item with its number in a new pair -/
def Iet (K : PySem.W.Frag) (a : Addr) : It :=
  ⟨fun i H => ∃ (xs : List V) (x : V), SqT K H a xs ∧ xs[i]? = some x,
   fun i H v H' => ∃ T x, v = .ref T ∧ H T = none ∧ H' = upd H T (.tup [.int (i : Nat), x]) ∧ ∀ xs, SqT K H a xs → xs[i]? = some x,
   fun i H => ∃ xs : List V, SqT K H a xs ∧ xs.length ≤ i⟩
theorem turn_enT {P : Program} {w : World} {K : PySem.W.Frag} {elts : List Expr} {kk : Nat} {tpos : Pos} (a e it : Addr) (hk : K = TabF.K := by first | rfl | assumption) :
    Turn P w K (.Tuple elts kk tpos) (Iet K a) [e, it] e (fun i h => (∃ old, IsEnum h e it ((i : Nat) : Int) old) ∧ h.IsTupleIter it a i ∧ e ≠ it) where
  mem := by simp
  obj := fun i h st b hb => by
    obtain ⟨⟨u, he⟩, ⟨o, ho, _, hd⟩, _⟩ := st
    rcases (by simpa using hb : b = e ∨ b = it) with rfl | rfl
    · exact ⟨_, he, fun v q => nomatch q⟩
    · exact ⟨o, ho, fun v q => by rw [hd] at q; cases q⟩
  keep := fun i h h' ⟨⟨u, he⟩, hi, hne⟩ k => ⟨⟨u, k e (by simp) _ he⟩, hi.at fun o q => k it (by simp) o q, hne⟩
  item := by
    intro X hP hw hK hc i pins s σ H E I hf st hg
    subst hP hw hK
    obtain ⟨⟨u, he⟩, hit, hne⟩ := st
    obtain ⟨xs, x, hq, hx⟩ := hg
    obtain ⟨its, rv, p, hz⟩ := I.tuple hq
    obtain ⟨y, hy, ry⟩ := rv.get hx
    have hel : e < s.heap.objs.size := Heap.lt_size he
    have hil : it < s.heap.objs.size := by obtain ⟨_, q, _⟩ := hit; exact Heap.lt_size q
    have hT : s.heap.IsTuple a its.toArray := p
    have hd : X.A.in1.handled = none := I.ok.hd hc
    have hae : e ≠ a := fun z => by
      subst z
      obtain ⟨o, q, c1, _⟩ := hT
      rw [he] at q
      cases q
      revert c1
      simp
    have hai : a ≠ it := fun z => by
      subst z
      obtain ⟨o, q, c1, _⟩ := hT
      obtain ⟨o', q', c2, _⟩ := hit
      rw [q] at q'
      cases q'
      rw [c1] at c2
      revert c2
      simp
    have hlt : i < its.toArray.size := by
      have := (List.getElem?_eq_some_iff.mp hy).1
      simpa using this
    refine wpAny_pyNext_enum_itemD (Draws.tuple hd it a hai its.toArray) he ⟨hit, hT⟩ hlt hne (by simp [hne, hae]) fun z h' tk hz' ho st' hN hsz hk => ?_
    have ez : z = y := by
      have q : its[i]? = some z := by simpa using hz'
      rw [hy] at q
      exact (Option.some.inj q).symm
    subst ez
    refine ⟨_, rfl, wpAny_letOwnedTupleGo_enum (s := { s with heap := h', toks := tk + 1 }) ho fun h'' he' sb => ?_⟩
    have hN2 : h''.get? s.heap.objs.size = some { cls := .type "tuple", data := .seq #[.int i tk, z] } := (sb.2 _ (Nat.ne_of_gt hel)).trans hN
    have new : ObjOk X.prog X.w (upd H s.heap.objs.size (.tup [.int (i : Nat), x])) h'' s.heap.objs.size (.tup [.int (i : Nat), x]) := ⟨by show 2 ≤ sizeLine; decide, [.int i tk, z], .cons ⟨_, rfl⟩ (.cons ry .nil), ⟨_, hN2, rfl, _, rfl⟩⟩
    have I1 : Inv X pins σ (upd H s.heap.objs.size (.tup [.int (i : Nat), x])) { s with heap := h'', toks := tk + 1 } :=
      I.turnedNew (ch := [e, it]) (fun b ob hb q => (sb.2 b (fun z => hb (by simp [z]))).trans (hk b ob (fun z => hb (by simp [z])) (fun z => hb (by simp [z])) q)) hf (Nat.le_refl _) new
    refine ⟨.ref s.heap.objs.size, _, I1, rfl, ⟨_, x, rfl, I.hok.fresh (Nat.le_refl _), rfl, fun ys hy => by rw [I.tuple_inj hy hq]; exact hx⟩, ⟨⟨z, ?_⟩, st'.1.at fun o q => (sb.2 it (Ne.symm hne)).trans q, hne⟩, fun b hb => ?_⟩
    · rw [show ((i + 1 : Nat) : Int) = (i : Int) + 1 by omega]
      exact he'
    · have hb' : b < s.heap.objs.size := by
        rcases (by simpa using hb : b = e ∨ b = it) with rfl | rfl
        · exact hel
        · exact hil
      rw [upd_ne (Nat.ne_of_lt hb')]
      exact (hf b hb).1
  done := by
    intro X hP hw hK hc i pins s σ H E I hf st hg
    subst hP hw hK
    obtain ⟨⟨u, he⟩, hit, hne⟩ := st
    obtain ⟨xs, hq, hx⟩ := hg
    obtain ⟨its, rv, p, hz⟩ := I.tuple hq
    obtain ⟨f0, f1, f2, f3, f4, f5⟩ := hf it (by simp)
    have hl := rv.length
    have hT : s.heap.IsTuple a its.toArray := p
    have hd : X.A.in1.handled = none := I.ok.hd hc
    have D : Draws X.prog X.w X.A.in1 it [it, a] i (fun _ _ => True) (fun j h => j = i ∧ h.IsTupleIter it a i ∧ h.IsTuple a its.toArray) :=
      { live := fun _ _ ⟨_, ⟨o, ho, _⟩, _⟩ => ⟨o, ho⟩
        frame := fun _ _ _ ⟨z, u1, u2⟩ k => ⟨z, u1.at fun o q => k it (by simp) o q, u2.at fun o q => k a (by simp) o q⟩
        item := fun j _ _ _ lt ⟨z, _⟩ => absurd lt (by omega)
        done := fun s Q E ⟨_, u1, u2⟩ k => wpAny_nextOf_tuple_end hd u1 u2 (by simp; omega) k }
    exact wpAny_pyNext_enum_endD D he ⟨rfl, hit, hT⟩ fun h' eb => ⟨rfl, I.turned (t' := s.toks) (fun b o hb q => eb b o hb q) f0 f1 f3 f4 f5⟩
  self := fun A i s Q E ⟨⟨_, he⟩, _⟩ h => wpAny_pyIter_enum he h
def iEnT (K : PySem.W.Frag) (ta : TA) : TI := fun σ H R => ta σ H fun vs H1 => ∃ a xs, vs = [.ref a] ∧ SqT K H1 a xs ∧ R (Iet K a) H1
theorem pi_enT {X : Cx} {e : Expr} {ta : TA} {p pos tpos : Pos} {elts : List Expr} {kk : Nat} (hg : Gl X "enumerate") (hm : X.mg "enumerate" = none) (ha : PA X [e] ta) (hs : starEach [e] X.env = [(false, eval e X.env)] := by rfl) (hk : X.K = TabF.K := by first | rfl | assumption) :
    PI X (.Tuple elts kk tpos) (.Call (.Name "enumerate" p) [e] [] pos) (iEnT X.K ta) := by
  refine ⟨fun pins s σ H R I h => Call_ (ld_blt I hg hm boot_enumerate (PyProof.Rows.callWith_type1 (thn (ha.run pos pins s σ H _ I h) fun us s1 ⟨vs, H1, I1, r1, a, xs, ex, hq, q⟩ => ?_) hs rfl))⟩
  subst ex
  cases r1 with
  | cons r rr =>
    cases rr
    cases r
    obtain ⟨its, rv, p', hz⟩ := I1.tuple hq
    refine call_enT (show s1.heap.IsTuple a its.toArray from p') fun h' he hit hk => wpAny_pyIter_enum he ?_
    have I2 : Inv X pins σ H1 { s1 with heap := h' } := I1.kept (t' := s1.toks) hk
    refine ⟨s1.heap.objs.size + 1, [s1.heap.objs.size + 1, s1.heap.objs.size], _, _, H1, rfl, I2, turn_enT a (s1.heap.objs.size + 1) s1.heap.objs.size, ⟨⟨.none, he⟩, hit, Nat.succ_ne_self _⟩, fun b hb => ?_, q⟩
    have le : s1.heap.objs.size ≤ b := by
      rcases (by simpa using hb : b = s1.heap.objs.size + 1 ∨ b = s1.heap.objs.size) with z | z <;> rw [z]
      exact Nat.le_succ _
      exact Nat.le_refl _
    exact I1.fpOk le (I1.hok.fresh le)
theorem walk_enT {K : PySem.W.Frag} {a : Addr} {xs : List V} : L2.Walk (Iet K a) xs.length (fun H => SqT K H a xs) (YPair (fun i => some (.int (i : Nat))) (fun i => xs[i]?)) :=
  ⟨fun i _ hi q => ⟨xs, xs[i], q, by simp [hi]⟩, fun _ q => ⟨xs, q, Nat.le_refl _⟩, fun i H v H' _ q ⟨T, x, h1, h2, h3, h4⟩ => ⟨T, .int (i : Nat), x, h1, h2, h3, rfl, h4 xs q⟩⟩
section
variable {X : Cx} {Δ : Dx} {a b e : Expr} {fa fb fc : WE} {pos : Pos} {es : List Expr} {fr : WA}
theorem walk_eT {K : PySem.W.Frag} {F : Hp} {a : Addr} {vs : List V} {xs : List Px} (e : TupF F a vs) (r : RpA F vs xs) (hk : K = TabF.K := by first | rfl | assumption) : WalkX (Iet K a) (enumX 0 xs) F := by
  have w' := (walk_enT (K := K) (a := a) (xs := vs)).mono (G' := fun H => Le F H) (Y' := YD F (enumX 0 xs)) (fun H h => e.sq hk h) fun i H v H' hi _ ⟨T, y, z, h1, h2, h3, h4, h5⟩ => by
    obtain ⟨x, q1, q2⟩ := r.getV h5
    cases Option.some.inj h4
    refine ⟨_, enumX_get xs 0 i x q1, .inr ⟨T, _, _, h1, h2, h3, rfl, .cons ?_ (.one q2)⟩⟩
    rw [Int.zero_add]
    exact .int _
  unfold WalkX
  rw [enumX_length 0 xs, ← r.length]
  exact w'
def iEnmT (f : WA) : WI := fun c P X => f c (fun rs c1 => match rs with
  | [.d (.tuple xs)] => P (enumX 0 xs) c1
  | _ => False) X
theorem di_enT {p tpos : Pos} {elts : List Expr} {kk : Nat} (hK : Δ.K = X.K) (hg : Gl X "enumerate") (hm : X.mg "enumerate" = none) (ha : PA X [a] (tA Δ fr)) (hs : starEach [a] X.env = [(false, eval a X.env)] := by rfl) (hk : X.K = TabF.K := by first | rfl | assumption) :
    PI X (.Tuple elts kk tpos) (.Call (.Name "enumerate" p) [a] [] pos) (tI Δ (iEnmT fr)) := by
  refine (pi_enT hg hm ha hs).imp fun σ H R ⟨am, F, c, P, XX, ok, hf, kq, kx⟩ => ⟨am, F, c, _, XX, ok, hf, fun rs c1 F1 vs H1 p1 l1 o1 s1 => ?_, kx⟩
  split at p1
  · cases s1 with
    | d r s =>
      cases s
      cases r with
      | tup e r1 => exact ⟨_, _, rfl, e.sq hk o1.fh, kq _ c1 F1 H1 _ p1 l1 o1 (walk_eT e r1)⟩
  · exact p1.elim
end
theorem min2C_i {i j : Int} {P : Rv → Prop} : min2C [.d (.int i), .d (.int j)] P = P (.d (.int (if j < i then j else i))) := rfl
theorem lenC_s {ns : List Int} {P : Rv → Prop} : lenC [.scr ns] P = P (.d (.int ns.length)) := rfl
theorem strOk_of (s : String) : PyData.strOk (Str.ofString s) = true := by
  rw [Str.ofString_eq_toList]
  simp only [PyData.strOk, List.all_toArray, List.all_map, List.all_eq_true, Function.comp, decide_eq_true_eq]
  intro c _
  have := c.valid
  unfold UInt32.isValidChar Nat.isValidChar at this
  unfold Char.toNat
  omega
def rb (b : Bool) : Str := if b then "True" else "False"
def ri (i : Int) : Str := toString i
theorem rb_ok (b : Bool) : PyData.strOk (rb b) = true := by cases b <;> exact strOk_of _
theorem ri_ok (i : Int) : PyData.strOk (ri i) = true := strOk_of _
theorem reprC_b {b : Bool} {P : Rv → Prop} : reprC [.d (.bool b)] P = P (.d (.str (rb b))) := rfl
theorem reprC_i {i : Int} {P : Rv → Prop} : reprC [.d (.int i)] P = (i.natAbs.log2 < 1920 ∧ P (.d (.str (ri i)))) := rfl
theorem sh_str {s : Str} (h : PyData.strOk s = true) : SeqAt.shaped (.str s) = true := by simp [SeqAt.shaped, PyData.canLay0, PyData.depth, h]
theorem eqv_rb (b c : Bool) : PyData.eqv (.str (rb b)) (.str (rb c)) = (b == c) := by
  cases b <;> cases c <;> decide +kernel
theorem eqt_rb {b c : Bool} {P : Rv → Prop} : eqD true (.str (rb b)) (.str (rb c)) P = P (.d (.bool (!(b == c)))) := by simp only [eqD, sh_str (rb_ok _), eqv_rb, true_and]; rfl
theorem eqf_rb {b c : Bool} {P : Rv → Prop} : eqD false (.str (rb b)) (.str (rb c)) P = P (.d (.bool (b == c))) := by simp only [eqD, sh_str (rb_ok _), eqv_rb, true_and]; rfl
theorem eqt_ri {i : Int} {P : Rv → Prop} : eqD true (.str (ri i)) (.str (ri i)) P = P (.d (.bool false)) := by
  have e : PyData.eqv (.str (ri i)) (.str (ri i)) = true := by simp [PyData.eqv]
  simp only [eqD, sh_str (ri_ok _), e, true_and]; rfl
theorem slD_t {xs : List Px} {lo hi : Option Int} {k : Rv → Prop} : slD (.tuple xs) lo hi k = k (.d (.tuple (cutX xs lo hi))) := rfl
end Dl
set_option Elab.async false
set_option maxRecDepth 100000
set_option linter.all false
set_option autoImplicit false
/-! repr of tuples of plain data, where no repr is under way -/
namespace Dl
open PySem PySem.Spec PyProof.Rows L2
variable [TabF]
theorem ok_app (a b : Str) : PyData.strOk (a ++ b) = (PyData.strOk a && PyData.strOk b) := by
  show ((a.cps ++ b.cps).all fun c => decide (c < 0x110000)) = _
  rw [Array.all_append]
  rfl
theorem ok_join : ∀ {ts : List Str}, (∀ t ∈ ts, PyData.strOk t = true) → PyData.strOk (Str.join ", " ts) = true
  | [], _ => strOk_of ""
  | [x], h => h x (by simp)
  | x :: y :: r, h => by
    show PyData.strOk (x ++ ", " ++ Str.join ", " (y :: r)) = true
    rw [ok_app, ok_app, h x (by simp), ok_join fun t ht => h t (by simp only [List.mem_cons] at ht ⊢; exact .inr ht)]
    have : PyData.strOk (", " : Str) = true := strOk_of ", "
    rw [this]
    rfl
theorem ok_tuple {ts : List Str} (h : ∀ t ∈ ts, PyData.strOk t = true) : PyData.strOk (tupleText ts) = true := by
  unfold tupleText
  rw [ok_app, ok_app, ok_join h]
  have h1 : PyData.strOk ("(" : Str) = true := strOk_of "("
  have h2 : ∀ b : Bool, PyData.strOk (if b = true then ",)" else ")" : String) = true := fun b => by cases b <;> exact strOk_of _
  rw [h1, h2]
  rfl
/-- e: how deep, b: how long its text is at most -/
structure Sho (e b : Nat) (d : Px) : Prop where
  sh : d.showable = true
  nd : d.hasDict = false
  dp : d.depth ≤ e
  ln : d.shown.length ≤ b
  ok : PyData.strOk d.shown = true
theorem Sho.int {e : Nat} {i : Int} (h : i.natAbs.log2 < 1920) : Sho e 1921 (.int i) := ⟨by simp [PyData.showable, h], rfl, Nat.zero_le _, int_text_len_1921 h, ri_ok i⟩
theorem Sho.mono {e b e' b' : Nat} {d : Px} (h : Sho e b d) (h1 : e ≤ e') (h2 : b ≤ b') : Sho e' b' d := ⟨h.sh, h.nd, Nat.le_trans h.dp h1, Nat.le_trans h.ln h2, h.ok⟩
theorem sho_all {e b : Nat} : ∀ {xs : List Px}, (∀ x ∈ xs, Sho e b x) → PyData.showableAll xs = true ∧ PyData.hasDictAll xs = false ∧ PyData.depthAll xs ≤ e ∧ ((PyData.shownAll xs).map (·.length)).sum ≤ xs.length * b ∧ (PyData.shownAll xs).length = xs.length ∧ ∀ t ∈ PyData.shownAll xs, PyData.strOk t = true
  | [], _ => ⟨rfl, rfl, Nat.zero_le _, by simp [PyData.shownAll], rfl, fun t h => by cases h⟩
  | x :: xs, h => by
    obtain ⟨h1, h2, h3, h4, h5, h6⟩ := sho_all (xs := xs) fun y hy => h y (List.mem_cons_of_mem _ hy)
    have hx := h x List.mem_cons_self
    refine ⟨by simp [PyData.showableAll, hx.sh, h1], by simp [PyData.hasDictAll, hx.nd, h2], ?_, ?_, by simp [PyData.shownAll, h5], fun t ht => ?_⟩
    · have := hx.dp
      simp only [PyData.depthAll]
      omega
    · have := hx.ln
      simp only [PyData.shownAll, List.map_cons, List.sum_cons, List.length_cons, Nat.succ_mul]
      omega
    · rcases List.mem_cons.mp ht with rfl | ht
      · exact hx.ok
      · exact h6 t ht
theorem Sho.tup {e b n : Nat} {xs : List Px} (h : ∀ x ∈ xs, Sho e b x) (hl : xs.length ≤ n) : Sho (e + 1) (n * b + 2 * n + 3) (.tuple xs) := by
  obtain ⟨h1, h2, h3, h4, h5, h6⟩ := sho_all h
  refine ⟨by simpa [PyData.showable] using h1, by simpa [PyData.hasDict] using h2, ?_, ?_, ok_tuple h6⟩
  · simp only [PyData.depth]
    omega
  · have t := tupleText_len_le (PyData.shownAll xs)
    have m : xs.length * b ≤ n * b := Nat.mul_le_mul_right b hl
    show (tupleText (PyData.shownAll xs)).length ≤ _
    omega
section
variable {X : Cx} {Δ : Dx}
theorem cr_repr_tup (hg : X.A.guards = some []) (hu : X.A.units + 64 < cLine) : CallR X (.builtin "repr") (fun vs H Q => ∃ v xs, vs = [v] ∧ Dp X.K H v (.tuple xs) ∧ Sho 40 1000000 (.tuple xs) ∧ Q (.str (PyData.shown (.tuple xs))) H) := by
  intro pins s σ H vs us Q I r h
  obtain ⟨v, xs, rfl, hd, hs, q⟩ := h
  cases r with
  | cons r rr =>
    cases rr
    obtain ⟨as, rd⟩ := Dp.reads I _ _ _ hd r
    have hd' := hd
    cases hd' with
    | tup e1 e2 =>
      cases r
      refine repr_of_reads' rd hs.sh (fun z => by rw [hs.nd] at z; cases z) hg (by have := hs.dp; omega) (fun _ _ e => e) (fun h' u tk k => ?_) (Nat.le_trans hs.ln (by rw [sizeLine_eq]; decide))
      exact ⟨.str _, H, I.kept (t' := tk) k, ⟨_, rfl⟩, q⟩
def reprA : CD := fun rs P => match rs with
  | [.d (.bool b)] => P (.d (.str (rb b)))
  | [.d (.int i)] => i.natAbs.log2 < 1920 ∧ P (.d (.str (ri i)))
  | [.d (.tuple xs)] => Sho 40 1000000 (.tuple xs) ∧ P (.d (.str (PyData.shown (.tuple xs))))
  | _ => False
end
theorem reprA_b {b : Bool} {P : Rv → Prop} : reprA [.d (.bool b)] P = P (.d (.str (rb b))) := rfl
theorem reprA_i {i : Int} {P : Rv → Prop} : reprA [.d (.int i)] P = (i.natAbs.log2 < 1920 ∧ P (.d (.str (ri i)))) := rfl
theorem reprA_t {xs : List Px} {P : Rv → Prop} : reprA [.d (.tuple xs)] P = (Sho 40 1000000 (.tuple xs) ∧ P (.d (.str (PyData.shown (.tuple xs))))) := rfl
end Dl
set_option Elab.async false
set_option maxRecDepth 100000
set_option linter.all false
set_option autoImplicit false
/-! sorted: ints, and tuples of ints -/
namespace Dl
open PySem PySem.Spec PyProof.Rows L2
variable [TabF]
section
variable {X : Cx} {Δ : Dx}
theorem RpA.of_ints {F : Hp} : ∀ ns : List Int, RpA F (ns.map V.int) (ns.map .int)
  | [] => .nil
  | n :: ns => .cons (.int n) (RpA.of_ints ns)
def sortIC : CD := fun rs P => match rs with
  | [.d (.list xs)] => ∃ ns : List Int, xs = ns.map .int ∧ ∀ ms : List Int, ms.Perm ns → ms.Pairwise (· ≤ ·) → P (.own (ms.map .int))
  | _ => False
theorem cl_sortI (hK : Δ.K = X.K) : ClD X Δ (.builtin "sorted") sortIC :=
  ⟨_, cr_sortedI, fun am F σ H c vs rs P Q ok rx ho k => by
    unfold sortIC at ho
    split at ho
    · obtain ⟨ns, rfl, ho⟩ := ho
      cases rx with
      | d r s =>
        cases s
        cases r with
        | lst e r1 =>
          have z := r1.ints
          subst z
          refine ⟨_, ns, rfl, SqL.of (ok.fh _ _ e), fun ms p h1 h2 hp => ?_⟩
          obtain ⟨o', rs⟩ := Rs.fresh ok hp (RpA.of_ints ms)
          exact k _ F _ _ (ho ms h1 h2) (Le.refl F) o' rs
    · exact ho.elim⟩
end
/-! tuples of ints -/
def tupI (l : List Int) : Px := .tuple (l.map .int)
def vInt : V → Int
  | .int i => i
  | _ => 0
/-- the ints of the tuple that v names -/
def kV (F : Hp) : V → List Int
  | .ref t => (match F t with
    | some (.tup ws) => ws.map vInt
    | _ => [])
  | _ => []
end Dl
set_option Elab.async false
set_option maxRecDepth 100000
set_option linter.all false
set_option autoImplicit false
namespace Dl
open PySem L2
variable [TabF]
section
variable {t : WT} {f : WS} {X : XP} {P : Fl → Prop}
/-- a while loop: I holds ahead of each turn, μ gets less -/
theorem whW_ind (I : Cf → Prop) (μ : Cf → Nat) (hs : ∀ c, I c → ∀ R : Cf → Prop, (∀ c', I c' → μ c' < μ c → R c') →
      t c (fun b c1 => if b = true then f c1 (fun fl => match fl with
        | .nx c2 => R c2
        | .ct c2 => R c2
        | .bk c2 => P (.nx c2)
        | .rt r gs => P (.rt r gs)) X else P (.nx c1)) X) (c : Cf) (h : I c) : ∃ n, whW t f X P n c := by
  have key : ∀ (n : Nat) (c : Cf), I c → μ c < n → whW t f X P n c := by
    intro n
    induction n with
    | zero => exact fun c _ h => absurd h (Nat.not_lt_zero _)
    | succ n ih => exact fun c hI hm => hs c hI (fun c' => whW t f X P n c') fun c' h1 h2 => ih c' h1 (by omega)
  exact ⟨_, key _ c h (Nat.lt_succ_self _)⟩
end
end Dl
set_option Elab.async false
set_option maxRecDepth 100000
set_option linter.all false
set_option autoImplicit false
/-! t[::-1] of a tuple; name[i] op= e -/
namespace L2
open PySem PySem.Spec PyProof.Rows
end L2
set_option Elab.async false
set_option maxRecDepth 100000
set_option linter.all false
set_option autoImplicit false
namespace Dl
open PySem PySem.Spec PyProof.Rows L2
variable [TabF]
section
variable {X : Cx} {Δ : Dx} {a b e : Expr} {fa fb : WE} {pos p2 : Pos}
theorem RpA.rev {F : Hp} : ∀ {vs : List V} {xs : List Px}, RpA F vs xs → RpA F vs.reverse xs.reverse
  | _, _, .nil => .nil
  | _, _, .cons h t => by
    rw [List.reverse_cons, List.reverse_cons]
    exact (RpA.rev t).append (.one h)
/-- t[::-1], a tuple -/
def revD (x : Px) (k : Rv → Prop) : Prop := match x with
  | .tuple xs => k (.d (.tuple xs.reverse))
  | _ => False
def eRevT (fa : WE) : WE := fun c P X => fa c (fun r1 c1 => asD r1 fun x => revD x fun r => P r c1) X
theorem revD_t {xs : List Px} {k : Rv → Prop} : revD (.tuple xs) k = k (.d (.tuple xs.reverse)) := rfl
/-- name[i] op= e, over ints -/
def itI (xs : List Px) (k : Int) (f : Int → Prop) : Prop := 0 ≤ k ∧ match xs[k.toNat]? with
  | some (.int z) => f z
  | _ => False
def sSetIA (i : Nat) (o : Int → Int → Int) (fi fe : WE) : WS := fun c P X => isOwn c i ∧ fi c (fun r c1 => asD r fun x => match x with
  | .int k => ownD c1 i fun xs => itI xs k fun z => fe c1 (fun r2 c2 => asD r2 fun y => match y with
    | .int d => ownD c2 i fun ys => (match ixN ys.length k with
      | some j => P (.nx (putE c2 i (.own (ys.set j (.int (o z d))))))
      | none => False)
    | _ => False) X
  | _ => False) X
theorem sSetIA_eq {i : Nat} {o : Int → Int → Int} {fi fe : WE} {c : Cf} {P : Fl → Prop} {XX : XP} : sSetIA i o fi fe c P XX = (isOwn c i ∧ fi c (fun r c1 => asI r fun k => ownD c1 i fun xs => itI xs k fun z => fe c1 (fun r2 c2 => asI r2 fun d => ownD c2 i fun ys => ∃ j, ixN ys.length k = some j ∧ P (.nx (putE c2 i (.own (ys.set j (.int (o z d))))))) XX) XX) := by
  have hI : ∀ (r : Rv) (g : Int → Prop), (asD r fun x => match x with
      | .int k => g k
      | _ => False) = asI r g := fun r g => by
    cases r with
    | d x => cases x <;> rfl
    | own xs => rfl
    | gen => rfl
    | scr ns => rfl
    | dic D => rfl
  unfold sSetIA
  congr 2
  funext r c1
  refine (hI r _).trans ?_
  congr 1
  funext k
  congr 1
  funext xs
  congr 1
  funext z
  congr 1
  funext r2 c2
  refine (hI r2 _).trans ?_
  congr 1
  funext d
  congr 1
  funext ys
  apply propext
  constructor
  · intro h
    split at h
    · rename_i j ej
      exact ⟨j, ej, h⟩
    · exact h.elim
  · rintro ⟨j, ej, h⟩
    rw [ej]
    exact h
end
end Dl
set_option Elab.async false
set_option maxRecDepth 100000
set_option linter.all false
set_option autoImplicit false
/-! defs that return two lists that nothing else holds -/
namespace Dl
open PySem L2
variable [TabF]
abbrev Cn2 := List Rv → (List Px → List Px → Prop) → Prop
section
variable {X : Cx} {Δ : Dx} {a b e : Expr} {fa fb : WE} {pos : Pos} {es : List Expr} {fr : WA}
/-- a, b = f(..) -/
def sUnp2 (i j : Nat) (Pr : Cn2) (f : WA) : WS := fun c P X => f c (fun rs c1 => Rv.gen ∉ rs ∧ Pr rs fun xs ys => P (.nx (putE (putE c1 i (.own xs)) j (.own ys)))) X
end
end Dl
set_option Elab.async false
set_option maxRecDepth 100000
set_option linter.all false
set_option autoImplicit false
/-! math.gcd by a module's name; a tuple times an int -/
namespace Dl
open PySem L2
variable [TabF]
section
variable {X : Cx} {Δ : Dx} {a b e : Expr} {fa fb : WE} {pos : Pos} {es : List Expr} {fr : WA}
def gcdC : CD := fun rs P => match rs with
  | [.d (.int i), .d (.int j)] => P (.d (.int ((Nat.gcd i.natAbs j.natAbs : Nat) : Int)))
  | _ => False
theorem gcdC_i {i j : Int} {P : Rv → Prop} : gcdC [.d (.int i), .d (.int j)] P = P (.d (.int ((Nat.gcd i.natAbs j.natAbs : Nat) : Int))) := rfl
/-- is, is not, of bools -/
def isBD (neg : Bool) : OD := fun x y P => match x, y with
  | .bool a, .bool b => P (.d (.bool (if neg then !decide (a = b) else decide (a = b))))
  | _, _ => False
theorem sc_notB : ScD X (compareOp .IsNot) (isBD true) :=
  ⟨_, op_notBl, fun G H vx vy x y P Q l rx ry ho k => by
    unfold isBD at ho
    split at ho
    · cases rx
      cases ry
      exact ⟨_, _, rfl, rfl, k _ _ ho fun F => .bl _⟩
    · exact ho.elim⟩
theorem isBD_f {a b : Bool} {P : Rv → Prop} : isBD false (.bool a) (.bool b) P = P (.d (.bool (decide (a = b)))) := rfl
theorem isBD_t {a b : Bool} {P : Rv → Prop} : isBD true (.bool a) (.bool b) P = P (.d (.bool (!decide (a = b)))) := rfl
end
end Dl
set_option Elab.async false
set_option maxRecDepth 100000
set_option linter.all false
set_option autoImplicit false
/-! repr of None too -/
namespace Dl
open PySem PySem.Spec PyProof.Rows L2
variable [TabF]
section
variable {X : Cx} {Δ : Dx}
theorem cr_repr_non : CallR X (.builtin "repr") (fun vs H Q => vs = [.non] ∧ Q (.str "None") H) := by
  intro pins s σ H vs us Q I r h
  obtain ⟨rfl, q⟩ := h
  obtain ⟨u, rfl, e⟩ := vals1 r
  cases e
  exact PySem.P.repr_of_none ⟨.str _, H, I.tok _, ⟨_, rfl⟩, q⟩
def reprN : CD := fun rs P => match rs with
  | [.d .none] => P (.d (.str "None"))
  | [.d (.bool b)] => P (.d (.str (rb b)))
  | [.d (.int i)] => i.natAbs.log2 < 1920 ∧ P (.d (.str (ri i)))
  | [.d (.tuple xs)] => Sho 40 1000000 (.tuple xs) ∧ P (.d (.str (PyData.shown (.tuple xs))))
  | _ => False
theorem reprN_n {P : Rv → Prop} : reprN [.d .none] P = P (.d (.str "None")) := rfl
theorem reprN_b {b : Bool} {P : Rv → Prop} : reprN [.d (.bool b)] P = P (.d (.str (rb b))) := rfl
theorem reprN_i {i : Int} {P : Rv → Prop} : reprN [.d (.int i)] P = (i.natAbs.log2 < 1920 ∧ P (.d (.str (ri i)))) := rfl
theorem reprN_t {xs : List Px} {P : Rv → Prop} : reprN [.d (.tuple xs)] P = (Sho 40 1000000 (.tuple xs) ∧ P (.d (.str (PyData.shown (.tuple xs))))) := rfl
end
end Dl
set_option Elab.async false
set_option maxRecDepth 100000
set_option linter.all false
set_option autoImplicit false
/-! // by a great int of either sign -/
namespace Dl
open PySem PySem.Spec PyProof.Rows L2
variable [TabF]
section
variable {X : Cx} {Δ : Dx}
def CDivB (_ j : Int) : Prop := j ≠ 0 ∧ j.natAbs.log2 < 9000
abbrev fdivB : OD := iD (fun i j => .int (i.fdiv j)) CDivB
theorem fdivB_i {i j : Int} {P : Rv → Prop} : fdivB (.int i) (.int j) P = (CDivB i j ∧ P (.d (.int (i.fdiv j)))) := rfl
end
end Dl
set_option Elab.async false
set_option maxRecDepth 100000
set_option linter.all false
set_option autoImplicit false
namespace Dl
open PySem L2
variable [TabF]
/-! ### exceptions of the program's own classes -/
theorem two {a b : Bool} (h : (a && b) = true) : a = true ∧ b = true := by
  cases a
  · cases h
  · exact ⟨rfl, h⟩
/-- an exception, as the heap has it -/
def XR (mg : Str → Option Value) (F H : Hp) (x : Xn) (cls : Value) (d : Option Addr) : Prop :=
  ∃ C dd fs, mg x.cls = some (.ref C) ∧ cls = .ref C ∧ d = some dd ∧ H dd = some (.xd fs) ∧ ∀ f p, x.fields.lookup f = some p → ∃ v, fs.lookup f = some v ∧ Rp F v p
/-! ### def __init__(self, y): self.f = y -/
/-! ### raise C(e) -/
def rz (rs : List Rv) (k : Px → Prop) : Prop := match rs with
  | [.d p] => k p
  | _ => False
/-! ### a def that may raise -/
end Dl
set_option Elab.async false
set_option maxRecDepth 100000
set_option linter.all false
set_option autoImplicit false
namespace Dl
open PySem L2 PySem.Spec PyProof.Rows
/-! ### try, with clauses that name what they catch -/
end Dl
set_option Elab.async false
set_option maxRecDepth 100000
set_option linter.all false
set_option autoImplicit false
namespace Dl
open PySem L2
variable [TabF]
/-! ### try: NAME = f(..), and clauses `except C as e: NAME = e.field` -/
section
variable {X : Cx} {Δ : Dx}
theorem Ok.drop {am : Addr} {F : Hp} {σ : L2.St} {H : Hp} {c : Cf} (k : Ok Δ am F σ H c) (i : Nat) (o : Option V) : Ok Δ am F (σ.set i o) H ⟨c.env.set i none, c.g⟩ where
  fh := k.fh
  f0 := k.f0
  fr := k.fr
  tb := k.tb
  pr := k.pr
  al := k.al
  gn := k.gn
  len := by
    show (σ.set i o).length = (c.env.set i none).length
    rw [List.length_set, List.length_set]
    exact k.len
  sv := fun j r e => by
    have e : (c.env.set i none)[j]? = some (some r) := e
    by_cases h : i = j
    · subst h
      rw [List.getElem?_set] at e
      simp only [if_true] at e
      split at e <;> cases e
    · rw [List.getElem?_set_ne h] at e
      rw [List.getElem?_set_ne h]
      exact k.sv j r e
  di := fun a b xs ys n e1 e2 m1 m2 => by
    have e1 : (c.env.set i none)[a]? = some (some xs) := e1
    have e2 : (c.env.set i none)[b]? = some (some ys) := e2
    have key : ∀ {j : Nat} {r : Rv}, (c.env.set i none)[j]? = some (some r) → i ≠ j ∧ c.env[j]? = some (some r) := fun {j r} e => by
      by_cases h : i = j
      · subst h
        rw [List.getElem?_set] at e
        simp only [if_true] at e
        split at e <;> cases e
      · rw [List.getElem?_set_ne h] at e
        exact ⟨h, e⟩
    obtain ⟨n1, e1⟩ := key e1
    obtain ⟨n2, e2⟩ := key e2
    rw [List.getElem?_set_ne n1, List.getElem?_set_ne n2]
    exact k.di a b xs ys n e1 e2 m1 m2
end
/-! ### what a def wants to know of the classes that it raises and catches -/
end Dl
set_option Elab.async false
set_option maxRecDepth 100000
set_option linter.all false
set_option autoImplicit false
namespace Dl
open PySem L2
variable [TabF]
/-! ### x, y, z = [..], d, [..]: the lists stay the names' own -/
def rd (r : Rv) (k : Px → Prop) : Prop := match r with
  | .d y => k y
  | _ => False
def sPar3o (i j l : Nat) (fa fb fc : WE) : WS := fun c P X => fa c (fun r1 c1 => fb c1 (fun r2 c2 => rd r2 fun y => fc c2 (fun r3 c3 => P (.nx (putE (putE (putE c3 l r3) j (.d y)) i r1))) X) X) X
section
variable {X : Cx} {Δ : Dx} {a b e : Expr} {fa fb fc : WE} {pos : Pos}
theorem ds_par3o (i j l : Nat) {x y z : Str} {d : Expr} {px py pz pt : Pos} {kt k2 : Nat} {pt2 : Pos} (hc : X.calm = true) (hN : X.N.Nodup) (ha : PE X a (tE Δ fa)) (hb : ∀ Δ' : Dx, Δ'.K = Δ.K → PE X b (tE Δ' fb)) (hd : ∀ Δ' : Dx, Δ'.K = Δ.K → PE X d (tE Δ' fc))
    (hw : swappedStores [.Tuple [.Name x px, .Name y py, .Name z pz] kt pt] (.Tuple [a, b, d] k2 pt2) X.env = pure (some [x, y, z])) (hi : X.N[i]? = some x := by rfl) (hj : X.N[j]? = some y := by rfl) (hl : X.N[l]? = some z := by rfl)
    (hx : X.env.scope.names.lookup x = some .local := by rfl) (hy : X.env.scope.names.lookup y = some .local := by rfl) (hz : X.env.scope.names.lookup z = some .local := by rfl)
    (hs1 : starEach (a :: [b, d]) X.env = (false, eval a X.env) :: starEach [b, d] X.env := by rfl) (hs2 : starEach (b :: [d]) X.env = (false, eval b X.env) :: starEach [d] X.env := by rfl) (hs3 : starEach (d :: []) X.env = (false, eval d X.env) :: starEach [] X.env := by rfl)
    (hs : swapsWithSole [.Tuple [.Name x px, .Name y py, .Name z pz] kt pt] (.Tuple [a, b, d] k2 pt2) pos.line X.env = pure false := by rfl) :
    PS X (.Assign [.Tuple [.Name x px, .Name y py, .Name z pz] kt pt] (.Tuple [a, b, d] k2 pt2) pos) (tS Δ (sPar3o i j l fa fb fc)) := by
  let tb : TE := fun σ H Q => ∃ Δ' : Dx, Δ'.K = Δ.K ∧ tE Δ' fb σ H Q
  let td : TE := fun σ H Q => ∃ Δ' : Dx, Δ'.K = Δ.K ∧ tE Δ' fc σ H Q
  have hb' : PE X b tb := ⟨fun pins s σ H Q I ⟨Δ', e, h⟩ => (hb Δ' e).run pins s σ H Q I h⟩
  have hd' : PE X d td := ⟨fun pins s σ H Q I ⟨Δ', e, h⟩ => (hd Δ' e).run pins s σ H Q I h⟩
  refine (ps_par3 hc hN hi hj hl hx hy hz (pa_cons ha (pa_cons hb' (pa_cons hd' pa_nil hs3) hs2) hs1) hw hs).imp fun D σ H ⟨am, F, c, P, XX, ok, hf, kf, kx⟩ => ?_
  refine ⟨am, F, c, _, XX, ok, hf, fun r1 c1 F1 v1 H1 p1 l1 o1 s1 => ?_, kx am⟩
  refine keep_of (Δ := Δ) o1 s1 (fun Δ' e σ H Q h => ⟨Δ', e, h⟩) p1 ((kx am).le l1) fun r2 c2 F2 v2 H2 p2 l2 o2 s2 s1' _ => ?_
  cases r2 with
  | own _ => exact p2.elim
  | gen => exact p2.elim
  | scr _ => exact p2.elim
  | dic _ => exact p2.elim
  | d yy =>
    refine keep_of (Δ := Δ) o2 s1' (fun Δ' e σ H Q h => ⟨Δ', e, h⟩) (show fc c2 _ XX from p2) ((kx am).le (l1.trans l2)) fun r3 c3 F3 v3 H3 p3 l3 o3 s3 s1'' ne => ?_
    refine ⟨v1, v2, v3, rfl, kf.1 _ am F3 _ H3 p3 ((l1.trans l2).trans l3) ?_⟩
    have o4 := o3.put s3 l
    have o5 := o4.put (r := .d yy) (v := v2) ⟨Rp.mono l3 s2.1, fun z => z.elim⟩ j
    exact o5.put ((s1''.put o3.len ne l).put o4.len (fun _ (z : (Rv.d yy).mu) => z.elim) j) i
end
end Dl
set_option Elab.async false
set_option maxRecDepth 100000
set_option linter.all false
set_option autoImplicit false
namespace Dl
open PySem L2
variable [TabF]
/-! ### range(i, j, -1) -/
def dnX (hi : Int) : Nat → List Px
  | 0 => []
  | n + 1 => .int hi :: dnX (hi - 1) n
def iRg3 (f : WA) : WI := fun c P X => f c (fun rs c1 => match rs with
  | [.d (.int i), .d (.int j), .d (.int k)] => k = -1 ∧ smI i ∧ smI j ∧ P (dnX i (i - j).toNat) c1
  | _ => False) X
section
open PySem.Spec PyProof.Rows
variable {X : Cx} {Δ : Dx} {a b e : Expr} {fa fb : WE} {pos p2 : Pos}
/-! ### xs[::-1], a list -/
def revLD (x : Px) (k : Rv → Prop) : Prop := match x with
  | .list xs => k (.own xs.reverse)
  | _ => False
def eRevL (fa : WE) : WE := fun c P X => fa c (fun r1 c1 => asD r1 fun x => revLD x fun r => P r c1) X
theorem revLD_l {xs : List Px} {k : Rv → Prop} : revLD (.list xs) k = k (.own xs.reverse) := rfl
/-- an item of a list, by values -/
def rGetM (K : PySem.W.Frag) : V → V → Hp → VK → Prop := fun o i H Q => ∃ p xs k v, o = .ref p ∧ i = .int k ∧ SqL K H p xs ∧ k < 0 ∧ -(xs.length : Int) ≤ k ∧ xs[(k + (xs.length : Int)).toNat]? = some v ∧ Q v H
theorem pget_listM : PGet X (rGetM X.K) := by
  intro pins s σ H o i ov iv Q I ro ri h
  obtain ⟨p, xs, k, v, rfl, rfl, hq, h0, h1, he, q⟩ := h
  cases ro
  obtain ⟨t, rfl⟩ := ri
  obtain ⟨its, r, pl, hz⟩ := I.list hq
  obtain ⟨w, ew, rw'⟩ := r.get he
  have hl := r.length
  have hn := line63
  exact wpAny_getItem_list_neg pl.isList h0 (by rw [List.size_toArray]; omega) (by omega) (by rw [List.size_toArray, ← hl]; simpa using ew) ⟨v, H, I, rw', q⟩
/-- name[i] op= e, over ints -/
def itM (xs : List Px) (k : Int) (f : Int → Prop) : Prop := k < 0 ∧ -(xs.length : Int) ≤ k ∧ match xs[(k + (xs.length : Int)).toNat]? with
  | some (.int z) => f z
  | _ => False
def sSetIM (i : Nat) (o : Int → Int → Int) (fi fe : WE) : WS := fun c P X => isOwn c i ∧ fi c (fun r c1 => asD r fun x => match x with
  | .int k => ownD c1 i fun xs => itM xs k fun z => fe c1 (fun r2 c2 => asD r2 fun y => match y with
    | .int d => ownD c2 i fun ys => (match ixN ys.length k with
      | some j => P (.nx (putE c2 i (.own (ys.set j (.int (o z d))))))
      | none => False)
    | _ => False) X
  | _ => False) X
theorem ds_setIM (i : Nat) {x : Str} {p : Pos} {op : Operator} {o : Int → Int → Int} (hb : PE X b (tE Δ fb)) (ha : PE X a (tE Δ fa)) (ho : PIp X op (ipI o)) (hN : X.N[i]? = some x := by rfl)
    (hv : Vis X.env.scope x := by first | exact Or.inl rfl | exact Or.inr (Or.inl rfl) | exact Or.inr (Or.inr rfl)) (hd : (x == ("__debug__" : Str)) = false := by decide)
    (hcd : (x == ("__classdict__" : Str)) = false := by decide)
    (ha' : ∀ ov iv new, augStore b ov iv new = (do holding [new, ov, iv] (setItem ov iv new); release [new, ov, iv] []; pure .next) := by intros; rfl) : PS X (.AugAssign (.Subscript (.Name x p) b p2) op a pos) (tS Δ (sSetIM i o fb fa)) := by
  refine (ps_augS (pv i hN hv hd hcd) hb pget_listM ha ho set_list ha').imp fun D σ H ⟨am, F, c, P, XX, ok, ⟨ho, hf⟩, kf, kx⟩ => ?_
  obtain ⟨a0, vs, xs, _, e0, g1, g2, _⟩ := ok.mine ho
  refine ⟨_, g1, am, F, c, _, XX, ok, hf, fun r c1 F1 v1 H1 p1 l1 o1 s1 => ?_, kx am⟩
  obtain ⟨y, F2, hy, l2, o2, ry⟩ := s1.data o1 p1
  split at hy
  · rename_i k
    cases ry
    obtain ⟨a', us, ys, q, e1, k1, k2, k3, k4, k5⟩ := o2.mine hy
    rw [g1] at k1
    cases k1
    obtain ⟨h0, h1, q⟩ := q
    split at q
    · rename_i z ez
      obtain ⟨v, ev, rv⟩ := k5.get ez
      cases rv
      refine ⟨_, _, _, _, rfl, rfl, SqL.of k2, h0, (by rw [k5.length]; exact h1), (by rw [k5.length]; exact ev), am, F2, c1, _, XX, o2, q, fun r3 c3 F3 v3 H3 p3 l3 o3 s3 => ?_, (kx am).le (l1.trans l2)⟩
      obtain ⟨y4, F4, hy4, l4, o4, ry4⟩ := s3.data o3 p3
      split at hy4
      · cases ry4
        refine ⟨_, _, rfl, rfl, ?_⟩
        obtain ⟨a5, us5, ys5, q5, e5, m1, m2, m3, m4, m5⟩ := o4.mine hy4
        rw [g1] at m1
        cases m1
        split at q5
        · rename_i j ej
          exact ⟨a0, us5, _, j, rfl, rfl, m2, (by rw [m5.length]; exact ej), kf.1 _ am F4 σ _ q5 (((l1.trans l2).trans l3).trans l4) (o4.mutate e5 g1 m2 m3 m4 (m5.set (.int _) j))⟩
        · exact q5.elim
      · exact hy4.elim
    · exact q.elim
  · exact hy.elim
theorem sSetIM_eq {i : Nat} {o : Int → Int → Int} {fi fe : WE} {c : Cf} {P : Fl → Prop} {XX : XP} : sSetIM i o fi fe c P XX = (isOwn c i ∧ fi c (fun r c1 => asI r fun k => ownD c1 i fun xs => itM xs k fun z => fe c1 (fun r2 c2 => asI r2 fun d => ownD c2 i fun ys => ∃ j, ixN ys.length k = some j ∧ P (.nx (putE c2 i (.own (ys.set j (.int (o z d))))))) XX) XX) := by
  have hI : ∀ (r : Rv) (g : Int → Prop), (asD r fun x => match x with
      | .int k => g k
      | _ => False) = asI r g := fun r g => by
    cases r with
    | d x => cases x <;> rfl
    | own xs => rfl
    | gen => rfl
    | scr ns => rfl
    | dic D => rfl
  unfold sSetIM
  congr 2
  funext r c1
  refine (hI r _).trans ?_
  congr 1
  funext k
  congr 1
  funext xs
  congr 1
  funext z
  congr 1
  funext r2 c2
  refine (hI r2 _).trans ?_
  congr 1
  funext d
  congr 1
  funext ys
  apply propext
  constructor
  · intro h
    split at h
    · rename_i j ej
      exact ⟨j, ej, h⟩
    · exact h.elim
  · rintro ⟨j, ej, h⟩
    rw [ej]
    exact h
theorem itM_last {ns : List Int} {z : Int} {f : Int → Prop} (hf : f z) : itM ((ns ++ [z]).map .int) (-1) f := by
  refine ⟨by decide, by simp; omega, ?_⟩
  rw [show (-1 + (((ns ++ [z]).map PyData.int).length : Int)).toNat = ns.length by simp; omega]
  rw [List.getElem?_map, List.getElem?_concat_length]
  exact hf
theorem ixN_last {n : Nat} : ixN (n + 1) (-1) = some n := by
  unfold ixN
  simp
  omega
end
/-! ### zip of two tuples -/
def iZpT (f : WA) : WI := fun c P X => f c (fun rs c1 => match rs with
  | [.d (.tuple xs), .d (.tuple ys)] => P (zipX xs ys) c1
  | _ => False) X
end Dl
set_option Elab.async false
set_option maxRecDepth 100000
set_option linter.all false
set_option autoImplicit false
namespace Dl
open PySem PySem.Spec PyProof.Rows L2
variable [TabF]
/-! ### dicts with int keys that a name holds -/
def lookD (kvs : List (Int × Px)) (k : Int) : Option Px := (kvs.find? fun p => decide (p.1 = k)).map (·.2)
def putD (kvs : List (Int × Px)) (k : Int) (y : Px) : List (Int × Px) :=
  if (kvs.any fun p => decide (p.1 = k)) = true then kvs.map (fun p => if p.1 = k then (p.1, y) else p) else kvs ++ [(k, y)]
theorem RpK.length {F : Hp} : ∀ {ws : List (Key × V)} {kvs : List (Int × Px)}, RpK F ws kvs → ws.length = kvs.length
  | _, _, .nil => rfl
  | _, _, .cons _ b => congrArg (· + 1) (RpK.length b)
theorem RpK.look {F : Hp} {k : Int} : ∀ {ws : List (Key × V)} {kvs : List (Int × Px)}, RpK F ws kvs → (∀ y, lookD kvs k = some y → ∃ v, valV ws (.inl k : Key) = some v ∧ Rp F v y) ∧ (lookD kvs k = none → valV ws (.inl k : Key) = none)
  | _, _, .nil => ⟨fun y h => (nomatch h), fun _ => rfl⟩
  | _, _, .cons (k := j) (v := v) (d := d) (ws := ws) (kvs := kvs) a b => by
    by_cases e : j = k
    · subst e
      have h1 : lookD ((j, d) :: kvs) j = some d := by simp [lookD]
      have h2 : valV (((Sum.inl j : Key), v) :: ws) (Sum.inl j : Key) = some v := valV_pos rfl
      exact ⟨fun y h => ⟨v, h2, by rw [h1] at h; cases h; exact a⟩, fun h => by rw [h1] at h; cases h⟩
    · have h1 : lookD ((j, d) :: kvs) k = lookD kvs k := by simp [lookD, e]
      have h2 : valV (((Sum.inl j : Key), v) :: ws) (Sum.inl k : Key) = valV ws (Sum.inl k : Key) := valV_neg fun z => e (Sum.inl.inj z)
      rw [h1, h2]
      exact b.look
theorem RpK.any {F : Hp} {k : Int} : ∀ {ws : List (Key × V)} {kvs : List (Int × Px)}, RpK F ws kvs → (ws.any fun p => decide (p.1 = (Sum.inl k : Key))) = kvs.any fun p => decide (p.1 = k)
  | _, _, .nil => rfl
  | _, _, .cons (k := j) _ b => by
    rw [List.any_cons, List.any_cons, b.any]
    congr 1
    by_cases e : j = k
    · subst e; simp
    · simp [e]
theorem RpK.append {F : Hp} {k : Int} {v : V} {y : Px} (r : Rp F v y) : ∀ {ws : List (Key × V)} {kvs : List (Int × Px)}, RpK F ws kvs → RpK F (ws ++ [((.inl k : Key), v)]) (kvs ++ [(k, y)])
  | _, _, .nil => .cons r .nil
  | _, _, .cons a b => .cons a (b.append r)
theorem RpK.set {F : Hp} {k : Int} {v : V} {y : Px} (r : Rp F v y) : ∀ {ws : List (Key × V)} {kvs : List (Int × Px)}, RpK F ws kvs → RpK F (ws.map fun p => if p.1 = (.inl k : Key) then (p.1, v) else p) (kvs.map fun p => if p.1 = k then (p.1, y) else p)
  | _, _, .nil => .nil
  | _, _, .cons (k := j) a b => by
    rw [List.map_cons, List.map_cons]
    by_cases e : j = k
    · subst e
      rw [if_pos rfl, if_pos rfl]
      exact .cons r (b.set r)
    · rw [if_neg (fun z => e (Sum.inl.inj z)), if_neg e]
      exact .cons a (b.set r)
theorem RpK.put {F : Hp} {k : Int} {v : V} {y : Px} {ws : List (Key × V)} {kvs : List (Int × Px)} (h : RpK F ws kvs) (r : Rp F v y) : RpK F (putK ws (.inl k : Key) v) (putD kvs k y) := by
  unfold putK putD
  rw [h.any]
  split
  · exact h.set r
  · exact h.append r
def dicD (c : Cf) (i : Nat) (k : List (Int × Px) → Prop) : Prop := match c.env[i]? with
  | some (some (.dic (.k kvs))) => k kvs
  | _ => False
def slotDc (o : Option (Option Rv)) (k : List (Int × Px) → Prop) : Prop := match o with
  | some (some (.dic (.k kvs))) => k kvs
  | _ => False
theorem dicD_eq {c : Cf} {i : Nat} {k : List (Int × Px) → Prop} : dicD c i k = slotDc c.env[i]? k := rfl
theorem slotDc_k {kvs : List (Int × Px)} {k : List (Int × Px) → Prop} : slotDc (some (some (.dic (.k kvs)))) k = k kvs := rfl
def dicR (r : Rv) (k : List (Int × Px) → Prop) : Prop := match r with
  | .dic (.k kvs) => k kvs
  | _ => False
theorem dicR_k {kvs : List (Int × Px)} {k : List (Int × Px) → Prop} : dicR (.dic (.k kvs)) k = k kvs := rfl
def hdX (xs : List Px) (k : Px → List Px → Prop) : Prop := match xs with
  | y :: ys => k y ys
  | [] => False
theorem hdX_c {y : Px} {ys : List Px} {k : Px → List Px → Prop} : hdX (y :: ys) k = k y ys := rfl
def isDic (c : Cf) (i : Nat) : Prop := dicD c i fun _ => True
section
variable {Δ : Dx} {am : Addr} {F : Hp} {σ : L2.St} {H : Hp} {c : Cf}
theorem Ok.mineD (k : Ok Δ am F σ H c) {i : Nat} {q : List (Int × Px) → Prop} (h : dicD c i q) :
    ∃ a ws kvs, q kvs ∧ c.env[i]? = some (some (.dic (.k kvs))) ∧ σ[i]? = some (some (.ref a)) ∧ H a = some (.dK ws) ∧ F a = none ∧ Δ.H0 a = none ∧ RpK F ws kvs := by
  unfold dicD at h
  split at h
  · rename_i kvs e
    obtain ⟨v, h1, a, o, e1, e2, e3, e4, ws, e5, e6⟩ := k.sv i _ e
    subst e1
    subst e5
    exact ⟨a, ws, kvs, h, e, h1, e2, e3, e4, e6⟩
  · exact h.elim
/-- an object without a name, changed -/
theorem Ok.chgO {p : Addr} {o o' : HO} (k : Ok Δ am F σ H c) (h : H p = some o) (nt' : ∀ ps, o' ≠ .tbl ps) (ho : ∃ ws, o = .dK ws) (hg : ∀ n, c.g = some n → am ≠ p) (hf : F p = none) (h0 : Δ.H0 p = none) (no : ∀ (i : Nat) (r : Rv), c.env[i]? = some (some r) → r.mu → σ[i]? ≠ some (some (.ref p))) :
    Ok Δ am F σ (upd H p o') c where
  fh := fun b o e => by rw [upd_ne (fun q => by rw [q, hf] at e; cases e)]; exact k.fh b o e
  f0 := k.f0
  fr := k.fr
  tb := by
    obtain ⟨ws, rfl⟩ := ho
    exact k.tb.dK h
  pr := fun b o e n => by rw [upd_ne (ne_of_none e h0)]; exact k.pr b o e n
  al := fun b e => ⟨(k.al b e).1.upd nt', (k.al b e).2⟩
  gn := fun n e => by
    obtain ⟨h1, h2, h3⟩ := k.gn n e
    have ne := hg n e
    obtain ⟨l, s, sp, ac, ns, h4, h5⟩ := h3
    exact ⟨h1, h2, l, s, sp, ac, ns, by rw [upd_ne ne]; exact h4, h5⟩
  len := k.len
  sv := fun i r e => by
    obtain ⟨v, h1, h2⟩ := k.sv i r e
    refine ⟨v, h1, ?_⟩
    cases r with
    | d x => exact h2
    | gen => exact h2
    | scr ns => exact h2
    | own xs =>
      obtain ⟨a, us, e1, e2, e3⟩ := h2
      subst e1
      exact ⟨a, us, rfl, by rw [upd_ne (show a ≠ p from fun z => no i _ e True.intro (by rw [h1, z]))]; exact e2, e3⟩
    | dic D =>
      obtain ⟨a, us, e1, e2, e3⟩ := h2
      subst e1
      exact ⟨a, us, rfl, by rw [upd_ne (show a ≠ p from fun z => no i _ e True.intro (by rw [h1, z]))]; exact e2, e3⟩
  di := k.di
theorem Ok.ngD {a : Addr} {D : Dic} {o : HO} (k : Ok Δ am F σ H c) (h : H a = some o) (r : DicR F D o) : ∀ n, c.g = some n → am ≠ a := fun n e => ((k.gn n e).2.2.neD h r).symm
theorem Ok.mutateD (k : Ok Δ am F σ H c) {i : Nat} {a : Addr} {ws us : List (Key × V)} {kvs kvs' : List (Int × Px)} (e : c.env[i]? = some (some (.dic (.k kvs)))) (h1 : σ[i]? = some (some (.ref a))) (h2 : H a = some (.dK ws)) (h3 : F a = none) (h4 : Δ.H0 a = none) (r0 : RpK F ws kvs) (r : RpK F us kvs') :
    Ok Δ am F σ (upd H a (.dK us)) (putE c i (.dic (.k kvs'))) := by
  have no : ∀ (j : Nat) (zs : Rv), j ≠ i → c.env[j]? = some (some zs) → zs.mu → σ[j]? ≠ some (some (.ref a)) := fun j zs n p mu z => k.di j i zs _ n p e mu True.intro (z.trans h1.symm)
  have k1 : Ok Δ am F σ H { c with env := c.env.set i none } := ⟨k.fh, k.f0, k.fr, k.tb, k.pr, k.al, k.gn, by simpa using k.len, fun j r e => by
      rw [env_get] at e
      split at e
      · cases e
      · exact k.sv j r e, fun j l ys zs n p q => by
      rw [env_get] at p q
      split at p
      · cases p
      · split at q
        · cases q
        · exact k.di j l ys zs n p q⟩
  have hi : i < c.env.length := (List.getElem?_eq_some_iff.mp e).1
  have no' : ∀ (j : Nat) (zs : Rv), (c.env.set i none)[j]? = some (some zs) → zs.mu → σ[j]? ≠ some (some (.ref a)) := fun j zs p => by
    rw [env_get] at p
    split at p
    · cases p
    · rename_i q
      exact no j zs (fun z => q ⟨z, hi⟩) p
  have k2 := (k1.chgO (o' := .dK us) h2 dK_ok.1 ⟨_, rfl⟩ (fun n e => k.ngD (D := .k kvs) h2 ⟨ws, rfl, r0⟩ n e) h3 h4 no').put (r := .dic (.k kvs')) (v := .ref a) ⟨⟨a, _, rfl, upd_same, h3, h4, us, rfl, r⟩, fun _ j zs p => no' j zs p⟩ i
  rw [set_self h1] at k2
  have : putE c i (.dic (.k kvs')) = { c with env := (c.env.set i none).set i (some (.dic (.k kvs'))) } := by
    unfold putE
    rw [List.set_set]
  rw [this]
  exact k2
end
section
variable {X : Cx} {Δ : Dx} {a b e e1 e2 : Expr} {fa fb f1 f2 : WE} {pos : Pos} {x : Str} {p p2 : Pos}
/-- {k: v} -/
def eDisp1 (f1 f2 : WE) : WE := fun c P X => f1 c (fun r1 c1 => asI r1 fun i => f2 c1 (fun r2 c2 => asD r2 fun y => P (.dic (.k [(i, y)])) c2) X) X
theorem asI_of {r : Rv} {k : Int → Prop} (h : asI r k) : ∃ i, r = .d (.int i) ∧ k i := by
  unfold asI at h
  split at h
  · exact ⟨_, rfl, h⟩
  · exact h.elim
theorem de_disp1 (h1 : ∀ Δ' : Dx, Δ'.K = Δ.K → PE X e1 (tE Δ' f1)) (h2 : ∀ Δ' : Dx, Δ'.K = Δ.K → PE X e2 (tE Δ' f2)) : PE X (.Dict [some e1] [e2] pos) (tE Δ (eDisp1 f1 f2)) := by
  let t1 : TE := fun σ H Q => ∃ Δ' : Dx, Δ'.K = Δ.K ∧ tE Δ' f1 σ H Q
  let t2 : TE := fun σ H Q => ∃ Δ' : Dx, Δ'.K = Δ.K ∧ tE Δ' f2 σ H Q
  have g1 : PE X e1 t1 := ⟨fun pins s σ H Q I ⟨Δ', e, h⟩ => (h1 Δ' e).run pins s σ H Q I h⟩
  have g2 : PE X e2 t2 := ⟨fun pins s σ H Q I ⟨Δ', e, h⟩ => (h2 Δ' e).run pins s σ H Q I h⟩
  refine (pe_disp (pps_cons g1 g2 pps_nil |> fun h => h) rfl rfl (fun z => nomatch z) (show 1 ≤ 15 by decide)).imp fun σ H Q ⟨am, F, c, P, XX, ok, hf, kq, kx⟩ => ?_
  intro d hd
  have h0 : Δ.H0 d = none := ok.new hd
  have fd : F d = none := ok.fh.nn hd
  have f00 : Δ.F0 d = none := ok.f0.nn fd
  have na : Δ.a0 ≠ some d := fun z => (ok.al d z).2 h0
  have no : ∀ (i : Nat) (r : Rv), c.env[i]? = some (some r) → r.mu → σ[i]? ≠ some (some (.ref d)) := fun i xs e mu z => by
    obtain ⟨v, w1, s1⟩ := ok.sv i _ e
    obtain ⟨a, vs, w2, w3, _⟩ := s1.at mu
    subst w2
    rw [z] at w1
    cases w1
    rw [hd] at w3; cases w3
  have oh := (ok.alloc hd (.dK [])).holdO (p := d) (o := .dK []) upd_same dK_ok.1 (fun n e => (ok.ngen e hd).symm) fd h0 no
  have kxh : ∀ {G : Hp}, Le F G → KX (Δ.hold d (.dK [])) am G XX := fun {G} lg x g F' H' h l fn => kx x g F' H' h (lg.trans l) (fn.unhold h0 na)
  refine ⟨Δ.hold d (.dK []), rfl, am, F, c, _, XX, oh, hf, fun r1 c1 F1 v1 H1 p1 l1 o1 s1 => ?_, kxh (Le.refl F)⟩
  obtain ⟨i, rfl, p1⟩ := asI_of p1
  have w1 := s1.1
  cases w1
  refine ⟨Δ.hold d (.dK []), rfl, am, F1, c1, _, XX, o1, p1, fun r2 c2 F2 v2 H2 p2 l2 o2 s2 => ?_, kxh l1⟩
  obtain ⟨y, F3, hy, l3, o3, ry⟩ := s2.data o2 p2
  obtain ⟨o5, hd5, fd5, no5⟩ := o3.unhold h0 f00 na
  refine ⟨hd5, [((.inl i : Key), v2)], rfl, (by show 1 ≤ 15; decide), ?_⟩
  have em : mergeK [] [((.inl i : Key), v2)] = [((.inl i : Key), v2)] := by
    show putK [] (.inl i : Key) v2 = _
    exact putK_new _ rfl
  rw [em]
  have ok6 := o5.chgO (o' := .dK [((.inl i : Key), v2)]) hd5 dK_ok.1 ⟨_, rfl⟩ (o5.ngD (D := .k []) hd5 ⟨[], rfl, .nil⟩) fd5 h0 no5
  exact kq (.dic (.k [(i, y)])) c2 F3 (.ref d) _ hy ((l1.trans l2).trans l3) ok6 ⟨⟨d, _, rfl, upd_same, fd5, h0, _, rfl, .cons ry .nil⟩, fun _ j r' e mu => no5 j r' e mu⟩
/-- d[k], a name's dict -/
def eDIx (i : Nat) (fb : WE) : WE := fun c P X => isDic c i ∧ fb c (fun r c1 => asI r fun k => dicD c1 i fun kvs => ∃ y, lookD kvs k = some y ∧ P (.d y) c1) X
theorem de_dix (i : Nat) (hu : X.A.units + 64 < cLine) (hb : PE X b (tE Δ fb)) (hs : NoSl b := by intros; rfl) (hN : X.N[i]? = some x := by rfl)
    (hv : Vis X.env.scope x := by first | exact Or.inl rfl | exact Or.inr (Or.inl rfl) | exact Or.inr (Or.inr rfl)) (hd : (x == ("__debug__" : Str)) = false := by decide)
    (hcd : (x == ("__classdict__" : Str)) = false := by decide) : PE X (.Subscript (.Name x p) b pos) (tE Δ (eDIx i fb)) := by
  refine (pe_dget (by omega) (pv i hN hv hd hcd) hb hs).imp fun σ H Q ⟨am, F, c, P, XX, ok, ⟨ho, hf⟩, kq, kx⟩ => ?_
  obtain ⟨a, ws, kvs, _, e0, g1, _⟩ := ok.mineD ho
  refine ⟨_, g1, am, F, c, _, XX, ok, hf, fun r c1 F1 v1 H1 p1 l1 o1 s1 => ?_, kx⟩
  obtain ⟨k, rfl, p1⟩ := asI_of p1
  have w1 := s1.1
  cases w1
  obtain ⟨a', us, kvs', q, e1, k1, k2, k3, k4, k5⟩ := o1.mineD p1
  rw [g1] at k1
  cases k1
  obtain ⟨y, hy, hp⟩ := q
  obtain ⟨v, hv, rv⟩ := k5.look.1 y hy
  refine ⟨a, v, rfl, ?_, kq (.d y) c1 F1 v H1 hp l1 o1 (.of rv)⟩
  have g := DGet.k (k := (.inl k : Key)) k2
  rw [hv] at g
  exact g
/-- k in d, k not in d -/
def eDIn (neg : Bool) (i : Nat) (fb : WE) : WE := fun c P X => isDic c i ∧ fb c (fun r c1 => asI r fun k => dicD c1 i fun kvs => P (.d (.bool (if neg then !(lookD kvs k).isSome else (lookD kvs k).isSome))) c1) X
theorem din_some {am : Addr} {F : Hp} {kvs : List (Int × Px)} {ws : List (Key × V)} {k : Int} (r : RpK F ws kvs) : (valV ws (.inl k : Key)).isSome = (lookD kvs k).isSome := by
  cases h : lookD kvs k with
  | none =>
    rw [r.look.2 h]
    rfl
  | some y =>
    obtain ⟨v, hv, _⟩ := r.look.1 y h
    rw [hv]
    rfl
section
variable (i : Nat) (hu : X.A.units + 64 < cLine) (hb : PE X b (tE Δ fb)) (hN : X.N[i]? = some x)
    (hv : Vis X.env.scope x) (hd : (x == ("__debug__" : Str)) = false)
    (hcd : (x == ("__classdict__" : Str)) = false)
include hu hb hN hv hd hcd
theorem dn_in : PC X .NotIn b (.Name x p) (fun σ H Q => tE Δ (eDIn true i fb) σ H Q) := by
  refine ⟨fun pins s σ H Q I h => (pc_dnotin (by omega) hb (pv i hN hv hd hcd)).run pins s σ H Q I ?_⟩
  obtain ⟨am, F, c, P, XX, ok, ⟨ho, hf⟩, kq, kx⟩ := h
  refine ⟨am, F, c, _, XX, ok, hf, fun r c1 F1 v1 H1 p1 l1 o1 s1 => ?_, kx⟩
  obtain ⟨k, rfl, p1⟩ := asI_of p1
  have w1 := s1.1
  cases w1
  obtain ⟨a', us, kvs', q, e1, k1, k2, k3, k4, k5⟩ := o1.mineD p1
  refine ⟨_, k1, a', valV us (.inl k : Key), rfl, DGet.k (k := (.inl k : Key)) k2, ?_⟩
  rw [din_some (am := am) k5]
  exact kq _ c1 F1 _ H1 q l1 o1 (.of (.bl _))
end
theorem dt_dnin (i : Nat) (hu : X.A.units + 64 < cLine) (hb : PE X b (tE Δ fb)) (hN : X.N[i]? = some x := by rfl)
    (hv : Vis X.env.scope x := by first | exact Or.inl rfl | exact Or.inr (Or.inl rfl) | exact Or.inr (Or.inr rfl)) (hd : (x == ("__debug__" : Str)) = false := by decide)
    (hcd : (x == ("__classdict__" : Str)) = false := by decide) (hm : behindInMarks .NotIn (.Name x p) = false := by first | exact nobehind _ (by decide) (by decide) | rfl) : PT X (.Compare b [.NotIn] [.Name x p] pos) (tT Δ (wB (eDIn true i fb))) :=
  (pt_cmp (dn_in i hu hb hN hv hd hcd) hm).imp fun σ H Q h => tB_of _ _ (fun _ _ _ h => h) σ H Q h
/-- d[k] = v, a name's dict -/
def sDctP (i : Nat) (fv fk : WE) : WS := fun c P X => fv c (fun r c1 => asD r fun y => isDic c1 i ∧ fk c1 (fun r2 c2 => asI r2 fun k => dicD c2 i fun kvs => kvs.length < 1000000 ∧ P (.nx (putE c2 i (.dic (.k (putD kvs k y)))))) X) X
theorem ds_dput (i : Nat) {q2 : Pos} (hu : X.A.units + 64 < cLine) (hv' : PE X a (tE Δ fa)) (hb : PE X b (tE Δ fb)) (hN : X.N[i]? = some x := by rfl)
    (hv : Vis X.env.scope x := by first | exact Or.inl rfl | exact Or.inr (Or.inl rfl) | exact Or.inr (Or.inr rfl)) (hd : (x == ("__debug__" : Str)) = false := by decide)
    (hcd : (x == ("__classdict__" : Str)) = false := by decide) (hs : swapsWith a (some (.Subscript (.Name x p) b q2)) pos.line X.env = pure false := by rfl) : PS X (.Assign [.Subscript (.Name x p) b q2] a pos) (tS Δ (sDctP i fa fb)) := by
  refine (ps_dput (by omega) (pv i hN hv hd hcd) hb hv' hs).imp fun D σ H ⟨am, F, c, P, XX, ok, hf, kf, kx⟩ => ?_
  refine ⟨am, F, c, _, XX, ok, hf, fun r c1 F1 v1 H1 p1 l1 o1 s1 => ?_, kx am⟩
  obtain ⟨y, F2, ⟨ho, hy⟩, l2, o2, ry⟩ := s1.data o1 p1
  obtain ⟨a0, ws, kvs, _, e0, g1, _⟩ := o2.mineD ho
  refine ⟨_, g1, am, F2, c1, _, XX, o2, hy, fun r2 c2 F3 v2 H3 p3 l3 o3 s3 => ?_, (kx am).le (l1.trans l2)⟩
  obtain ⟨k, rfl, p3⟩ := asI_of p3
  have w1 := s3.1
  cases w1
  obtain ⟨a', us, kvs', q, e1, k1, k2, k3, k4, k5⟩ := o3.mineD p3
  rw [g1] at k1
  cases k1
  exact ⟨a0, _, rfl, DPut.k (k := (.inl k : Key)) k2 (Nat.lt_of_lt_of_le (show us.length < 1000000 by rw [k5.length]; exact q.1) (line_of (Nat.le_refl _))), kf.1 _ am F3 σ _ q.2 ((l1.trans l2).trans l3) (o3.mutateD e1 g1 k2 k3 k4 k5 (k5.put (ry.mono l3)))⟩
/-- return d, a name's dict -/
def sRetD (i : Nat) : WS := fun c P _ => dicD c i fun kvs => P (.rt (.dic (.k kvs)) c.g)
theorem ds_retD (i : Nat) (hN : X.N[i]? = some x := by rfl)
    (hv : Vis X.env.scope x := by first | exact Or.inl rfl | exact Or.inr (Or.inl rfl) | exact Or.inr (Or.inr rfl)) (hd : (x == ("__debug__" : Str)) = false := by decide)
    (hcd : (x == ("__classdict__" : Str)) = false := by decide) : PS X (.Return (some (.Name x p)) pos) (tS Δ (sRetD i)) := by
  refine (ps_ret (pv i hN hv hd hcd)).imp fun D σ H ⟨am, F, c, P, XX, ok, hf, kf, kx⟩ => ?_
  obtain ⟨a, ws, kvs, q, e0, g1, g2, g3, g4, g5⟩ := ok.mineD hf
  exact ⟨_, g1, kf.2.2.2 _ _ am F H _ q (Le.refl F) ok.fin ⟨a, _, rfl, g2, g3, g4, ws, rfl, g5⟩⟩
/-- f(..)[k], a def that returns a dict -/
def eDIxC (fa fb : WE) : WE := fun c P X => fa c (fun r c1 => dicR r fun kvs => fb c1 (fun r2 c2 => asI r2 fun k => ∃ y, lookD kvs k = some y ∧ P (.d y) c2) X) X
/-- xs.pop(0), a name's own list -/
def ePop0 (i : Nat) : WE := fun c P _ => ownD c i fun xs => hdX xs fun y ys => P (.d y) (putE c i (.own ys))
theorem eDIn_t {i : Nat} {fb : WE} {c : Cf} {P : Rv → Cf → Prop} {XX : XP} : eDIn true i fb c P XX = (isDic c i ∧ fb c (fun r c1 => asI r fun k => dicD c1 i fun kvs => P (.d (.bool (!(lookD kvs k).isSome))) c1) XX) := rfl
theorem eDIn_f {i : Nat} {fb : WE} {c : Cf} {P : Rv → Cf → Prop} {XX : XP} : eDIn false i fb c P XX = (isDic c i ∧ fb c (fun r c1 => asI r fun k => dicD c1 i fun kvs => P (.d (.bool (lookD kvs k).isSome)) c1) XX) := rfl
theorem de_pop0 (i : Nat) {k0 : Nat} {p0 : Pos} (hN : X.N[i]? = some x := by rfl)
    (hv : Vis X.env.scope x := by first | exact Or.inl rfl | exact Or.inr (Or.inl rfl) | exact Or.inr (Or.inr rfl)) (hd : (x == ("__debug__" : Str)) = false := by decide)
    (hcd : (x == ("__classdict__" : Str)) = false := by decide) (hst : starEach (Expr.Constant (.int 0) k0 p0 :: []) X.env = (false, eval (.Constant (.int 0) k0 p0) X.env) :: starEach [] X.env := by rfl) (hln : (p2.endLine == pos.line) = true := by rfl)
    (hfw : ((backTo pos (starEach [Expr.Constant (.int 0) k0 p0] X.env)).all (fun x => !x.1) && (backToKw pos (keywordEach [] X.env)).all (fun x => x.1.isSome) && decide ([Expr.Constant (.int 0) k0 p0].length + ([] : List Keyword).length + (if ([] : List Keyword).isEmpty then 0 else 1) < 30)) = true := by rfl) : PE X (.Call (.Attribute (.Name x p) "pop" p2) [.Constant (.int 0) k0 p0] [] pos) (tE Δ (ePop0 i)) := by
  refine (pe_bm PySem.F.plainAttrs_list PySem.F.slot_list_pop PySem.F.type_list_pop mt_popAt (pv i hN hv hd hcd) (pa_cons (pe_int (i := 0)) pa_nil hst) rfl hfw hln hst).imp fun σ H Q ⟨am, F, c, P, XX, ok, hf, kq, kx⟩ => ?_
  obtain ⟨a, vs, xs, q, e0, h1, h2, h3, h4, h5⟩ := ok.mine hf
  cases h5 with
  | nil => exact q.elim
  | @cons v vs y ys rv r2 =>
    refine ⟨_, h1, Or.inl ⟨rfl, _, SqL.of h2⟩, ?_⟩
    refine ⟨a, v :: vs, 0, 0, v, rfl, rfl, h2, by decide, by decide, ?_, rfl, kq (.d y) _ F v _ q (Le.refl F) (ok.mutate e0 h1 h2 h3 h4 r2) (.of rv)⟩
    simp [seqIndex?]
end
end Dl
set_option Elab.async false
set_option maxRecDepth 100000
set_option linter.all false
set_option autoImplicit false
namespace Dl
open PySem L2
variable [TabF]
/-! ### comprehensions whose elements are drawn -/
inductive All2 {α β : Type} (G : α → β → Prop) : List α → List β → Prop
  | nil : All2 G [] []
  | cons {a : α} {b : β} {l : List α} {m : List β} : G a b → All2 G l m → All2 G (a :: l) (b :: m)
theorem All2.length {α β : Type} {G : α → β → Prop} : ∀ {l : List α} {m : List β}, All2 G l m → l.length = m.length
  | _, _, .nil => rfl
  | _, _, .cons _ b => congrArg (· + 1) b.length
theorem All2.snd {α β : Type} {G : α → β → Prop} {H : β → Prop} (h : ∀ a b, G a b → H b) : ∀ {l : List α} {m : List β}, All2 G l m → ∀ b ∈ m, H b
  | _, _, .nil => fun b hb => (nomatch hb)
  | _, _, .cons x y => fun b hb => by
    rcases List.mem_cons.mp hb with rfl | hb
    · exact h _ _ x
    · exact y.snd h b hb
theorem All2.map {α β γ : Type} {G : α → β → Prop} {f : α → γ} {k : β → γ} (h : ∀ a b, G a b → f a = k b) : ∀ {l : List α} {m : List β}, All2 G l m → l.map f = m.map k
  | _, _, .nil => rfl
  | _, _, .cons x y => by rw [List.map_cons, List.map_cons, h _ _ x, y.map h]
/-! ### [..] * k -/
end Dl
set_option Elab.async false
set_option linter.all false
set_option autoImplicit false
set_option maxRecDepth 100000
set_option maxHeartbeats 4000000
/-! zip of three lists of one length. New objects stand at n (three iterators), n + 3 (their tuple), n + 4 (the tuple kept), n + 5 (zip). -/
namespace Z3
open PySem PySem.F PyProof.Rows
open PySem.Sem (wp)
abbrev Tri (h : Heap) (T : Addr) (a b c : Value) : Prop := h.get? T = some { cls := .type "tuple", data := .seq #[a, b, c] }
section
variable {prog : Program} {w : World} {A : Around} {E : Value → Shared → Prop} {s : Shared}
/-- how the heap stands at turn k -/
structure St (h : Heap) (n l1 l2 l3 k : Nat) (f0 : Value) : Prop where
  z : IsZip h (n + 5) (n + 3) (n + 4) f0
  ti : Tri h (n + 3) (.ref n) (.ref (n + 1)) (.ref (n + 2))
  to : ∃ a b c, Tri h (n + 4) a b c
  h1 : h.IsListIter n l1 k
  h2 : h.IsListIter (n + 1) l2 k
  h3 : h.IsListIter (n + 2) l3 k
end
end Z3
namespace L2
open PySem PySem.Spec PyProof.Rows
end L2
namespace Dl
open PySem L2
variable [TabF]
def zip3X : List Px → List Px → List Px → List Px
  | x :: xs, y :: ys, z :: zs => .tuple [x, y, z] :: zip3X xs ys zs
  | _, _, _ => []
/-- zip of three lists of one length -/
def iZp3 (f : WA) : WI := fun c P X => f c (fun rs c1 => match rs with
  | [.d (.list xs), .d (.list ys), .d (.list zs)] => ys.length = xs.length ∧ zs.length = xs.length ∧ P (zip3X xs ys zs) c1
  | _ => False) X
end Dl
set_option Elab.async false
set_option maxRecDepth 100000
set_option linter.all false
set_option autoImplicit false
namespace Dl
open PySem L2
variable [TabF]
/-! ### try: NAME = f(..) if c else g(..), and clauses `except C as e: NAME = ('word', e.field)` -/
/-- a part of the tuple that a clause gives -/
inductive Part
  | st (s : Str)
  | fl (f : Str)
def partsV (x : Xn) : List Part → Option (List Px)
  | [] => some []
  | .st s :: r => (partsV x r).map (.str s :: ·)
  | .fl f :: r => match x.fields.lookup f, partsV x r with
    | some p, some l => some (p :: l)
    | _, _ => none
end Dl
set_option Elab.async false
set_option maxRecDepth 100000
set_option linter.all false
set_option autoImplicit false
namespace Dl
open PySem L2
variable [TabF]
/-! ### repr of lists -/
theorem ok_list {ts : List Str} (h : ∀ t ∈ ts, PyData.strOk t = true) : PyData.strOk (listText ts) = true := by
  rw [listText_eq_join, ok_app, ok_app, ok_join h]
  have h1 : PyData.strOk (("[" : String) : Str) = true := strOk_of "["
  have h2 : PyData.strOk (("]" : String) : Str) = true := strOk_of "]"
  rw [h1, h2]
  rfl
theorem Sho.lst {e b n : Nat} {xs : List Px} (h : ∀ x ∈ xs, Sho e b x) (hl : xs.length ≤ n) : Sho (e + 1) (n * b + 2 * n + 3) (.list xs) := by
  obtain ⟨h1, h2, h3, h4, h5, h6⟩ := sho_all h
  refine ⟨by simpa [PyData.showable] using h1, by simpa [PyData.hasDict] using h2, ?_, ?_, by simp only [PyData.shown]; exact ok_list h6⟩
  · simp only [PyData.depth]
    omega
  · have t := listText_len_le (PyData.shownAll xs)
    have m : xs.length * b ≤ n * b := Nat.mul_le_mul_right b hl
    simp only [PyData.shown]
    omega
section
variable {X : Cx} {Δ : Dx}
theorem cr_repr_lst (hg : X.A.guards = some []) (hu : X.A.units + 64 < cLine) : CallR X (.builtin "repr") (fun vs H Q => ∃ v xs, vs = [v] ∧ Dp X.K H v (.list xs) ∧ Sho 40 1000000 (.list xs) ∧ Q (.str (PyData.shown (.list xs))) H) := by
  intro pins s σ H vs us Q I r h
  obtain ⟨v, xs, rfl, hd, hs, q⟩ := h
  cases r with
  | cons r rr =>
    cases rr
    obtain ⟨as, rd⟩ := Dp.reads I _ _ _ hd r
    have hd' := hd
    cases hd' with
    | lst e1 e2 =>
      cases r
      refine repr_of_reads' rd hs.sh (fun z => by rw [hs.nd] at z; cases z) hg (by have := hs.dp; omega) (fun _ _ e => e) (fun h' u tk k => ?_) (Nat.le_trans hs.ln (by rw [sizeLine_eq]; decide))
      exact ⟨.str _, H, I.kept (t' := tk) k, ⟨_, rfl⟩, q⟩
def reprM : CD := fun rs P => match rs with
  | [.d .none] => P (.d (.str "None"))
  | [.d (.bool b)] => P (.d (.str (rb b)))
  | [.d (.int i)] => i.natAbs.log2 < 1920 ∧ P (.d (.str (ri i)))
  | [.d (.tuple xs)] => Sho 40 1000000 (.tuple xs) ∧ P (.d (.str (PyData.shown (.tuple xs))))
  | [.d (.list xs)] => Sho 40 1000000 (.list xs) ∧ P (.d (.str (PyData.shown (.list xs))))
  | _ => False
theorem cl_reprM {k : Nat} (hr : RoomG k X.A) (hK : Δ.K = X.K) (hk : X.K = TabF.K := by first | rfl | assumption) : ClD X Δ (.builtin "repr") reprM :=
  ⟨_, CallR.or (CallR.or (CallR.or (CallR.or cr_repr_bool SkE.call_repr_int) (cr_repr_tup hr.gd hr.units)) cr_repr_non) (cr_repr_lst hr.gd hr.units), fun am F σ H c vs rs P Q ok rx ho k => by
    unfold reprM at ho
    split at ho
    · cases rx with
      | d r1 r2 =>
        cases r1
        cases r2
        exact .inl (.inr ⟨rfl, k _ F _ H ho (Le.refl F) ok (.of (.str _))⟩)
    · cases rx with
      | d r1 r2 =>
        cases r1
        cases r2
        exact .inl (.inl (.inl (.inl ⟨_, rfl, k _ F _ H ho (Le.refl F) ok (.of (.str _))⟩)))
    · cases rx with
      | d r1 r2 =>
        cases r1
        cases r2
        exact .inl (.inl (.inl (.inr ⟨_, rfl, ho.1, k _ F _ H ho.2 (Le.refl F) ok (.of (.str _))⟩)))
    · cases rx with
      | d r1 r2 =>
        cases r2
        exact .inl (.inl (.inr ⟨_, _, rfl, r1.dp hk ok.fh ho.1.nd, ho.1, k _ F _ H ho.2 (Le.refl F) ok (.of (.str _))⟩))
    · cases rx with
      | d r1 r2 =>
        cases r2
        exact .inr ⟨_, _, rfl, r1.dp hk ok.fh ho.1.nd, ho.1, k _ F _ H ho.2 (Le.refl F) ok (.of (.str _))⟩
    · exact ho.elim⟩
end
theorem reprM_n {P : Rv → Prop} : reprM [.d .none] P = P (.d (.str "None")) := rfl
theorem reprM_b {b : Bool} {P : Rv → Prop} : reprM [.d (.bool b)] P = P (.d (.str (rb b))) := rfl
theorem reprM_i {i : Int} {P : Rv → Prop} : reprM [.d (.int i)] P = (i.natAbs.log2 < 1920 ∧ P (.d (.str (ri i)))) := rfl
theorem reprM_t {xs : List Px} {P : Rv → Prop} : reprM [.d (.tuple xs)] P = (Sho 40 1000000 (.tuple xs) ∧ P (.d (.str (PyData.shown (.tuple xs))))) := rfl
theorem reprM_l {xs : List Px} {P : Rv → Prop} : reprM [.d (.list xs)] P = (Sho 40 1000000 (.list xs) ∧ P (.d (.str (PyData.shown (.list xs))))) := rfl
end Dl
set_option Elab.async false
set_option maxRecDepth 100000
set_option linter.all false
set_option autoImplicit false
set_option maxHeartbeats 1000000
namespace Dl
open PySem PySem.Spec PyProof.Rows L2 LamX
/-! ### a lambda without parameters, handed to a def that calls it where no repr is under way -/
end Dl
set_option Elab.async false
set_option maxRecDepth 100000
set_option linter.all false
set_option autoImplicit false
set_option maxHeartbeats 1000000
namespace Dl
open PySem PySem.Spec PyProof.Rows L2 LamX
variable [TabF]
/-! ### a def that tells what the lambda gives, or how it is refused -/
/-- what a clause tells: a tuple of words and fields, or one field -/
inductive Out
  | tup (ps : List Part)
  | fld (f : Str)
  | non
structure HndO where
  cls : Str
  ie : Nat
  out : Out
def Out.val (x : Xn) : Out → Option Px
  | .tup ps => (partsV x ps).map .tuple
  | .fld f => x.fields.lookup f
  | .non => some .none
def heardX : List HndO → Xn → (Px → Prop) → Prop
  | [], _, _ => False
  | h :: r, x, k => if x.cls = h.cls then (∃ d, h.out.val x = some d ∧ k d) else heardX r x k
/-- what a lambda sees: what may change is not seen -/
def dropO : Option Rv → Option Rv
  | some (.own _) => none
  | some (.dic _) => none
  | o => o
def Cf.lam (c : Cf) : Cf := ⟨c.env.map dropO, none⟩
def wrapR : Bool → Px → Rv
  | true, d => .d (.tuple [.str "told", d])
  | false, d => .own [d]
/-- x(lambda: body) -/
def eHeard (wrap : Bool) (fb : WE) (ns : List Str) (hs : List HndO) : WE := fun c P _ => fb c.lam (fun r _ => asD r fun d => P (wrapR wrap d) c) fun x _ => x.cls ∈ ns ∧ heardX hs x fun d => P (.d d) c
/-! #### of the heap -/
def vOut (fs : List (Str × V)) : List Part → Option (List V)
  | [] => some []
  | .st s :: r => (vOut fs r).map (.str s :: ·)
  | .fl f :: r => match fs.lookup f, vOut fs r with
    | some v, some l => some (v :: l)
    | _, _ => none
def outQ (fs : List (Str × V)) (H : Hp) (Q : VK) : Out → Prop
  | .tup ps => ∃ vs, vOut fs ps = some vs ∧ vs.length ≤ 1000 ∧ ∀ p, H p = none → Q (.ref p) (upd H p (.tup vs))
  | .fld f => ∃ v, fs.lookup f = some v ∧ Q v H
  | .non => Q .non H
def hQ (K : PySem.W.Frag) : List (Addr × HndO) → Value → Option Addr → Hp → VK → Prop
  | [], _, _, _, _ => False
  | h :: r, cls, d, H, Q => ∃ hit, PySem.W.exmOne K cls (.ref h.1) = some hit ∧ (hit = true → cls = .ref h.1 ∧ ∃ dd fs, d = some dd ∧ H dd = some (.xd fs) ∧ outQ fs H Q h.2.out) ∧ (hit = false → hQ K r cls d H Q)
section
variable {X : Cx} {Δ : Dx} {am : Addr} {F : Hp} {σ : L2.St} {H H1 : Hp} {c : Cf}
/-- what the lambda's body is run over -/
def dxL (K : PySem.W.Frag) (mg : Str → Option Value) (am : Addr) (F H : Hp) (E : XK) : Dx := { dx0 K am none F H with XE := fun y _ _ F' H' => ∀ cls d, XR mg F' H' y cls d → E cls d H' }
theorem lam_get {o : Option Rv} {r : Rv} (h : dropO o = some r) : o = some r ∧ ¬ r.mu := by
  unfold dropO at h
  split at h
  · cases h
  · cases h
  · rename_i n1 n2
    subst h
    refine ⟨rfl, fun z => ?_⟩
    cases r with
    | own xs => exact n1 xs rfl
    | dic D => exact n2 D rfl
    | d x => exact z
    | gen => exact z
    | scr ns => exact z
theorem Ok.lam (k : Ok Δ am F σ H c) (mg : Str → Option Value) (E : XK) : Ok (dxL Δ.K mg am F H E) am F σ H c.lam where
  fh := k.fh
  f0 := Le.refl F
  fr := fun a h => .inl h
  tb := ⟨k.tb.1, k.tb.2.1, unT_not H⟩
  pr := fun a o h _ => unT_of h
  al := fun a h => nomatch h
  gn := fun n h => nomatch h
  len := by
    show σ.length = (c.env.map dropO).length
    rw [List.length_map]
    exact k.len
  sv := fun i r h => by
    have h : (c.env.map dropO)[i]? = some (some r) := h
    rw [List.getElem?_map] at h
    cases q : c.env[i]? with
    | none => rw [q] at h; cases h
    | some o =>
      rw [q] at h
      obtain ⟨rfl, nm⟩ := lam_get (Option.some.inj h)
      obtain ⟨v, h1, h2⟩ := k.sv i r q
      refine ⟨v, h1, ?_⟩
      cases r with
      | d x => exact h2
      | gen => exact h2
      | scr ns => exact h2
      | own xs => exact absurd True.intro nm
      | dic D => exact absurd True.intro nm
  di := fun i j r r' n e1 e2 m1 m2 => by
    have e1 : (c.env.map dropO)[i]? = some (some r) := e1
    rw [List.getElem?_map] at e1
    cases q : c.env[i]? with
    | none => rw [q] at e1; cases e1
    | some o =>
      rw [q] at e1
      exact absurd m1 (lam_get (Option.some.inj e1)).2
end
end Dl
set_option Elab.async false
set_option maxRecDepth 100000
set_option linter.all false
set_option autoImplicit false
set_option maxHeartbeats 1000000
namespace Dl
open PySem PySem.Spec PyProof.Rows L2 LamX
/-! ### the end of a law whose defs hand lambdas on -/
end Dl
set_option Elab.async false
set_option maxRecDepth 100000
set_option linter.all false
set_option autoImplicit false
set_option maxHeartbeats 1000000
namespace Dl
open PySem PySem.Spec PyProof.Rows L2 LamX
/-! ### defs whose code object is known: they make lambdas -/
end Dl
set_option Elab.async false
set_option maxRecDepth 100000
set_option linter.all false
set_option autoImplicit false
set_option maxHeartbeats 1000000
namespace Dl
open PySem L2
variable [TabF]
/-! ### exceptions with two fields -/
def rz2 (rs : List Rv) (k : Px → Px → Prop) : Prop := match rs with
  | [.d p, .d q] => k p q
  | _ => False
theorem rz2_d {p q : Px} {k : Px → Px → Prop} : rz2 [.d p, .d q] k = k p q := rfl
def sRaise2 (x f1 f2 : Str) (fr : WA) : WS := fun c _ X => fr c (fun rs c1 => rz2 rs fun p q => X ⟨x, [(f1, p), (f2, q)]⟩ c1.g) X
/-! ### of runs -/
theorem lam_eq {l : List (Option Rv)} {g : Option Nat} : Cf.lam ⟨l, g⟩ = ⟨l.map dropO, none⟩ := rfl
theorem lamM_n : ([] : List (Option Rv)).map dropO = [] := rfl
theorem lamM_c {o : Option Rv} {l : List (Option Rv)} : (o :: l).map dropO = dropO o :: l.map dropO := rfl
theorem dropO_d {x : Px} : dropO (some (.d x)) = some (.d x) := rfl
theorem dropO_g : dropO (some .gen) = some .gen := rfl
theorem dropO_s {ns : List Int} : dropO (some (.scr ns)) = some (.scr ns) := rfl
theorem dropO_n : dropO none = none := rfl
theorem dropO_o {xs : List Px} : dropO (some (.own xs)) = none := rfl
theorem dropO_k {D : Dic} : dropO (some (.dic D)) = none := rfl
theorem wrapR_t {d : Px} : wrapR true d = .d (.tuple [.str "told", d]) := rfl
theorem wrapR_f {d : Px} : wrapR false d = .own [d] := rfl
end Dl
set_option Elab.async false
set_option maxRecDepth 100000
set_option linter.all false
set_option autoImplicit false
namespace Dl
open PySem L2
variable [TabF]
/-- the law's promise at its entry -/
theorem sp_law {K : PySem.W.Frag} {Pr : Cn} {H : Hp} {a : Addr} {ns : List Int} {E : XK} (tabs : ∀ p ∈ TabF.T K, H p.1 = some (.tbl #[])) (hS : SqL K H a (ns.map V.int)) (hP : Pr [.scr ns] none fun r _ => r = .d (.bool true)) : spD K Pr [.ref a] H (fun v _ => v = .bl true) E := by
  let F : Hp := fun b => if b = a then unT H a else none
  have e : F a = unT H a := if_pos rfl
  have sq : SqL K F a (ns.map V.int) := by
    rcases hS with (h | ⟨o, h⟩) | h
    · exact .inl (.inl (e.trans (unT_to h fun ps z => nomatch z)))
    · exact .inl (.inr ⟨o, e.trans (unT_to h fun ps z => nomatch z)⟩)
    · exact .inr h
  refine ⟨a, F, [.scr ns], none, fun r _ => r = .d (.bool true), fun b o h => ?_, ⟨fun p hp => .nil (tabs p hp), fun b ps h => ?_⟩, fun n z => (nomatch z), .scr sq .nil, hP, fun r g' am' F' v H' er l fn s => ?_⟩
  · by_cases hb : b = a
    · subst hb
      rw [e] at h
      exact unT_of h
    · have : F b = none := if_neg hb
      rw [this] at h
      cases h
  · by_cases hb : b = a
    · subst hb
      rw [e] at h
      exact unT_not H _ _ h
    · have : F b = none := if_neg hb
      rw [this] at h
      cases h
  · subst er
    cases s
    rfl
end Dl
set_option Elab.async false
set_option maxRecDepth 100000
set_option linter.all false
set_option autoImplicit false
set_option maxHeartbeats 1000000
namespace Dl
open PySem L2
/-! ### a def that may raise, called where it does not -/
end Dl
set_option Elab.async false
set_option maxRecDepth 100000
set_option linter.all false
set_option autoImplicit false
set_option maxHeartbeats 1000000
/-! two names set at once where one of them is a cell: the pair is made and taken apart -/
namespace Dl
open PySem L2
variable [TabF]
theorem Sl.up {Δ : Dx} {am : Addr} {F H H' : Hp} {r : Rv} {v : V} (s : Sl Δ am F H r v) (l : Le H H') : Sl Δ am F H' r v := by
  cases r with
  | d x => exact s
  | gen => exact s
  | scr ns => exact s
  | own xs =>
    obtain ⟨a, vs, e1, e2, e3⟩ := s
    exact ⟨a, vs, e1, l _ _ e2, e3⟩
  | dic D =>
    obtain ⟨a, vs, e1, e2, e3⟩ := s
    exact ⟨a, vs, e1, l _ _ e2, e3⟩
end Dl
set_option Elab.async false
set_option maxRecDepth 100000
set_option linter.all false
set_option autoImplicit false
set_option maxHeartbeats 1000000
/-! tuples of ints that the module itself holds -/
namespace Dl
open PySem L2
end Dl
set_option Elab.async false
set_option maxRecDepth 100000
set_option linter.all false
set_option autoImplicit false
set_option maxHeartbeats 1000000
namespace Dl
open PySem PySem.Spec PyProof.Rows L2 LamX
/-! ### a def that returns what the lambda gives, or how it is refused, out of the try itself -/
end Dl
set_option Elab.async false
set_option maxRecDepth 100000
set_option linter.all false
set_option autoImplicit false
set_option maxHeartbeats 1000000
namespace Dl
open PySem L2 PyProof.Rows
/-! list(range(n)) -/
end Dl
set_option Elab.async false
set_option maxRecDepth 100000
set_option linter.all false
set_option autoImplicit false
set_option maxHeartbeats 4000000
/-! sorted of a tuple of ints -/
namespace L2
open PySem PySem.Spec PyProof.Rows
end L2
namespace Dl
open PySem L2
end Dl
set_option Elab.async false
set_option maxRecDepth 100000
set_option linter.all false
set_option autoImplicit false
set_option maxHeartbeats 1000000
namespace Dl
open PySem PySem.Spec PyProof.Rows L2 LamX
end Dl
set_option Elab.async false
set_option maxRecDepth 100000
set_option linter.all false
set_option autoImplicit false
namespace Dl
open PySem L2
/-! ### two names set at once where no exception leaves and the second one is a raising call -/
end Dl
set_option Elab.async false
set_option maxRecDepth 100000
set_option linter.all false
set_option autoImplicit false
set_option maxHeartbeats 1000000
namespace Dl
open PySem PySem.Spec PyProof.Rows L2 LamX
variable [TabF]
/-! ### max(xs, key=lambda a: ..) -/
theorem RoomG.in1 {k : Nat} {A : Around} (r : RoomG (k + 1) A) : RoomG k A.in1 := ⟨r.toRoom.in1, r.gd⟩
def lenAt : Px → Nat
  | .tuple [_, .tuple ws] => ws.length
  | _ => 0
def maxLL (k : Px → Prop) (ys : List Px) : Prop := ys ≠ [] ∧ (∀ y ∈ ys, ∃ x ws, y = PyData.tuple [x, .tuple ws]) ∧ ∀ (i : Nat) (y : Px), ys[i]? = some y → (∀ (j : Nat) (z : Px), ys[j]? = some z → lenAt z ≤ lenAt y ∧ (j < i → lenAt z < lenAt y)) → k y
/-- max(xs, key=lambda a: len(a[1])) -/
def eMaxL (fx : WE) : WE := fun c P X => fx c (fun r c1 => asL r (maxLL fun d => P (.d d) c1)) X
end Dl
set_option Elab.async false
set_option maxRecDepth 100000
set_option linter.all false
set_option autoImplicit false
namespace Dl
open PySem L2
variable [TabF]
/-! ### in, over any data -/
def rInDD (K : PySem.W.Frag) (neg : Bool) : R2 := fun x y H Q => ∃ d ys, Dp K H x d ∧ (Dp K H y (.list ys) ∨ Dp K H y (.tuple ys)) ∧ d.canLay0 = true ∧ d.depth ≤ 60 ∧ PyData.canLayAll0 ys = true ∧ Q (.bl (if neg then !ys.any fun z => PyData.eqv z d else ys.any fun z => PyData.eqv z d)) H
section
variable {X : Cx}
theorem op_inDD (hu : X.A.units + 64 < cLine) : OpR X (compareOp .In) (rInDD X.K false) := by
  intro pins s σ H x y v u Q I rx ry h
  obtain ⟨d, ys, hd, he, sd, dd, se, q⟩ := h
  obtain ⟨as, r1⟩ := Dp.reads I d x v hd rx
  have hm : X.A.units + 1 + min (PyData.depthAll ys) d.depth < cLine := by omega
  rcases he with he | he
  · obtain ⟨bs, r2⟩ := Dp.reads I (.list ys) y u he ry
    exact SeqAt.in_list_reads r2 r1 se sd hm ⟨.bl _, H, I, rfl, q⟩
  · obtain ⟨bs, r2⟩ := Dp.reads I (.tuple ys) y u he ry
    exact SeqAt.in_tuple_reads r2 r1 se sd hm ⟨.bl _, H, I, rfl, q⟩
def inDD (neg : Bool) : OD := fun x y P => match y with
  | .list ys => x.canLay0 = true ∧ x.depth ≤ 60 ∧ PyData.canLayAll0 ys = true ∧ P (.d (.bool (if neg then !ys.any fun z => PyData.eqv z x else ys.any fun z => PyData.eqv z x)))
  | .tuple ys => x.canLay0 = true ∧ x.depth ≤ 60 ∧ PyData.canLayAll0 ys = true ∧ P (.d (.bool (if neg then !ys.any fun z => PyData.eqv z x else ys.any fun z => PyData.eqv z x)))
  | _ => False
theorem sc_inDG {f : Value → Value → Sem Value} {neg : Bool} (h : OpR X f (rInDD X.K neg)) (hk : X.K = TabF.K) : ScD X f (inDD neg) :=
  ⟨_, h, fun G H vx vy x y P Q l rx ry ho k => by
    unfold inDD at ho
    split at ho
    · exact ⟨x, _, rx.dp hk l (lay_nd ho.1), .inl (ry.dp hk l (by simpa [PyData.hasDict] using layAll_nd ho.2.2.1)), ho.1, ho.2.1, ho.2.2.1, k _ _ ho.2.2.2 fun F => .bl _⟩
    · exact ⟨x, _, rx.dp hk l (lay_nd ho.1), .inr (ry.dp hk l (by simpa [PyData.hasDict] using layAll_nd ho.2.2.1)), ho.1, ho.2.1, ho.2.2.1, k _ _ ho.2.2.2 fun F => .bl _⟩
    · exact ho.elim⟩
theorem sc_inDD (hu : X.A.units + 64 < cLine) (hk : X.K = TabF.K := by first | rfl | assumption) : ScD X (compareOp .In) (inDD false) := sc_inDG (op_inDD hu) hk
end
theorem inDD_l {neg : Bool} {x : Px} {ys : List Px} {P : Rv → Prop} : inDD neg x (.list ys) P = (x.canLay0 = true ∧ x.depth ≤ 60 ∧ PyData.canLayAll0 ys = true ∧ P (.d (.bool (if neg then !ys.any fun z => PyData.eqv z x else ys.any fun z => PyData.eqv z x)))) := rfl
end Dl
set_option Elab.async false
set_option maxRecDepth 100000
set_option linter.all false
set_option autoImplicit false
set_option maxHeartbeats 1000000
namespace Dl
open PySem PySem.Spec PyProof.Rows L2
variable [TabF]
/-! ### str of an int -/
def strC : CD := fun rs P => match rs with
  | [.d (.int i)] => i.natAbs.log2 < 1920 ∧ P (.d (.str (toString i)))
  | _ => False
theorem strC_i {i : Int} {P : Rv → Prop} : strC [.d (.int i)] P = (i.natAbs.log2 < 1920 ∧ P (.d (.str (toString i)))) := rfl
end Dl
set_option Elab.async false
set_option maxRecDepth 100000
set_option linter.all false
set_option autoImplicit false
set_option maxHeartbeats 1000000
namespace Dl
open PySem PySem.Spec PyProof.Rows L2
variable [TabF]
/-! ### f(g(..)) where g makes the drawing state: the old one is seen no more -/
def dropG : Option Rv → Option Rv
  | some .gen => none
  | o => o
def Cf.nog (c : Cf) : Cf := ⟨c.env.map dropG, none⟩
theorem dropG_some {o : Option Rv} {r : Rv} (h : dropG o = some r) : o = some r ∧ r ≠ .gen := by
  cases o with
  | none => cases h
  | some x => cases x <;> first | (cases h; exact ⟨rfl, fun z => nomatch z⟩) | cases h
theorem Ok.nog {Δ : Dx} {am : Addr} {F H : Hp} {σ : L2.St} {c : Cf} (k : Ok Δ am F σ H c) : Ok Δ am F σ H c.nog where
  fh := k.fh
  f0 := k.f0
  fr := k.fr
  tb := k.tb
  pr := k.pr
  al := k.al
  gn := fun n e => nomatch e
  len := by rw [k.len]; simp [Cf.nog]
  sv := fun i r e => by
    have e : (c.env.map dropG)[i]? = some (some r) := e
    rw [List.getElem?_map] at e
    cases h : c.env[i]? with
    | none => rw [h] at e; cases e
    | some o =>
      rw [h] at e
      obtain ⟨e1, _⟩ := dropG_some (Option.some.inj e)
      rw [e1] at h
      exact k.sv i r h
  di := fun i j r r' ne e1 e2 m1 m2 => by
    have g : ∀ {i : Nat} {r : Rv}, (c.env.map dropG)[i]? = some (some r) → c.env[i]? = some (some r) := fun {i r} e => by
      rw [List.getElem?_map] at e
      cases h : c.env[i]? with
      | none => rw [h] at e; cases e
      | some o =>
        rw [h] at e
        obtain ⟨e1, _⟩ := dropG_some (Option.some.inj e)
        rw [e1]
    exact k.di i j r r' ne (g e1) (g e2) m1 m2
/-- where no drawing state is seen, it does not matter where it stands -/
theorem Ok.am {Δ : Dx} {am am' : Addr} {F H : Hp} {σ : L2.St} {c : Cf} (k : Ok Δ am F σ H c) (hno : ∀ j : Nat, c.env[j]? ≠ some (some .gen)) : Ok Δ am' F σ H { c with g := none } where
  fh := k.fh
  f0 := k.f0
  fr := k.fr
  tb := k.tb
  pr := k.pr
  al := k.al
  gn := fun n e => nomatch e
  len := k.len
  sv := fun i r e => by
    obtain ⟨v, h1, h2⟩ := k.sv i r e
    refine ⟨v, h1, ?_⟩
    cases r with
    | gen => exact absurd e (hno i)
    | d x => exact h2
    | scr ns => exact h2
    | own xs => exact h2
    | dic D => exact h2
  di := k.di
theorem Rs.am {Δ : Dx} {am am' : Addr} {F H : Hp} {σ : L2.St} {c : Cf} {r : Rv} {v : V} {g : Option Nat} (k : Rs Δ am F σ H c r v) (ng : r ≠ .gen) : Rs Δ am' F σ H { c with g := g } r v := by
  refine ⟨?_, k.2⟩
  have h2 := k.1
  cases r with
  | gen => exact absurd rfl ng
  | d x => exact h2
  | scr ns => exact h2
  | own xs => exact h2
  | dic D => exact h2
section
variable {X : Cx} {Δ : Dx} {e : Expr} {es : List Expr} {p p2 p3 pos : Pos} {fr : WA}
def eCallB (Pf Pg : Cn) (fr : WA) : WE := fun c P X => fr c.nog (fun rs c1 => Rv.gen ∉ rs ∧ (∀ j : Nat, c1.env[j]? ≠ some (some .gen)) ∧ Pg rs none fun r g' => r = .gen ∧ ∃ n, g' = some n ∧ Pf [.gen] (some n) fun r2 g2 => r2 ≠ .gen ∧ P r2 { c1 with g := none }) X
end
theorem nog_eq {env : List (Option Rv)} {g : Option Nat} : Cf.nog ⟨env, g⟩ = ⟨env.map dropG, none⟩ := rfl
theorem dropG_n : dropG none = none := rfl
theorem dropG_g : dropG (some .gen) = none := rfl
theorem dropG_d {x : Px} : dropG (some (.d x)) = some (.d x) := rfl
theorem dropG_o {xs : List Px} : dropG (some (.own xs)) = some (.own xs) := rfl
theorem dropG_s {ns : List Int} : dropG (some (.scr ns)) = some (.scr ns) := rfl
theorem dropG_k {D : Dic} : dropG (some (.dic D)) = some (.dic D) := rfl
end Dl
set_option Elab.async false
set_option maxRecDepth 100000
set_option linter.all false
set_option autoImplicit false
set_option maxHeartbeats 1000000
namespace Dl
open PySem PySem.Spec PyProof.Rows L2
variable [TabF]
/-! ### defs as values -/
def lookN (l : List (Str × Addr)) (x : Str) : Option Addr := l.lookup x
end Dl
set_option Elab.async false
set_option maxRecDepth 100000
set_option linter.all false
set_option autoImplicit false
set_option maxHeartbeats 1000000
namespace Dl
open PySem PySem.Spec PyProof.Rows L2
variable [TabF]
/-! ### xs.remove(k): a name's own list of whole numbers -/
theorem RpA.ints_of {F : Hp} : ∀ {us : List V} {ns : List Int}, RpA F us (ns.map .int) → us = ns.map V.int
  | [], [], _ => rfl
  | u :: us, n :: ns, h => by
    cases h with
    | cons r h =>
      cases r
      rw [RpA.ints_of h]
      rfl
  | [], _ :: _, h => by cases h
  | _ :: _, [], h => by cases h
theorem erase_at {ns : List Int} {k : Int} (h : k ∈ ns) : ∃ j : Nat, ns[j]? = some k ∧ (∀ m : Nat, m < j → ns[m]? ≠ some k) ∧ ns.erase k = ns.eraseIdx j := by
  induction ns with
  | nil => cases h
  | cons n ns ih =>
    by_cases e : n = k
    · subst e
      exact ⟨0, rfl, fun m hm => absurd hm (Nat.not_lt_zero _), by simp⟩
    · obtain ⟨j, h1, h2, h3⟩ := ih (by
        rcases List.mem_cons.mp h with h | h
        · exact absurd h.symm e
        · exact h)
      refine ⟨j + 1, by simpa using h1, fun m hm => ?_, ?_⟩
      · cases m with
        | zero => simpa using e
        | succ m => simpa using h2 m (by omega)
      · rw [List.erase_cons_tail (by simpa using e), h3]
        rfl
def eRem (i : Nat) (fb : WE) : WE := fun c P X => isOwn c i ∧ fb c (fun r c1 => asI r fun k => ownD c1 i fun xs => ∃ ns : List Int, xs = ns.map .int ∧ k ∈ ns ∧ P (.d .none) (putE c1 i (.own ((ns.erase k).map .int)))) X
section
variable {X : Cx} {Δ : Dx} {b : Expr} {fb : WE} {pos : Pos} {x : Str} {p p2 : Pos}
theorem de_rem (i : Nat) (hb : PE X b (tE Δ fb)) (hN : X.N[i]? = some x := by rfl)
    (hv : Vis X.env.scope x := by first | exact Or.inl rfl | exact Or.inr (Or.inl rfl) | exact Or.inr (Or.inr rfl)) (hd : (x == ("__debug__" : Str)) = false := by decide)
    (hcd : (x == ("__classdict__" : Str)) = false := by decide) (hst : starEach (b :: []) X.env = (false, eval b X.env) :: starEach [] X.env := by rfl) (hln : (p2.endLine == pos.line) = true := by rfl)
    (hfw : ((backTo pos (starEach [b] X.env)).all (fun x => !x.1) && (backToKw pos (keywordEach [] X.env)).all (fun x => x.1.isSome) && decide ([b].length + ([] : List Keyword).length + (if ([] : List Keyword).isEmpty then 0 else 1) < 30)) = true := by rfl) : PE X (.Call (.Attribute (.Name x p) "remove" p2) [b] [] pos) (tE Δ (eRem i fb)) := by
  refine (pe_bm PySem.F.plainAttrs_list PySem.F.slot_list_remove PySem.F.type_list_remove mt_remove (pv i hN hv hd hcd) (pa_cons hb pa_nil hst) rfl hfw hln hst).imp fun σ H Q ⟨am, F, c, P, XX, ok, ⟨ho, hf⟩, kq, kx⟩ => ?_
  obtain ⟨a, vs, xs, _, e0, h1, h2, h3, h4, h5⟩ := ok.mine ho
  refine ⟨_, h1, Or.inl ⟨rfl, _, SqL.of h2⟩, am, F, c, _, XX, ok, hf, fun r c1 F1 v1 H1 p1 l1 o1 s1 => ?_, kx⟩
  obtain ⟨k, rfl, p1⟩ := asI_of p1
  have w1 := s1.1
  cases w1
  obtain ⟨a', us, ys, ⟨ns, rfl, hk, q⟩, e1, g1, g2, g3, g4, g5⟩ := o1.mine p1
  rw [h1] at g1
  cases g1
  have eu := RpA.ints_of g5
  subst eu
  obtain ⟨j, j1, j2, j3⟩ := erase_at hk
  refine ⟨a, ns, k, j, rfl, rfl, g2, j1, j2, ?_⟩
  rw [← j3]
  exact kq _ _ F1 _ _ q l1 (o1.mutate e1 h1 g2 g3 g4 (RpA.of_ints _)) (.of .non)
end
end Dl
set_option Elab.async false
set_option maxRecDepth 100000
set_option linter.all false
set_option autoImplicit false
set_option maxHeartbeats 1000000
namespace Dl
open PySem PySem.Spec PyProof.Rows L2
variable [TabF]
section
variable {X : Cx} {Δ : Dx} {pos : Pos}
/-- {} -/
def eDisp0 : WE := fun c P _ => P (.dic (.k [])) c
theorem de_disp0 : PE X (.Dict [] [] pos) (tE Δ eDisp0) := by
  refine pe_dnewK.imp fun σ H Q ⟨am, F, c, P, XX, ok, hf, kq, kx⟩ => ?_
  intro d hd
  have h0 : Δ.H0 d = none := ok.new hd
  have fd : F d = none := ok.fh.nn hd
  have f00 : Δ.F0 d = none := ok.f0.nn fd
  have na : Δ.a0 ≠ some d := fun z => (ok.al d z).2 h0
  have no : ∀ (i : Nat) (r : Rv), c.env[i]? = some (some r) → r.mu → σ[i]? ≠ some (some (.ref d)) := fun i xs e mu z => by
    obtain ⟨v, w1, s1⟩ := ok.sv i _ e
    obtain ⟨a, vs, w2, w3, _⟩ := s1.at mu
    subst w2
    rw [z] at w1
    cases w1
    rw [hd] at w3; cases w3
  have oh := (ok.alloc hd (.dK [])).holdO (p := d) (o := .dK []) upd_same dK_ok.1 (fun n e => (ok.ngen e hd).symm) fd h0 no
  obtain ⟨o5, hd5, fd5, no5⟩ := oh.unhold h0 f00 na
  exact kq (.dic (.k [])) c F (.ref d) _ hf (Le.refl F) o5 ⟨⟨d, _, rfl, hd5, fd5, h0, _, rfl, .nil⟩, fun _ j r' e mu => no5 j r' e mu⟩
end
end Dl
set_option Elab.async false
set_option maxRecDepth 100000
set_option linter.all false
set_option autoImplicit false
set_option maxHeartbeats 1000000
namespace Dl
open PySem PySem.Spec PyProof.Rows L2
end Dl
set_option Elab.async false
set_option maxRecDepth 100000
set_option linter.all false
set_option autoImplicit false
set_option maxHeartbeats 1000000
namespace Dl
open PySem PySem.Spec PyProof.Rows L2
variable [TabF]
/-! ### dicts of words that nothing changes, as data -/
def lookW : List (Px × Px) → Str → Option Px
  | [], _ => none
  | (.str j, d) :: r, k => if j = k then some d else lookW r k
  | _ :: _, _ => none
theorem RpW.at {F : Hp} {k : Str} {y : Px} : ∀ {ws : List (Key × V)} {kvs : List (Px × Px)}, RpW F ws kvs → lookW kvs k = some y → ∃ v, valV ws (.inr k : Key) = some v ∧ Rp F v y
  | _, _, .nil, h => by cases h
  | _, _, .cons (k := j) (v := v) (d := d) (ws := ws) (kvs := kvs) a b, h => by
    unfold lookW at h
    by_cases e : j = k
    · rw [if_pos e] at h
      cases h
      exact ⟨v, valV_pos (by rw [e]), a⟩
    · rw [if_neg e] at h
      obtain ⟨v', h1, h2⟩ := RpW.at b h
      refine ⟨v', ?_, h2⟩
      rw [valV_neg (by intro z; cases z; exact e rfl)]
      exact h1
def wPairs : List Str → List Px → List (Px × Px)
  | k :: ks, x :: xs => (.str k, x) :: wPairs ks xs
  | _, _ => []
def kPairs : List Str → List V → List (Key × V)
  | k :: ks, v :: vs => ((.inr k : Key), v) :: kPairs ks vs
  | _, _ => []
theorem RpW.of {F : Hp} : ∀ {ks : List Str} {vs : List V} {xs : List Px}, RpA F vs xs → RpW F (kPairs ks vs) (wPairs ks xs)
  | [], _, _, _ => .nil
  | _ :: _, [], [], .nil => .nil
  | _ :: _, _ :: _, _ :: _, .cons a b => .cons a (RpW.of b)
section
variable {X : Cx} {Δ : Dx} {pos : Pos}
/-- an own thing, named no more, becomes data -/
theorem Ok.frzO {am : Addr} {F : Hp} {σ : L2.St} {H : Hp} {c : Cf} (k : Ok Δ am F σ H c) {a : Addr} {o : HO} (h : H a = some o) (nt : ∀ ps, o ≠ .tbl ps) (hg : ∀ n, c.g = some n → am ≠ a) (h0 : Δ.H0 a = none) (hf : F a = none) (no : ∀ (i : Nat) (r : Rv), c.env[i]? = some (some r) → r.mu → σ[i]? ≠ some (some (.ref a))) :
    Ok Δ am (upd F a o) σ H c ∧ Le F (upd F a o) := by
  refine ⟨k.stay (k.tb.2.1.upd nt) (Le.up hf) ?_ ?_ ?_ ?_, Le.up hf⟩
  · intro b o e
    by_cases q : b = a
    · subst q; rw [upd_same] at e; rw [h]; exact e
    · rw [upd_ne q] at e; exact k.fh b o e
  · intro b e
    by_cases q : b = a
    · subst q; exact .inr h0
    · rw [upd_ne q] at e; exact .inl e
  · intro n e
    rw [upd_ne (hg n e)]
    exact (k.gn n e).2.1
  · intro i r b e1 mu e2
    have ne : b ≠ a := by
      rintro rfl
      exact no i r e1 mu e2
    rw [upd_ne ne]
    obtain ⟨v, e3, e4⟩ := k.sv i _ e1
    rw [e2] at e3
    cases e3
    cases r with
    | own xs =>
      obtain ⟨a', vs', e5, e6, e7, _⟩ := e4
      cases e5
      exact e7
    | dic D =>
      obtain ⟨a', vs', e5, e6, e7, _⟩ := e4
      cases e5
      exact e7
    | d x => exact mu.elim
    | gen => exact mu.elim
    | scr ns => exact mu.elim
/-- {'a': x, 'b': y, ..} -/
def eDispW (ks : List Str) (fr : WA) : WE := fun c P X => fr c (fun rs c1 => asDs rs fun xs => P (.d (.dict (wPairs ks xs))) c1) X
/-- d['a'], a name's -/
def ixW (x : Px) (k : Str) (q : Px → Prop) : Prop := match x with
  | .dict (p1 :: p2 :: r) => ∃ y, lookW (p1 :: p2 :: r) k = some y ∧ q y
  | _ => False
theorem ixW_d {p1 p2 : Px × Px} {r : List (Px × Px)} {k : Str} {q : Px → Prop} : ixW (.dict (p1 :: p2 :: r)) k q = ∃ y, lookW (p1 :: p2 :: r) k = some y ∧ q y := rfl
def eIxW (i : Nat) (k : Str) : WE := fun c P _ => slotD c i fun x => ixW x k fun y => P (.d y) c
end
end Dl
set_option Elab.async false
set_option maxRecDepth 100000
set_option linter.all false
set_option autoImplicit false
namespace Dl
open PySem L2
/-! ### two names set at once where no exception leaves and the second one is a raising call -/
end Dl
set_option Elab.async false
set_option maxRecDepth 100000
set_option linter.all false
set_option autoImplicit false
namespace Dl
open PySem L2
variable [TabF]
/-! ### sum of a list or a tuple of whole numbers -/
section
variable {X : Cx} {Δ : Dx}
def ifdivD : OD := iD (fun i j => .int (i.fdiv j)) fun i j => 0 < j ∧ CDiv2 i j
theorem ifdiv_i {i j : Int} {P : Rv → Prop} : ifdivD (.int i) (.int j) P = ((0 < j ∧ CDiv2 i j) ∧ P (.d (.int (i.fdiv j)))) := rfl
def sumC : CD := fun rs P => match rs with
  | [.d (.list xs)] => ∃ ns : List Int, xs = ns.map .int ∧ P (.d (.int ns.sum))
  | [.d (.tuple xs)] => ∃ ns : List Int, xs = ns.map .int ∧ P (.d (.int ns.sum))
  | _ => False
theorem sumC_l {xs : List Px} {P : Rv → Prop} : sumC [.d (.list xs)] P = ∃ ns : List Int, xs = ns.map .int ∧ P (.d (.int ns.sum)) := rfl
theorem sumC_t {xs : List Px} {P : Rv → Prop} : sumC [.d (.tuple xs)] P = ∃ ns : List Int, xs = ns.map .int ∧ P (.d (.int ns.sum)) := rfl
end
end Dl
set_option Elab.async false
set_option maxRecDepth 100000
set_option linter.all false
set_option autoImplicit false
namespace Dl
/-! ### x < y over data: whole numbers, and tuples whose places are such -/
end Dl
namespace Dl
open PySem PySem.Spec PySem.SeqAt PyProof.Rows
end Dl
namespace Dl
open PySem L2
end Dl
set_option Elab.async false
set_option maxRecDepth 100000
set_option linter.all false
set_option autoImplicit false
namespace Dl
open PySem L2
variable [TabF]
/-! ### list(f(..)), a def that returns a dict: its keys -/
section
variable {X : Cx} {Δ : Dx} {fb : WE} {e : Expr} {x : Str} {p pos : Pos}
def eLstK (fb : WE) : WE := fun c P X => fb c (fun r c1 => dicR r fun kvs => P (.own (kvs.map fun kv => .int kv.1)) c1) X
theorem RpK.keysA {F : Hp} {ws : List (Key × V)} {kvs : List (Int × Px)} (r : RpK F ws kvs) : RpA F (ws.map fun kv => (L2.kV kv.1 : V)) (kvs.map fun kv => .int kv.1) := by
  induction r with
  | nil => exact .nil
  | cons a b ih => exact .cons (.int _) ih
theorem de_lstK (hc : X.calm = true) (hg : Gl X x) (hm : X.mg x = none) (hv : bootBuiltins x = some (.type "list")) (ha : PE X e (tE Δ fb)) (hn : x ≠ "__name__" := by decide) (hdb : (x == ("__debug__" : Str)) = false := by decide)
    (he : starEach (e :: []) X.env = (false, eval e X.env) :: starEach [] X.env := by rfl) (hpl : (backTo pos (starEach [] X.env)).any (·.1) = false := by rfl) : PE X (.Call (.Name x p) [e] [] pos) (tE Δ (eLstK fb)) := by
  refine (pe_callTy (call_list_dK hc) hg hm hv (pa_cons ha pa_nil he) hn hdb he hpl).imp fun σ H Q ⟨am, F, c, P, XX, ok, hf, kq, kx⟩ => ?_
  refine ⟨am, F, c, _, XX, ok, hf, fun r1 c1 F1 v1 H1 p1 l1 o1 s1 => ?_, kx⟩
  dsimp only at p1
  unfold dicR at p1
  split at p1
  · obtain ⟨ad, o, q1, q2, q3, q4, ws, q5, q6⟩ := s1.1
    subst q1
    subst q5
    refine ⟨ad, ws, rfl, q2, fun q hq => ?_⟩
    obtain ⟨o', rs⟩ := Rs.fresh o1 hq q6.keysA
    exact kq _ c1 F1 _ _ p1 l1 o' rs
  · exact p1.elim
end
end Dl
set_option Elab.async false
set_option maxRecDepth 100000
set_option linter.all false
set_option autoImplicit false
namespace Dl
open PySem L2
/-! ### comprehensions whose body calls what may raise, in a def where it does not -/
end Dl
set_option Elab.async false
set_option maxRecDepth 100000
set_option linter.all false
set_option autoImplicit false
namespace Dl
open PySem PySem.Spec PyProof.Rows L2
variable [TabF]
/-! ### a name's dict with int keys, given away as data -/
def encK (kvs : List (Int × Px)) : List (Px × Px) := kvs.map fun p => (PyData.int p.1, p.2)
def eDc (kvs : List (Int × Px)) : Px := .dict ((.none, .none) :: encK kvs)
theorem encK_inj : ∀ {k l : List (Int × Px)}, encK k = encK l → k = l
  | [], [], _ => rfl
  | [], _ :: _, h => by simp [encK] at h
  | _ :: _, [], h => by simp [encK] at h
  | (a, x) :: k, (b, y) :: l, h => by
    simp only [encK, List.map_cons, List.cons.injEq, Prod.mk.injEq, PyData.int.injEq] at h
    obtain ⟨⟨rfl, rfl⟩, h⟩ := h
    rw [encK_inj h]
theorem eDc_inj {k l : List (Int × Px)} (h : eDc k = eDc l) : k = l := by
  unfold eDc at h
  simp only [PyData.dict.injEq, List.cons.injEq, true_and] at h
  exact encK_inj h
theorem RpI.of {F : Hp} : ∀ {ws : List (Key × V)} {kvs : List (Int × Px)}, RpK F ws kvs → RpI F ws (encK kvs)
  | _, _, .nil => .nil
  | _, _, .cons a b => .cons a (RpI.of b)
theorem RpI.to {F : Hp} : ∀ {ws : List (Key × V)} {kvs : List (Int × Px)}, RpI F ws (encK kvs) → RpK F ws kvs
  | ws, [], h => by
    have h : RpI F ws [] := h
    cases h
    exact .nil
  | ws, (k, d) :: kvs, h => by
    have h : RpI F ws ((.int k, d) :: encK kvs) := h
    cases h with
    | cons a b => exact .cons a (RpI.to b)
theorem rp_dc {F : Hp} {v : V} {kvs : List (Int × Px)} (h : Rp F v (eDc kvs)) : ∃ a ws, v = .ref a ∧ F a = some (.dK ws) ∧ RpK F ws kvs := by
  unfold eDc at h
  cases hk : encK kvs with
  | nil =>
    rw [hk] at h
    cases h with
    | dci e r => exact ⟨_, _, rfl, e, RpI.to (by rw [hk]; exact r)⟩
  | cons p r0 =>
    rw [hk] at h
    cases h with
    | dct e r => cases r
    | dci e r => exact ⟨_, _, rfl, e, RpI.to (by rw [hk]; exact r)⟩
section
variable {X : Cx} {Δ : Dx} {a b e e1 e2 : Expr} {fa fb f1 f2 : WE} {pos : Pos} {x : Str} {p p2 : Pos}
theorem Ok.giveD {am : Addr} {F : Hp} {σ : L2.St} {H : Hp} {c : Cf} (k : Ok Δ am F σ H c) {i : Nat} {kvs : List (Int × Px)} (h : c.env[i]? = some (some (.dic (.k kvs)))) :
    ∃ v F', σ[i]? = some (some v) ∧ Le F F' ∧ Ok Δ am F' σ H { c with env := c.env.set i (some (.d (eDc kvs))) } ∧ Rp F' v (eDc kvs) := by
  obtain ⟨v, h1, a, o, e1, e2, e3, e4, ws, e5, e6⟩ := k.sv i _ h
  subst e1
  subst e5
  have hi : i < c.env.length := (List.getElem?_eq_some_iff.mp h).1
  have k1 : Ok Δ am F σ H { c with env := c.env.set i none } := ⟨k.fh, k.f0, k.fr, k.tb, k.pr, k.al, k.gn, by simpa using k.len, fun j r e => by
      rw [env_get] at e
      split at e
      · cases e
      · exact k.sv j r e, fun j l ys zs n p q => by
      rw [env_get] at p q
      split at p
      · cases p
      · split at q
        · cases q
        · exact k.di j l ys zs n p q⟩
  obtain ⟨k2, l⟩ := k1.frzO e2 dK_ok.1 (fun n e => k.ngD (D := .k kvs) e2 ⟨ws, rfl, e6⟩ n e) e4 e3 fun j ys e mu => by
    rw [env_get] at e
    split at e
    · cases e
    · rename_i n
      intro z
      exact k.di j i ys _ (fun q => n ⟨q, hi⟩) e h mu True.intro (z.trans h1.symm)
  have rp : Rp (upd F a (.dK ws)) (.ref a) (eDc kvs) := .dci upd_same (RpI.of (e6.mono l))
  refine ⟨_, _, h1, l, ?_, rp⟩
  refine ⟨k2.fh, k2.f0, k2.fr, k2.tb, k2.pr, k2.al, k2.gn, by simpa using k.len, fun j r e => ?_, fun j l ys zs n p q => ?_⟩
  · rw [env_get] at e
    split at e
    · rename_i z
      cases e
      rw [z.1]
      exact ⟨_, h1, rp⟩
    · exact k2.sv j r (by rw [env_get, if_neg (by assumption)]; exact e)
  · rw [env_get] at p q
    split at p
    · cases p
      exact fun z => z.elim
    · split at q
      · cases q
        exact fun _ z => z.elim
      · exact k.di j l ys zs n p q
def eFrz (i : Nat) : WE := fun c P _ => dicD c i fun kvs => P (.d (eDc kvs)) { c with env := c.env.set i (some (.d (eDc kvs))) }
theorem de_frz (i : Nat) {x : Str} (hN : X.N[i]? = some x := by rfl) (hv : Vis X.env.scope x := by first | exact Or.inl rfl | exact Or.inr (Or.inl rfl) | exact Or.inr (Or.inr rfl)) (hd : (x == ("__debug__" : Str)) = false := by decide)
    (hcd : (x == ("__classdict__" : Str)) = false := by decide) : PE X (.Name x pos) (tE Δ (eFrz i)) := by
  refine (pv i hN hv hd hcd).imp fun σ H Q ⟨am, F, c, P, XX, ok, hf, kq, kx⟩ => ?_
  obtain ⟨a, ws, kvs, q, e0, _⟩ := ok.mineD (show dicD c i _ from hf)
  obtain ⟨v, F', h1, l, k, r⟩ := ok.giveD e0
  exact ⟨v, h1, kq _ _ F' v H q l k ⟨r, fun z => z.elim⟩⟩
/-! ### dicts that are data -/
def slotFd (o : Option (Option Rv)) (k : List (Int × Px) → Prop) : Prop := ∃ kvs, o = some (some (.d (eDc kvs))) ∧ k kvs
theorem slotFd_k {kvs : List (Int × Px)} {k : List (Int × Px) → Prop} : slotFd (some (some (.d (eDc kvs)))) k = k kvs := by
  apply propext
  constructor
  · rintro ⟨l, h, q⟩
    have : kvs = l := eDc_inj (by
      have h := Option.some.inj (Option.some.inj h)
      injection h)
    exact this ▸ q
  · exact fun q => ⟨kvs, rfl, q⟩
def fdD (c : Cf) (i : Nat) (k : List (Int × Px) → Prop) : Prop := slotFd c.env[i]? k
theorem fdD_eq {c : Cf} {i : Nat} {k : List (Int × Px) → Prop} : fdD c i k = slotFd c.env[i]? k := rfl
def isFd (c : Cf) (i : Nat) : Prop := fdD c i fun _ => True
theorem Ok.seenD {am : Addr} {F : Hp} {σ : L2.St} {H : Hp} {c : Cf} (k : Ok Δ am F σ H c) {i : Nat} {q : List (Int × Px) → Prop} (h : fdD c i q) :
    ∃ a ws kvs, q kvs ∧ c.env[i]? = some (some (.d (eDc kvs))) ∧ σ[i]? = some (some (.ref a)) ∧ H a = some (.dK ws) ∧ RpK F ws kvs := by
  obtain ⟨kvs, e, q⟩ := h
  obtain ⟨v, h1, h2⟩ := k.sv i _ e
  obtain ⟨a, ws, rfl, h3, h4⟩ := rp_dc h2
  exact ⟨a, ws, kvs, q, e, h1, k.fh _ _ h3, h4⟩
/-- d[k], a name's dict that is data -/
def eDIxF (i : Nat) (fb : WE) : WE := fun c P X => isFd c i ∧ fb c (fun r c1 => asI r fun k => fdD c1 i fun kvs => ∃ y, lookD kvs k = some y ∧ P (.d y) c1) X
theorem de_dixF (i : Nat) (hu : X.A.units + 64 < cLine) (hb : PE X b (tE Δ fb)) (hs : NoSl b := by intros; rfl) (hN : X.N[i]? = some x := by rfl)
    (hv : Vis X.env.scope x := by first | exact Or.inl rfl | exact Or.inr (Or.inl rfl) | exact Or.inr (Or.inr rfl)) (hd : (x == ("__debug__" : Str)) = false := by decide)
    (hcd : (x == ("__classdict__" : Str)) = false := by decide) : PE X (.Subscript (.Name x p) b pos) (tE Δ (eDIxF i fb)) := by
  refine (pe_dget (by omega) (pv i hN hv hd hcd) hb hs).imp fun σ H Q ⟨am, F, c, P, XX, ok, ⟨ho, hf⟩, kq, kx⟩ => ?_
  obtain ⟨a, ws, kvs, _, e0, g1, _⟩ := ok.seenD ho
  refine ⟨_, g1, am, F, c, _, XX, ok, hf, fun r c1 F1 v1 H1 p1 l1 o1 s1 => ?_, kx⟩
  obtain ⟨k, rfl, p1⟩ := asI_of p1
  have w1 := s1.1
  cases w1
  obtain ⟨a', us, kvs', q, e1, k1, k2, k5⟩ := o1.seenD p1
  rw [g1] at k1
  cases k1
  obtain ⟨y, hy, hp⟩ := q
  obtain ⟨v, hv, rv⟩ := k5.look.1 y hy
  refine ⟨a, v, rfl, ?_, kq (.d y) c1 F1 v H1 hp l1 o1 (.of rv)⟩
  have g := DGet.k (k := (.inl k : Key)) k2
  rw [hv] at g
  exact g
/-- k in d, k not in d -/
def eDInF (neg : Bool) (i : Nat) (fb : WE) : WE := fun c P X => isFd c i ∧ fb c (fun r c1 => asI r fun k => fdD c1 i fun kvs => P (.d (.bool (if neg then !(lookD kvs k).isSome else (lookD kvs k).isSome))) c1) X
theorem eDInF_t {i : Nat} {fb : WE} {c : Cf} {P : Rv → Cf → Prop} {XX : XP} : eDInF true i fb c P XX = (isFd c i ∧ fb c (fun r c1 => asI r fun k => fdD c1 i fun kvs => P (.d (.bool (!(lookD kvs k).isSome))) c1) XX) := rfl
theorem eDInF_f {i : Nat} {fb : WE} {c : Cf} {P : Rv → Cf → Prop} {XX : XP} : eDInF false i fb c P XX = (isFd c i ∧ fb c (fun r c1 => asI r fun k => fdD c1 i fun kvs => P (.d (.bool (lookD kvs k).isSome)) c1) XX) := rfl
theorem inDD_t {neg : Bool} {x : Px} {ys : List Px} {P : Rv → Prop} : inDD neg x (.tuple ys) P = (x.canLay0 = true ∧ x.depth ≤ 60 ∧ PyData.canLayAll0 ys = true ∧ P (.d (.bool (if neg then !ys.any fun z => PyData.eqv z x else ys.any fun z => PyData.eqv z x)))) := rfl
section
variable (i : Nat) (hu : X.A.units + 64 < cLine) (hb : PE X b (tE Δ fb)) (hN : X.N[i]? = some x)
    (hv : Vis X.env.scope x) (hd : (x == ("__debug__" : Str)) = false)
    (hcd : (x == ("__classdict__" : Str)) = false)
include hu hb hN hv hd hcd
theorem d_inF : PC X .In b (.Name x p) (fun σ H Q => tE Δ (eDInF false i fb) σ H Q) := by
  refine ⟨fun pins s σ H Q I h => (pc_din (by omega) hb (pv i hN hv hd hcd)).run pins s σ H Q I ?_⟩
  obtain ⟨am, F, c, P, XX, ok, ⟨ho, hf⟩, kq, kx⟩ := h
  refine ⟨am, F, c, _, XX, ok, hf, fun r c1 F1 v1 H1 p1 l1 o1 s1 => ?_, kx⟩
  obtain ⟨k, rfl, p1⟩ := asI_of p1
  have w1 := s1.1
  cases w1
  obtain ⟨a', us, kvs', q, e1, k1, k2, k5⟩ := o1.seenD p1
  refine ⟨_, k1, a', valV us (.inl k : Key), rfl, DGet.k (k := (.inl k : Key)) k2, ?_⟩
  rw [din_some (am := am) k5]
  exact kq _ c1 F1 _ H1 q l1 o1 (.of (.bl _))
end
theorem dt_dinF (i : Nat) (hu : X.A.units + 64 < cLine) (hb : PE X b (tE Δ fb)) (hN : X.N[i]? = some x := by rfl)
    (hv : Vis X.env.scope x := by first | exact Or.inl rfl | exact Or.inr (Or.inl rfl) | exact Or.inr (Or.inr rfl)) (hd : (x == ("__debug__" : Str)) = false := by decide)
    (hcd : (x == ("__classdict__" : Str)) = false := by decide) (hm : behindInMarks .In (.Name x p) = false := by first | exact nobehind _ (by decide) (by decide) | rfl) : PT X (.Compare b [.In] [.Name x p] pos) (tT Δ (wB (eDInF false i fb))) :=
  (pt_cmp (d_inF i hu hb hN hv hd hcd) hm).imp fun σ H Q h => tB_of _ _ (fun _ _ _ h => h) σ H Q h
end
end Dl
set_option Elab.async false
set_option maxRecDepth 100000
set_option linter.all false
set_option autoImplicit false
namespace Dl
open PySem PySem.Spec PyProof.Rows L2
variable [TabF]
/-! ### own lists lent to a call and taken back -/
mutual
def noL : Px → Bool
  | .none => true
  | .bool _ => true
  | .int _ => true
  | .str _ => true
  | .tuple xs => noLA xs
  | .list _ => false
  | .dict _ => false
def noLA : List Px → Bool
  | [] => true
  | x :: xs => noL x && noLA xs
end
theorem noLA_ints (l : List Int) : noLA (l.map PyData.int) = true := by
  induction l with
  | nil => rfl
  | cons a l ih => simp [noLA, noL, ih]
def cutH (F : Hp) (a : Addr) : Hp := fun b => if b = a then none else F b
theorem cutH_self {F : Hp} {a : Addr} : cutH F a a = none := by simp [cutH]
theorem cutH_ne {F : Hp} {a b : Addr} (h : b ≠ a) : cutH F a b = F b := by simp [cutH, h]
theorem cutH_of {F : Hp} {a b : Addr} {o : HO} (h : cutH F a b = some o) : F b = some o ∧ b ≠ a := by
  unfold cutH at h
  split at h
  · cases h
  · rename_i n
    exact ⟨h, n⟩
theorem cutH_le {F : Hp} {a : Addr} : Le (cutH F a) F := fun b o h => (cutH_of h).1
theorem le_cutH {F G : Hp} {a : Addr} (l : Le F G) (h : F a = none) : Le F (cutH G a) := fun b o e => by
  have n : b ≠ a := fun z => by rw [z, h] at e; cases e
  rw [cutH_ne n]
  exact l b o e
mutual
theorem Rp.cutL {F : Hp} {a : Addr} {vs0 : List V} (ha : F a = some (.lst vs0)) : ∀ {v : V} {d : Px}, Rp F v d → noL d = true → Rp (cutH F a) v d
  | _, _, .non, _ => .non
  | _, _, .bl b, _ => .bl b
  | _, _, .int i, _ => .int i
  | _, _, .str x, _ => .str x
  | _, _, .lst e r, n => by simp [noL] at n
  | _, _, .tup e r, n => .tup (e.imp (fun e => by rw [cutH_ne (fun z => by rw [z, ha] at e; cases e)]; exact e) id) (RpA.cutL ha r (by simpa [noL] using n))
  | _, _, .fn _, n => by simp [noL] at n
  | _, _, .dct _ _, n => by simp [noL] at n
  | _, _, .dci _ _, n => by simp [noL] at n
theorem RpA.cutL {F : Hp} {a : Addr} {vs0 : List V} (ha : F a = some (.lst vs0)) : ∀ {vs : List V} {ds : List Px}, RpA F vs ds → noLA ds = true → RpA (cutH F a) vs ds
  | _, _, .nil, _ => .nil
  | _, _, .cons x y, n => by
    simp only [noLA, Bool.and_eq_true] at n
    exact .cons (Rp.cutL ha x n.1) (RpA.cutL ha y n.2)
end
def noLK (kvs : List (Int × Px)) : Bool := kvs.all fun p => noL p.2
theorem RpK.cutL {F : Hp} {a : Addr} {vs0 : List V} (ha : F a = some (.lst vs0)) : ∀ {ws : List (Key × V)} {kvs : List (Int × Px)}, RpK F ws kvs → noLK kvs = true → RpK (cutH F a) ws kvs
  | _, _, .nil, _ => .nil
  | _, _, .cons x y, n => by
    simp only [noLK, List.all_cons, Bool.and_eq_true] at n
    exact .cons (Rp.cutL ha x n.1) (RpK.cutL ha y n.2)
/-- nothing in it can be the list that was lent -/
def noLR : Rv → Prop
  | .d x => noL x = true
  | .own xs => noLA xs = true
  | .dic (.k kvs) => noLK kvs = true
  | _ => False
/-- a slot ahead of the call, and behind it -/
def borS (r r1 : Option Rv) : Prop := (r1 = r ∧ ∀ x, r = some x → x.mu → noLR x) ∨ ∃ ys ys', r = some (.own ys) ∧ r1 = some (.d (.list ys')) ∧ noLA ys' = true
inductive BorE : List (Option Rv) → List (Option Rv) → Prop
  | nil : BorE [] []
  | cons {r r1 : Option Rv} {l l1 : List (Option Rv)} : borS r r1 → BorE l l1 → BorE (r :: l) (r1 :: l1)
theorem BorE.at : ∀ {l l1 : List (Option Rv)} (i : Nat) (r1 : Option Rv), BorE l l1 → l1[i]? = some r1 → ∃ r, l[i]? = some r ∧ borS r r1
  | _, _, i, r1, .nil, h => by simp at h
  | _, _, 0, r1, .cons a b, h => by
    simp at h
    subst h
    exact ⟨_, by simp, a⟩
  | _, _, i + 1, r1, .cons a b, h => by
    obtain ⟨r, e, q⟩ := BorE.at i r1 b (by simpa using h)
    exact ⟨r, by simpa using e, q⟩
theorem bs_n : borS none none := .inl ⟨rfl, fun x z => by cases z⟩
theorem bs_d {x : Px} : borS (some (.d x)) (some (.d x)) := .inl ⟨rfl, fun y z m => by cases z; exact m.elim⟩
theorem bs_m {x : Option Px} : borS (x.map .d) (x.map .d) := by
  cases x with
  | none => exact bs_n
  | some x => exact bs_d
theorem bs_o {xs : List Px} (h : noLA xs = true) : borS (some (.own xs)) (some (.own xs)) := .inl ⟨rfl, fun y z m => by cases z; exact h⟩
theorem bs_k {kvs : List (Int × Px)} (h : noLK kvs = true) : borS (some (.dic (.k kvs))) (some (.dic (.k kvs))) := .inl ⟨rfl, fun y z m => by cases z; exact h⟩
theorem bs_f {xs : List Px} (h : noLA xs = true) : borS (some (.own xs)) (some (.d (.list xs))) := .inr ⟨_, _, rfl, rfl, h⟩
section
variable {X : Cx} {Δ : Dx} {e : Expr} {f : WE}
/-- a name's own list lent -/
def eBor (i : Nat) (f : WE) : WE := fun c P X => ownD c i fun xs => noLA xs = true ∧ f c (fun r c1 => c1.env[i]? = some (some (.d (.list xs))) ∧ c1.g = none ∧ noLR r ∧ BorE c.env c1.env ∧ P r { c1 with env := c1.env.set i (some (.own xs)) }) X
theorem Ok.thaw {am : Addr} {F F1 : Hp} {σ : L2.St} {H H1 : Hp} {c c1 : Cf} {i : Nat} {xs : List Px} {a : Addr} {vs : List V} (k : Ok Δ am F σ H c) (k1 : Ok Δ am F1 σ H1 c1) (l : Le F F1) (e0 : c.env[i]? = some (some (.own xs))) (h1 : σ[i]? = some (some (.ref a))) (hF : F a = none) (h0 : Δ.H0 a = none)
    (e1 : c1.env[i]? = some (some (.d (.list xs)))) (eg : c1.g = none) (nx : noLA xs = true) (be : BorE c.env c1.env) (ha : F1 a = some (.lst vs)) (rx : RpA F1 vs xs) :
    Ok Δ am (cutH F1 a) σ H1 { c1 with env := c1.env.set i (some (.own xs)) } := by
  have hi : i < c1.env.length := (List.getElem?_eq_some_iff.mp e1).1
  have Ha : H1 a = some (.lst vs) := k1.fh _ _ ha
  have dat : ∀ (j : Nat) (r : Rv), j ≠ i → c1.env[j]? = some (some r) → ∃ v, σ[j]? = some (some v) ∧ Sl Δ am (cutH F1 a) H1 r v ∧ (r.mu → v ≠ .ref a) := fun j r nj er => by
    obtain ⟨r0, er0, bs⟩ := be.at j _ er
    obtain ⟨v, s1, s2⟩ := k1.sv j r er
    refine ⟨v, s1, ?_, ?_⟩
    · rcases bs with ⟨q, nm⟩ | ⟨ys, ys', q1, q2, q3⟩
      · subst q
        obtain ⟨v', t1, t2⟩ := k.sv j r er0
        rw [s1] at t1
        cases t1
        cases r with
        | d x => exact Rp.mono (le_cutH l hF) t2
        | gen => exact t2
        | scr ns =>
          obtain ⟨b, b1, b2⟩ := t2
          exact ⟨b, b1, sq_le (le_cutH l hF) b2⟩
        | own ys =>
          obtain ⟨b, us, b1, b2, b3, b4, b5⟩ := s2
          exact ⟨b, us, b1, b2, by unfold cutH; split <;> first | rfl | exact b3, b4, b5.cutL ha (nm _ rfl True.intro)⟩
        | dic D =>
          cases D with
          | k kvs =>
            obtain ⟨b, o, b1, b2, b3, b4, ws, b5, b6⟩ := s2
            exact ⟨b, o, b1, b2, by unfold cutH; split <;> first | rfl | exact b3, b4, ws, b5, b6.cutL ha (nm _ rfl True.intro)⟩
          | t kvs => exact (nm _ rfl True.intro).elim
      · subst q1
        cases q2
        obtain ⟨v', t1, b, us, b1, b2, b3, b4, b5⟩ := k.sv j _ er0
        rw [s1] at t1
        cases t1
        subst b1
        have nb : b ≠ a := fun z => by
          subst z
          exact k.di j i _ _ nj er0 e0 True.intro True.intro (s1.trans h1.symm)
        cases s2 with
        | lst g1 g2 => exact .lst (by rw [cutH_ne nb]; exact g1) (g2.cutL ha q3)
    · intro mu z
      rcases bs with ⟨q, nm⟩ | ⟨ys, ys', q1, q2, q3⟩
      · subst q
        subst z
        exact k.di j i _ _ nj er0 e0 mu True.intro (s1.trans h1.symm)
      · cases q2
        exact mu.elim
  refine ⟨cutH_le.trans k1.fh, le_cutH k1.f0 (k.f0.nn hF), fun b hb => k1.fr b fun z => hb ?_, ⟨k1.tb.1, fun b ps z => k1.tb.2.1 b ps (cutH_of z).1, k1.tb.2.2⟩, k1.pr, k1.al, fun n z => ?_, by simpa using k1.len, fun j r er => ?_, fun j j2 r r2 nj p q mu mu2 => ?_⟩
  · unfold cutH
    split
    · rfl
    · exact z
  · have z : c1.g = some n := z
    rw [eg] at z
    cases z
  · rw [env_get] at er
    split at er
    · rename_i z
      cases er
      rw [z.1]
      exact ⟨_, h1, a, vs, rfl, Ha, cutH_self, h0, rx.cutL ha nx⟩
    · rename_i n
      obtain ⟨v, s1, s2, _⟩ := dat j r (fun z => n ⟨z, hi⟩) er
      exact ⟨v, s1, s2⟩
  · rw [env_get] at p q
    split at p
    · rename_i z
      split at q
      · rename_i z2
        exact absurd (z.1.trans z2.1.symm) nj
      · rename_i n2
        obtain ⟨v, s1, _, s3⟩ := dat j2 r2 (fun z => n2 ⟨z, hi⟩) q
        rw [z.1, h1, s1]
        exact fun y => s3 mu2 (Option.some.inj (Option.some.inj y)).symm
    · rename_i n1
      split at q
      · rename_i z2
        obtain ⟨v, s1, _, s3⟩ := dat j r (fun z => n1 ⟨z, hi⟩) p
        rw [z2.1, h1, s1]
        exact fun y => s3 mu (Option.some.inj (Option.some.inj y))
      · exact k1.di j j2 r r2 nj p q mu mu2
theorem de_bor (i : Nat) (h : PE X e (tE Δ f)) : PE X e (tE Δ (eBor i f)) := by
  refine h.imp fun σ H Q ⟨am, F, c, P, XX, ok, hf, kq, kx⟩ => ?_
  obtain ⟨a, vs0, xs, ⟨nx, hf⟩, e0, h1, h2, h3, h4, h5⟩ := ok.mine (show ownD c i _ from hf)
  refine ⟨am, F, c, _, XX, ok, hf, fun r c1 F1 v H1 p1 l1 o1 s1 => ?_, kx⟩
  obtain ⟨e1, eg, nr, be, p1⟩ := p1
  obtain ⟨v', g1, g2⟩ := o1.sv i _ e1
  rw [h1] at g1
  cases g1
  have g2 : Rp F1 (.ref a) (.list xs) := g2
  cases g2 with
  | lst ha rx =>
    have ot := ok.thaw o1 l1 e0 h1 h3 h4 e1 eg nx be ha rx
    refine kq r _ _ v H1 p1 (le_cutH l1 h3) ot ⟨?_, fun mu j r' er mu' => ?_⟩
    · cases r with
      | d x => exact Rp.cutL ha s1.1 nr
      | gen => exact nr.elim
      | scr ns => exact nr.elim
      | own ys =>
        obtain ⟨b, us, b1, b2, b3, b4, b5⟩ := s1.1
        exact ⟨b, us, b1, b2, by unfold cutH; split <;> first | rfl | exact b3, b4, b5.cutL ha nr⟩
      | dic D =>
        cases D with
        | k kvs =>
          obtain ⟨b, o, b1, b2, b3, b4, ws, b5, b6⟩ := s1.1
          exact ⟨b, o, b1, b2, by unfold cutH; split <;> first | rfl | exact b3, b4, ws, b5, b6.cutL ha nr⟩
        | t kvs => exact nr.elim
    · have hi : i < c1.env.length := (List.getElem?_eq_some_iff.mp e1).1
      have er : (c1.env.set i (some (.own xs)))[j]? = some (some r') := er
      rw [env_get] at er
      split at er
      · rename_i z
        rw [z.1, h1]
        intro y
        obtain ⟨b, o, w1, w2, w3, w4⟩ := s1.1.at mu
        subst w1
        cases y
        rw [ha] at w3
        cases w3
      · exact s1.2 mu j r' er mu'
end
end Dl
set_option Elab.async false
set_option maxRecDepth 100000
set_option linter.all false
set_option autoImplicit false
set_option maxHeartbeats 4000000
open PySem L2 Dl
local macro_rules | `(tactic| simp -dsimp only [rR_, $xs,*]) => `(tactic| simp -dsimp only [$xs,*, eLstK, eFrz, eBor, eDIxF, ↓eDInF_t, ↓eDInF_f, ↓fdD_eq, ↓slotFd_k, isFd, ↓inDD_t, eRem, eDisp0, eDispW, eIxW, wPairs, ↓ixW_d, eMaxL, ↓inDD_l, ↓sumC_l, ↓sumC_t, ↓ifdiv_i, sSeq, sAsg, sRet, sIf, sExp, ↓sFor_eq, sPar2, sPar3, ↓sSetI_eq, eRevT, ↓revD_t, eRevL, ↓revLD_l, eDisp1, eDIx, ↓eDIn_t, ↓eDIn_f, sDctP, sRetD, eDIxC, ePop0, ↓dicD_eq, ↓slotDc_k, ↓dicR_k, ↓hdX_c, isDic, ↓sSetIA_eq, ↓sSetIM_eq, sUnp2, ↓sAug_eq, ↓slotA_d, ↓sSetG_eq, sRetG, sGL, sGP, sNil, sBrk, sCnt, sNo, ↓eName_eq, ↓slotE_d, ↓slotE_gen, ↓slotE_scr, ↓slotE_own, eC, eOp, eUn, eSc, eScL, eScR, eCh, eAnd, eOr, eNot, eIf, eTup, eLst, eCB, eIx, eIxN, eSl, eSlN, eSlS, eAddN, eLenN, eApp, eExt, ePop, ↓eCallP_eq, ↓eCallG_eq, eIsi, eGL, eGS, eGC, eGP, aNil, aCons, ↓wB_eq, wTru, wTruN, wAnd, wOr, wNot, wYes, gN, ↓gT_d, ↓gL_own, ↓gL_d, ↓gsC, ↓gsN, oNone, ↓oSome_eq, ↓asI_i, iLst, iTpl, iRg1, iRg2, iRg3, iEnm, iEnmT, iZp, iZpT, iZp3, iScr, ↓eLc_eq, hasD, ↓slotD_eq, ↓slotK_d, ↓slotK_own, ↓ownD_eq, ↓slotO_own, isOwn, scrD, putE, asDs, ↓asD_d, ↓asD_own, ↓argR_d, ↓argR_own, ↓argR_gen, ↓argR_scr, ↓asL_own, ↓asL_d, ↓asT_d, ↓asB_d, ↓sub_i, ↓iadd_i, ↓strC_i, ↓mul_i, ↓fdiv_i, ↓fdivB_i, ↓mod_i, ↓pow_i, ↓lt_i, ↓le_i, ↓gt_i, ↓ge_i, ↓add_i, ↓add_l, ↓add_t, ↓cat_i, ↓cat_l, ↓cat_t, ↓neg_i, ↓eqf_i, ↓eqt_i, ↓lenC_l, ↓lenC_t, ↓absC_i, ↓intC_i, ↓tupC_l, ↓tupC_t, ↓max2C_i, ↓min2C_i, ↓lenC_s, ↓reprC_b, ↓reprA_b, ↓reprA_i, ↓reprA_t, ↓reprC_i, ↓reprN_n, ↓reprN_b, ↓reprN_i, ↓reprN_t, ↓gcdC_i, ↓isBD_f, ↓isBD_t, ↓eqf_rb, ↓eqt_rb, ↓eqt_ri, ↓slD_t, ↓max3C_i, ↓ixt0, ↓ixt1, ↓ixt2, ↓ixt3, ↓ixl0, ↓ixl1, ↓ixtl, ↓ixll, truD, lenD, startC, endP, List.map_cons, List.map_nil, List.length_cons, List.length_nil, List.cons_append, List.nil_append, List.getElem?_cons_zero, List.getElem?_cons_succ, List.set_cons_zero, List.set_cons_succ, List.replicate_succ, List.replicate_zero, Nat.reduceSub, Nat.reduceAdd, Nat.reduceLT, Option.isSome_some, true_and, and_true, ne_eq, not_false_eq_true, reduceCtorEq, if_true, if_false, Bool.false_eq_true, decide_eq_true_eq, List.mem_cons, List.not_mem_nil, or_self, or_false, false_or, ↓reprM_n, ↓reprM_b, ↓reprM_i, ↓reprM_t, ↓reprM_l, eHeard, ↓lam_eq, ↓lamM_n, ↓lamM_c, ↓dropO_d, ↓dropO_g, ↓dropO_s, ↓dropO_n, ↓dropO_o, ↓dropO_k, ↓wrapR_t, ↓wrapR_f, sRaise2, ↓rz2_d, eCallB, ↓nog_eq, ↓dropG_n, ↓dropG_g, ↓dropG_d, ↓dropG_o, ↓dropG_s, ↓dropG_k])
local macro_rules | `(tactic| simp -dsimp only [rR_]) => `(tactic| simp -dsimp only [eLstK, eFrz, eBor, eDIxF, ↓eDInF_t, ↓eDInF_f, ↓fdD_eq, ↓slotFd_k, isFd, ↓inDD_t, eRem, eDisp0, eDispW, eIxW, wPairs, ↓ixW_d, eMaxL, ↓inDD_l, ↓sumC_l, ↓sumC_t, ↓ifdiv_i, sSeq, sAsg, sRet, sIf, sExp, ↓sFor_eq, sPar2, sPar3, ↓sSetI_eq, eRevT, ↓revD_t, eRevL, ↓revLD_l, eDisp1, eDIx, ↓eDIn_t, ↓eDIn_f, sDctP, sRetD, eDIxC, ePop0, ↓dicD_eq, ↓slotDc_k, ↓dicR_k, ↓hdX_c, isDic, ↓sSetIA_eq, ↓sSetIM_eq, sUnp2, ↓sAug_eq, ↓slotA_d, ↓sSetG_eq, sRetG, sGL, sGP, sNil, sBrk, sCnt, sNo, ↓eName_eq, ↓slotE_d, ↓slotE_gen, ↓slotE_scr, ↓slotE_own, eC, eOp, eUn, eSc, eScL, eScR, eCh, eAnd, eOr, eNot, eIf, eTup, eLst, eCB, eIx, eIxN, eSl, eSlN, eSlS, eAddN, eLenN, eApp, eExt, ePop, ↓eCallP_eq, ↓eCallG_eq, eIsi, eGL, eGS, eGC, eGP, aNil, aCons, ↓wB_eq, wTru, wTruN, wAnd, wOr, wNot, wYes, gN, ↓gT_d, ↓gL_own, ↓gL_d, ↓gsC, ↓gsN, oNone, ↓oSome_eq, ↓asI_i, iLst, iTpl, iRg1, iRg2, iRg3, iEnm, iEnmT, iZp, iZpT, iZp3, iScr, ↓eLc_eq, hasD, ↓slotD_eq, ↓slotK_d, ↓slotK_own, ↓ownD_eq, ↓slotO_own, isOwn, scrD, putE, asDs, ↓asD_d, ↓asD_own, ↓argR_d, ↓argR_own, ↓argR_gen, ↓argR_scr, ↓asL_own, ↓asL_d, ↓asT_d, ↓asB_d, ↓sub_i, ↓iadd_i, ↓strC_i, ↓mul_i, ↓fdiv_i, ↓fdivB_i, ↓mod_i, ↓pow_i, ↓lt_i, ↓le_i, ↓gt_i, ↓ge_i, ↓add_i, ↓add_l, ↓add_t, ↓cat_i, ↓cat_l, ↓cat_t, ↓neg_i, ↓eqf_i, ↓eqt_i, ↓lenC_l, ↓lenC_t, ↓absC_i, ↓intC_i, ↓tupC_l, ↓tupC_t, ↓max2C_i, ↓min2C_i, ↓lenC_s, ↓reprC_b, ↓reprA_b, ↓reprA_i, ↓reprA_t, ↓reprC_i, ↓reprN_n, ↓reprN_b, ↓reprN_i, ↓reprN_t, ↓gcdC_i, ↓isBD_f, ↓isBD_t, ↓eqf_rb, ↓eqt_rb, ↓eqt_ri, ↓slD_t, ↓max3C_i, ↓ixt0, ↓ixt1, ↓ixt2, ↓ixt3, ↓ixl0, ↓ixl1, ↓ixtl, ↓ixll, truD, lenD, startC, endP, List.map_cons, List.map_nil, List.length_cons, List.length_nil, List.cons_append, List.nil_append, List.getElem?_cons_zero, List.getElem?_cons_succ, List.set_cons_zero, List.set_cons_succ, List.replicate_succ, List.replicate_zero, Nat.reduceSub, Nat.reduceAdd, Nat.reduceLT, Option.isSome_some, true_and, and_true, ne_eq, not_false_eq_true, reduceCtorEq, if_true, if_false, Bool.false_eq_true, decide_eq_true_eq, List.mem_cons, List.not_mem_nil, or_self, or_false, false_or, ↓reprM_n, ↓reprM_b, ↓reprM_i, ↓reprM_t, ↓reprM_l, eHeard, ↓lam_eq, ↓lamM_n, ↓lamM_c, ↓dropO_d, ↓dropO_g, ↓dropO_s, ↓dropO_n, ↓dropO_o, ↓dropO_k, ↓wrapR_t, ↓wrapR_f, sRaise2, ↓rz2_d, eCallB, ↓nog_eq, ↓dropG_n, ↓dropG_g, ↓dropG_d, ↓dropG_o, ↓dropG_s, ↓dropG_k])
local macro_rules | `(tactic| simp only [rR_, $xs,*]) => `(tactic| simp only [$xs,*, eLstK, eFrz, eBor, eDIxF, ↓eDInF_t, ↓eDInF_f, ↓fdD_eq, ↓slotFd_k, isFd, ↓inDD_t, eRem, eDisp0, eDispW, eIxW, wPairs, ↓ixW_d, eMaxL, ↓inDD_l, ↓sumC_l, ↓sumC_t, ↓ifdiv_i, sSeq, sAsg, sRet, sIf, sExp, ↓sFor_eq, sPar2, sPar3, ↓sSetI_eq, eRevT, ↓revD_t, eRevL, ↓revLD_l, eDisp1, eDIx, ↓eDIn_t, ↓eDIn_f, sDctP, sRetD, eDIxC, ePop0, ↓dicD_eq, ↓slotDc_k, ↓dicR_k, ↓hdX_c, isDic, ↓sSetIA_eq, ↓sSetIM_eq, sUnp2, ↓sAug_eq, ↓slotA_d, ↓sSetG_eq, sRetG, sGL, sGP, sNil, sBrk, sCnt, sNo, ↓eName_eq, ↓slotE_d, ↓slotE_gen, ↓slotE_scr, ↓slotE_own, eC, eOp, eUn, eSc, eScL, eScR, eCh, eAnd, eOr, eNot, eIf, eTup, eLst, eCB, eIx, eIxN, eSl, eSlN, eSlS, eAddN, eLenN, eApp, eExt, ePop, ↓eCallP_eq, ↓eCallG_eq, eIsi, eGL, eGS, eGC, eGP, aNil, aCons, ↓wB_eq, wTru, wTruN, wAnd, wOr, wNot, wYes, gN, ↓gT_d, ↓gL_own, ↓gL_d, ↓gsC, ↓gsN, oNone, ↓oSome_eq, ↓asI_i, iLst, iTpl, iRg1, iRg2, iRg3, iEnm, iEnmT, iZp, iZpT, iZp3, iScr, ↓eLc_eq, hasD, ↓slotD_eq, ↓slotK_d, ↓slotK_own, ↓ownD_eq, ↓slotO_own, isOwn, scrD, putE, asDs, ↓asD_d, ↓asD_own, ↓argR_d, ↓argR_own, ↓argR_gen, ↓argR_scr, ↓asL_own, ↓asL_d, ↓asT_d, ↓asB_d, ↓sub_i, ↓iadd_i, ↓strC_i, ↓mul_i, ↓fdiv_i, ↓fdivB_i, ↓mod_i, ↓pow_i, ↓lt_i, ↓le_i, ↓gt_i, ↓ge_i, ↓add_i, ↓add_l, ↓add_t, ↓cat_i, ↓cat_l, ↓cat_t, ↓neg_i, ↓eqf_i, ↓eqt_i, ↓lenC_l, ↓lenC_t, ↓absC_i, ↓intC_i, ↓tupC_l, ↓tupC_t, ↓max2C_i, ↓min2C_i, ↓lenC_s, ↓reprC_b, ↓reprA_b, ↓reprA_i, ↓reprA_t, ↓reprC_i, ↓reprN_n, ↓reprN_b, ↓reprN_i, ↓reprN_t, ↓gcdC_i, ↓isBD_f, ↓isBD_t, ↓eqf_rb, ↓eqt_rb, ↓eqt_ri, ↓slD_t, ↓max3C_i, ↓ixt0, ↓ixt1, ↓ixt2, ↓ixt3, ↓ixl0, ↓ixl1, ↓ixtl, ↓ixll, truD, lenD, startC, endP, List.map_cons, List.map_nil, List.length_cons, List.length_nil, List.cons_append, List.nil_append, List.getElem?_cons_zero, List.getElem?_cons_succ, List.set_cons_zero, List.set_cons_succ, List.replicate_succ, List.replicate_zero, Nat.reduceSub, Nat.reduceAdd, Nat.reduceLT, Option.isSome_some, true_and, and_true, ne_eq, not_false_eq_true, reduceCtorEq, if_true, if_false, Bool.false_eq_true, decide_eq_true_eq, List.mem_cons, List.not_mem_nil, or_self, or_false, false_or, ↓reprM_n, ↓reprM_b, ↓reprM_i, ↓reprM_t, ↓reprM_l, eHeard, ↓lam_eq, ↓lamM_n, ↓lamM_c, ↓dropO_d, ↓dropO_g, ↓dropO_s, ↓dropO_n, ↓dropO_o, ↓dropO_k, ↓wrapR_t, ↓wrapR_f, sRaise2, ↓rz2_d, eCallB, ↓nog_eq, ↓dropG_n, ↓dropG_g, ↓dropG_d, ↓dropG_o, ↓dropG_s, ↓dropG_k])
local macro_rules | `(tactic| simp only [rR_]) => `(tactic| simp only [eLstK, eFrz, eBor, eDIxF, ↓eDInF_t, ↓eDInF_f, ↓fdD_eq, ↓slotFd_k, isFd, ↓inDD_t, eRem, eDisp0, eDispW, eIxW, wPairs, ↓ixW_d, eMaxL, ↓inDD_l, ↓sumC_l, ↓sumC_t, ↓ifdiv_i, sSeq, sAsg, sRet, sIf, sExp, ↓sFor_eq, sPar2, sPar3, ↓sSetI_eq, eRevT, ↓revD_t, eRevL, ↓revLD_l, eDisp1, eDIx, ↓eDIn_t, ↓eDIn_f, sDctP, sRetD, eDIxC, ePop0, ↓dicD_eq, ↓slotDc_k, ↓dicR_k, ↓hdX_c, isDic, ↓sSetIA_eq, ↓sSetIM_eq, sUnp2, ↓sAug_eq, ↓slotA_d, ↓sSetG_eq, sRetG, sGL, sGP, sNil, sBrk, sCnt, sNo, ↓eName_eq, ↓slotE_d, ↓slotE_gen, ↓slotE_scr, ↓slotE_own, eC, eOp, eUn, eSc, eScL, eScR, eCh, eAnd, eOr, eNot, eIf, eTup, eLst, eCB, eIx, eIxN, eSl, eSlN, eSlS, eAddN, eLenN, eApp, eExt, ePop, ↓eCallP_eq, ↓eCallG_eq, eIsi, eGL, eGS, eGC, eGP, aNil, aCons, ↓wB_eq, wTru, wTruN, wAnd, wOr, wNot, wYes, gN, ↓gT_d, ↓gL_own, ↓gL_d, ↓gsC, ↓gsN, oNone, ↓oSome_eq, ↓asI_i, iLst, iTpl, iRg1, iRg2, iRg3, iEnm, iEnmT, iZp, iZpT, iZp3, iScr, ↓eLc_eq, hasD, ↓slotD_eq, ↓slotK_d, ↓slotK_own, ↓ownD_eq, ↓slotO_own, isOwn, scrD, putE, asDs, ↓asD_d, ↓asD_own, ↓argR_d, ↓argR_own, ↓argR_gen, ↓argR_scr, ↓asL_own, ↓asL_d, ↓asT_d, ↓asB_d, ↓sub_i, ↓iadd_i, ↓strC_i, ↓mul_i, ↓fdiv_i, ↓fdivB_i, ↓mod_i, ↓pow_i, ↓lt_i, ↓le_i, ↓gt_i, ↓ge_i, ↓add_i, ↓add_l, ↓add_t, ↓cat_i, ↓cat_l, ↓cat_t, ↓neg_i, ↓eqf_i, ↓eqt_i, ↓lenC_l, ↓lenC_t, ↓absC_i, ↓intC_i, ↓tupC_l, ↓tupC_t, ↓max2C_i, ↓min2C_i, ↓lenC_s, ↓reprC_b, ↓reprA_b, ↓reprA_i, ↓reprA_t, ↓reprC_i, ↓reprN_n, ↓reprN_b, ↓reprN_i, ↓reprN_t, ↓gcdC_i, ↓isBD_f, ↓isBD_t, ↓eqf_rb, ↓eqt_rb, ↓eqt_ri, ↓slD_t, ↓max3C_i, ↓ixt0, ↓ixt1, ↓ixt2, ↓ixt3, ↓ixl0, ↓ixl1, ↓ixtl, ↓ixll, truD, lenD, startC, endP, List.map_cons, List.map_nil, List.length_cons, List.length_nil, List.cons_append, List.nil_append, List.getElem?_cons_zero, List.getElem?_cons_succ, List.set_cons_zero, List.set_cons_succ, List.replicate_succ, List.replicate_zero, Nat.reduceSub, Nat.reduceAdd, Nat.reduceLT, Option.isSome_some, true_and, and_true, ne_eq, not_false_eq_true, reduceCtorEq, if_true, if_false, Bool.false_eq_true, decide_eq_true_eq, List.mem_cons, List.not_mem_nil, or_self, or_false, false_or, ↓reprM_n, ↓reprM_b, ↓reprM_i, ↓reprM_t, ↓reprM_l, eHeard, ↓lam_eq, ↓lamM_n, ↓lamM_c, ↓dropO_d, ↓dropO_g, ↓dropO_s, ↓dropO_n, ↓dropO_o, ↓dropO_k, ↓wrapR_t, ↓wrapR_f, sRaise2, ↓rz2_d, eCallB, ↓nog_eq, ↓dropG_n, ↓dropG_g, ↓dropG_d, ↓dropG_o, ↓dropG_s, ↓dropG_k])
local macro_rules | `(tactic| simp -dsimp only [rQ_, $xs,*]) => `(tactic| simp -dsimp only [$xs,*, eLstK, eFrz, eBor, eDIxF, eDInF_t, eDInF_f, fdD_eq, slotFd_k, isFd, inDD_t, eRem, eDisp0, eDispW, eIxW, wPairs, ixW_d, eMaxL, inDD_l, sumC_l, sumC_t, ifdiv_i, sSeq, sAsg, sRet, sIf, sExp, sFor_eq, sPar2, sPar3, sSetI_eq, eRevT, revD_t, eRevL, revLD_l, eDisp1, eDIx, eDIn_t, eDIn_f, sDctP, sRetD, eDIxC, ePop0, dicD_eq, slotDc_k, dicR_k, hdX_c, isDic, sSetIA_eq, sSetIM_eq, sUnp2, sAug_eq, slotA_d, sSetG_eq, sRetG, sGL, sGP, sNil, sBrk, sCnt, sNo, eName_eq, slotE_d, slotE_gen, slotE_scr, slotE_own, eC, eOp, eUn, eSc, eScL, eScR, eCh, eAnd, eOr, eNot, eIf, eTup, eLst, eCB, eIx, eIxN, eSl, eSlN, eSlS, eAddN, eLenN, eApp, eExt, ePop, eCallP_eq, eCallG_eq, eIsi, eGL, eGS, eGC, eGP, aNil, aCons, wB_eq, wTru, wTruN, wAnd, wOr, wNot, wYes, gN, gT_d, gL_own, gL_d, gsC, gsN, oNone, oSome_eq, asI_i, iLst, iTpl, iRg1, iRg2, iRg3, iEnm, iEnmT, iZp, iZpT, iZp3, iScr, eLc_eq, hasD, slotD_eq, slotK_d, slotK_own, ownD_eq, slotO_own, isOwn, scrD, putE, asDs, asD_d, asD_own, argR_d, argR_own, argR_gen, argR_scr, asL_own, asL_d, asT_d, asB_d, sub_i, iadd_i, strC_i, mul_i, fdiv_i, fdivB_i, mod_i, pow_i, lt_i, le_i, gt_i, ge_i, add_i, add_l, add_t, cat_i, cat_l, cat_t, neg_i, eqf_i, eqt_i, lenC_l, lenC_t, absC_i, intC_i, tupC_l, tupC_t, max2C_i, min2C_i, lenC_s, reprC_b, reprA_b, reprA_i, reprA_t, reprC_i, reprN_n, reprN_b, reprN_i, reprN_t, gcdC_i, isBD_f, isBD_t, eqf_rb, eqt_rb, eqt_ri, slD_t, max3C_i, ixt0, ixt1, ixt2, ixt3, ixl0, ixl1, ixtl, ixll, truD, lenD, startC, endP, List.map_cons, List.map_nil, List.length_cons, List.length_nil, List.cons_append, List.nil_append, List.getElem?_cons_zero, List.getElem?_cons_succ, List.set_cons_zero, List.set_cons_succ, List.replicate_succ, List.replicate_zero, Nat.reduceSub, Nat.reduceAdd, Nat.reduceLT, Option.isSome_some, true_and, and_true, ne_eq, not_false_eq_true, reduceCtorEq, if_true, if_false, Bool.false_eq_true, decide_eq_true_eq, List.mem_cons, List.not_mem_nil, or_self, or_false, false_or, reprM_n, reprM_b, reprM_i, reprM_t, reprM_l, eHeard, lam_eq, lamM_n, lamM_c, dropO_d, dropO_g, dropO_s, dropO_n, dropO_o, dropO_k, wrapR_t, wrapR_f, sRaise2, rz2_d, eCallB, nog_eq, dropG_n, dropG_g, dropG_d, dropG_o, dropG_s, dropG_k])
local macro_rules | `(tactic| simp -dsimp only [rQ_]) => `(tactic| simp -dsimp only [eLstK, eFrz, eBor, eDIxF, eDInF_t, eDInF_f, fdD_eq, slotFd_k, isFd, inDD_t, eRem, eDisp0, eDispW, eIxW, wPairs, ixW_d, eMaxL, inDD_l, sumC_l, sumC_t, ifdiv_i, sSeq, sAsg, sRet, sIf, sExp, sFor_eq, sPar2, sPar3, sSetI_eq, eRevT, revD_t, eRevL, revLD_l, eDisp1, eDIx, eDIn_t, eDIn_f, sDctP, sRetD, eDIxC, ePop0, dicD_eq, slotDc_k, dicR_k, hdX_c, isDic, sSetIA_eq, sSetIM_eq, sUnp2, sAug_eq, slotA_d, sSetG_eq, sRetG, sGL, sGP, sNil, sBrk, sCnt, sNo, eName_eq, slotE_d, slotE_gen, slotE_scr, slotE_own, eC, eOp, eUn, eSc, eScL, eScR, eCh, eAnd, eOr, eNot, eIf, eTup, eLst, eCB, eIx, eIxN, eSl, eSlN, eSlS, eAddN, eLenN, eApp, eExt, ePop, eCallP_eq, eCallG_eq, eIsi, eGL, eGS, eGC, eGP, aNil, aCons, wB_eq, wTru, wTruN, wAnd, wOr, wNot, wYes, gN, gT_d, gL_own, gL_d, gsC, gsN, oNone, oSome_eq, asI_i, iLst, iTpl, iRg1, iRg2, iRg3, iEnm, iEnmT, iZp, iZpT, iZp3, iScr, eLc_eq, hasD, slotD_eq, slotK_d, slotK_own, ownD_eq, slotO_own, isOwn, scrD, putE, asDs, asD_d, asD_own, argR_d, argR_own, argR_gen, argR_scr, asL_own, asL_d, asT_d, asB_d, sub_i, iadd_i, strC_i, mul_i, fdiv_i, fdivB_i, mod_i, pow_i, lt_i, le_i, gt_i, ge_i, add_i, add_l, add_t, cat_i, cat_l, cat_t, neg_i, eqf_i, eqt_i, lenC_l, lenC_t, absC_i, intC_i, tupC_l, tupC_t, max2C_i, min2C_i, lenC_s, reprC_b, reprA_b, reprA_i, reprA_t, reprC_i, reprN_n, reprN_b, reprN_i, reprN_t, gcdC_i, isBD_f, isBD_t, eqf_rb, eqt_rb, eqt_ri, slD_t, max3C_i, ixt0, ixt1, ixt2, ixt3, ixl0, ixl1, ixtl, ixll, truD, lenD, startC, endP, List.map_cons, List.map_nil, List.length_cons, List.length_nil, List.cons_append, List.nil_append, List.getElem?_cons_zero, List.getElem?_cons_succ, List.set_cons_zero, List.set_cons_succ, List.replicate_succ, List.replicate_zero, Nat.reduceSub, Nat.reduceAdd, Nat.reduceLT, Option.isSome_some, true_and, and_true, ne_eq, not_false_eq_true, reduceCtorEq, if_true, if_false, Bool.false_eq_true, decide_eq_true_eq, List.mem_cons, List.not_mem_nil, or_self, or_false, false_or, reprM_n, reprM_b, reprM_i, reprM_t, reprM_l, eHeard, lam_eq, lamM_n, lamM_c, dropO_d, dropO_g, dropO_s, dropO_n, dropO_o, dropO_k, wrapR_t, wrapR_f, sRaise2, rz2_d, eCallB, nog_eq, dropG_n, dropG_g, dropG_d, dropG_o, dropG_s, dropG_k])
local macro_rules | `(tactic| simp only [rQ_, $xs,*]) => `(tactic| simp only [$xs,*, eLstK, eFrz, eBor, eDIxF, eDInF_t, eDInF_f, fdD_eq, slotFd_k, isFd, inDD_t, eRem, eDisp0, eDispW, eIxW, wPairs, ixW_d, eMaxL, inDD_l, sumC_l, sumC_t, ifdiv_i, sSeq, sAsg, sRet, sIf, sExp, sFor_eq, sPar2, sPar3, sSetI_eq, eRevT, revD_t, eRevL, revLD_l, eDisp1, eDIx, eDIn_t, eDIn_f, sDctP, sRetD, eDIxC, ePop0, dicD_eq, slotDc_k, dicR_k, hdX_c, isDic, sSetIA_eq, sSetIM_eq, sUnp2, sAug_eq, slotA_d, sSetG_eq, sRetG, sGL, sGP, sNil, sBrk, sCnt, sNo, eName_eq, slotE_d, slotE_gen, slotE_scr, slotE_own, eC, eOp, eUn, eSc, eScL, eScR, eCh, eAnd, eOr, eNot, eIf, eTup, eLst, eCB, eIx, eIxN, eSl, eSlN, eSlS, eAddN, eLenN, eApp, eExt, ePop, eCallP_eq, eCallG_eq, eIsi, eGL, eGS, eGC, eGP, aNil, aCons, wB_eq, wTru, wTruN, wAnd, wOr, wNot, wYes, gN, gT_d, gL_own, gL_d, gsC, gsN, oNone, oSome_eq, asI_i, iLst, iTpl, iRg1, iRg2, iRg3, iEnm, iEnmT, iZp, iZpT, iZp3, iScr, eLc_eq, hasD, slotD_eq, slotK_d, slotK_own, ownD_eq, slotO_own, isOwn, scrD, putE, asDs, asD_d, asD_own, argR_d, argR_own, argR_gen, argR_scr, asL_own, asL_d, asT_d, asB_d, sub_i, iadd_i, strC_i, mul_i, fdiv_i, fdivB_i, mod_i, pow_i, lt_i, le_i, gt_i, ge_i, add_i, add_l, add_t, cat_i, cat_l, cat_t, neg_i, eqf_i, eqt_i, lenC_l, lenC_t, absC_i, intC_i, tupC_l, tupC_t, max2C_i, min2C_i, lenC_s, reprC_b, reprA_b, reprA_i, reprA_t, reprC_i, reprN_n, reprN_b, reprN_i, reprN_t, gcdC_i, isBD_f, isBD_t, eqf_rb, eqt_rb, eqt_ri, slD_t, max3C_i, ixt0, ixt1, ixt2, ixt3, ixl0, ixl1, ixtl, ixll, truD, lenD, startC, endP, List.map_cons, List.map_nil, List.length_cons, List.length_nil, List.cons_append, List.nil_append, List.getElem?_cons_zero, List.getElem?_cons_succ, List.set_cons_zero, List.set_cons_succ, List.replicate_succ, List.replicate_zero, Nat.reduceSub, Nat.reduceAdd, Nat.reduceLT, Option.isSome_some, true_and, and_true, ne_eq, not_false_eq_true, reduceCtorEq, if_true, if_false, Bool.false_eq_true, decide_eq_true_eq, List.mem_cons, List.not_mem_nil, or_self, or_false, false_or, reprM_n, reprM_b, reprM_i, reprM_t, reprM_l, eHeard, lam_eq, lamM_n, lamM_c, dropO_d, dropO_g, dropO_s, dropO_n, dropO_o, dropO_k, wrapR_t, wrapR_f, sRaise2, rz2_d, eCallB, nog_eq, dropG_n, dropG_g, dropG_d, dropG_o, dropG_s, dropG_k])
local macro_rules | `(tactic| simp only [rQ_]) => `(tactic| simp only [eLstK, eFrz, eBor, eDIxF, eDInF_t, eDInF_f, fdD_eq, slotFd_k, isFd, inDD_t, eRem, eDisp0, eDispW, eIxW, wPairs, ixW_d, eMaxL, inDD_l, sumC_l, sumC_t, ifdiv_i, sSeq, sAsg, sRet, sIf, sExp, sFor_eq, sPar2, sPar3, sSetI_eq, eRevT, revD_t, eRevL, revLD_l, eDisp1, eDIx, eDIn_t, eDIn_f, sDctP, sRetD, eDIxC, ePop0, dicD_eq, slotDc_k, dicR_k, hdX_c, isDic, sSetIA_eq, sSetIM_eq, sUnp2, sAug_eq, slotA_d, sSetG_eq, sRetG, sGL, sGP, sNil, sBrk, sCnt, sNo, eName_eq, slotE_d, slotE_gen, slotE_scr, slotE_own, eC, eOp, eUn, eSc, eScL, eScR, eCh, eAnd, eOr, eNot, eIf, eTup, eLst, eCB, eIx, eIxN, eSl, eSlN, eSlS, eAddN, eLenN, eApp, eExt, ePop, eCallP_eq, eCallG_eq, eIsi, eGL, eGS, eGC, eGP, aNil, aCons, wB_eq, wTru, wTruN, wAnd, wOr, wNot, wYes, gN, gT_d, gL_own, gL_d, gsC, gsN, oNone, oSome_eq, asI_i, iLst, iTpl, iRg1, iRg2, iRg3, iEnm, iEnmT, iZp, iZpT, iZp3, iScr, eLc_eq, hasD, slotD_eq, slotK_d, slotK_own, ownD_eq, slotO_own, isOwn, scrD, putE, asDs, asD_d, asD_own, argR_d, argR_own, argR_gen, argR_scr, asL_own, asL_d, asT_d, asB_d, sub_i, iadd_i, strC_i, mul_i, fdiv_i, fdivB_i, mod_i, pow_i, lt_i, le_i, gt_i, ge_i, add_i, add_l, add_t, cat_i, cat_l, cat_t, neg_i, eqf_i, eqt_i, lenC_l, lenC_t, absC_i, intC_i, tupC_l, tupC_t, max2C_i, min2C_i, lenC_s, reprC_b, reprA_b, reprA_i, reprA_t, reprC_i, reprN_n, reprN_b, reprN_i, reprN_t, gcdC_i, isBD_f, isBD_t, eqf_rb, eqt_rb, eqt_ri, slD_t, max3C_i, ixt0, ixt1, ixt2, ixt3, ixl0, ixl1, ixtl, ixll, truD, lenD, startC, endP, List.map_cons, List.map_nil, List.length_cons, List.length_nil, List.cons_append, List.nil_append, List.getElem?_cons_zero, List.getElem?_cons_succ, List.set_cons_zero, List.set_cons_succ, List.replicate_succ, List.replicate_zero, Nat.reduceSub, Nat.reduceAdd, Nat.reduceLT, Option.isSome_some, true_and, and_true, ne_eq, not_false_eq_true, reduceCtorEq, if_true, if_false, Bool.false_eq_true, decide_eq_true_eq, List.mem_cons, List.not_mem_nil, or_self, or_false, false_or, reprM_n, reprM_b, reprM_i, reprM_t, reprM_l, eHeard, lam_eq, lamM_n, lamM_c, dropO_d, dropO_g, dropO_s, dropO_n, dropO_o, dropO_k, wrapR_t, wrapR_f, sRaise2, rz2_d, eCallB, nog_eq, dropG_n, dropG_g, dropG_d, dropG_o, dropG_s, dropG_k])
namespace K
open PySem L2 Dl
variable [TabF]
structure Tie where
  v : Int
  w : Int
  p : Int
  q : Int
structure Web where
  rooms : Int
  ties : List Tie
def eT (t : Tie) : Px := .tuple [.int t.v, .int t.w, .int t.p, .int t.q]
def eW (w : Web) : Px := .tuple [.int w.rooms, .tuple (w.ties.map eT)]
/-- the tie with a number -/
def Web.at (w : Web) (t : Int) (x : Tie) : Prop := ∃ i : Nat, t = (i : Int) ∧ w.ties[i]? = some x
def rev (t : Tie) (s : Int) : Tie := if s = 1 then t else ⟨t.w, t.v, t.q, t.p⟩
/-- a drawn web: rooms in range, ends not 0 and not too great -/
structure TieOk (n : Int) (gr : Int) (t : Tie) : Prop where
  v0 : 0 ≤ t.v
  v1 : t.v < n
  w0 : 0 ≤ t.w
  w1 : t.w < n
  p0 : t.p ≠ 0
  p1 : t.p.natAbs ≤ gr
  q0 : t.q ≠ 0
  q1 : t.q.natAbs ≤ gr
structure WebOk (w : Web) (gr : Int) : Prop where
  r0 : 1 ≤ w.rooms
  tie : ∀ t ∈ w.ties, TieOk w.rooms gr t
theorem WebOk.at {w : Web} {gr t : Int} {x : Tie} (h : WebOk w gr) (a : Web.at w t x) : TieOk w.rooms gr x := by
  obtain ⟨i, _, e⟩ := a
  exact h.tie x (List.mem_of_getElem? e)
theorem TieOk.rev {n gr : Int} {t : Tie} (h : TieOk n gr t) (s : Int) : TieOk n gr (rev t s) := by
  unfold K.rev
  split
  · exact h
  · exact ⟨h.w0, h.w1, h.v0, h.v1, h.q0, h.q1, h.p0, h.p1⟩
structure Stp where
  tie : Int
  side : Int
  k : Int
structure Wlk where
  room : Int
  k : Int
  steps : List Stp
def eS (s : Stp) : Px := .tuple [.int s.tie, .int s.side, .int s.k]
def eK (w : Wlk) : Px := .tuple [.int w.room, .int w.k, .tuple (w.steps.map eS)]
def eC2 (c : Int × Int) : Px := .tuple [.int c.1, .int c.2]
/-- a crossing of the web -/
def CrOk (w : Web) (t s : Int) : Prop := (∃ x, Web.at w t x) ∧ (s = 1 ∨ s = -1)
def StepsOk (w : Web) (l : List Stp) : Prop := ∀ s ∈ l, CrOk w s.tie s.side
/-! ### draws -/
structure Big (i : Int) : Prop where
  out : i.natAbs < 2 ^ 9000
abbrev C_law_draw : Cn := fun rs g Q => ∃ (b : Int) (n : Nat), rs = [.gen, .d (.int b)] ∧ g = some n ∧ n + 1 ≤ 2 ^ 40 ∧ 0 < b ∧ Big b ∧ ∀ (r : Int) (m : Nat), 0 ≤ r → r < b → m ≤ n + 1 → Q (.d (.int r)) (some m)
def w_law_draw : WS :=
  (sSeq (sIf (wB (eSc gtD (eGL 0) (eC (.int 0)))) (sSeq (sAsg (eOp modD (eCB intC (aCons (eGL 0) aNil)) (eName 1)) (gN 2))
  (sSeq (sGL 0 (eOp fdivD (eGL 0) (eName 1)))
  (sRet (eName 2)))) sNil)
  (sSeq (sAsg (eGP 0) (gN 3))
  (sSeq (sGP 0 (eAddN 3 (eC (.int 1))))
  (sSeq (sPar2 4 5 (eGC 0) (eOp addD (eGS 0) (eOp mulD (eOp mulD (eC (.int 40503)) (eName 3)) (eName 3))))
  (sSeq (sAsg (eIxN 4 (eOp modD (eCB intC (aCons (eName 3) aNil)) (eLenN 4))) (gN 6))
  (sSeq (sAsg (eOp modD (eCB intC (aCons (eOp addD (eOp mulD (eName 6) (eOp addD (eOp mulD (eC (.int 2)) (eName 3)) (eC (.int 3)))) (eName 5)) aNil)) (eC (.int 2147483647))) (gN 7))
  (sSeq (sAsg (eOp modD (eCB intC (aCons (eOp addD (eOp addD (eOp mulD (eName 7) (eName 7)) (eOp mulD (eC (.int 69621)) (eName 3))) (eGS 0)) aNil)) (eC (.int 2147483629))) (gN 7))
  (sRet (eOp modD (eOp fdivD (eOp modD (eCB intC (aCons (eOp addD (eOp mulD (eName 7) (eC (.int 48271))) (eName 3)) aNil)) (eC (.int 2147483647))) (eC (.int 11))) (eName 1))))))))))
theorem len_law_draw (rs : List Rv) (g : Option Nat) (Q : Rv → Option Nat → Prop) (h : C_law_draw rs g Q) : rs.length = 2 := by
  obtain ⟨b, n, rfl, _⟩ := h
  rfl
theorem spec_law_draw (rs : List Rv) (g : Option Nat) (Q : Rv → Option Nat → Prop) (h : C_law_draw rs g Q) : w_law_draw (startC 8 rs g) (endP Q) fun _ _ => False := by
  obtain ⟨b, n, rfl, rfl, hn, hb, hb2, hQ⟩ := h
  simp -dsimp only [rQ_, w_law_draw]
  intro l hl
  by_cases h0 : 0 < l
  · simp -dsimp only [rQ_, h0]
    intro l1 hl1
    refine ⟨by omega, fun l2 hl2 => ⟨CDiv2.g hb hb2.out, fdiv_nn hl2 hb, ?_⟩⟩
    exact hQ _ _ (fmod_b hb).1 (fmod_b hb).2 (by omega)
  · simp -dsimp only [rQ_, h0]
    refine ⟨n, rfl, by omega, fun s h1 h2 => ⟨by omega, n + 1, by omega, hn, fun ns hne hl1 sd h3 h4 => ?_⟩⟩
    have hs : s ≤ 2 ^ 40 := by omega
    have hln : (0 : Int) < ((ns.map PyData.int).length : Int) := by
      cases ns with
      | nil => exact absurd rfl hne
      | cons a r => simp only [List.map_cons, List.length_cons]; omega
    refine ⟨CMul2.l (by omega) (by omega), CMul2.r (by omega) (by omega), by omega, ixl_of (fmod_b hln).1 (fmod_b hln).2 fun x hx => ?_⟩
    obtain ⟨c, _, rfl⟩ := List.mem_map.mp hx
    refine ⟨CMul2.l (by omega) (by omega), ?_⟩
    try simp -dsimp only [rQ_]
    refine ⟨CMul2.r (by omega) (by omega), by omega, ?_⟩
    have hb1 := fmod_b (i := c * (2 * s + 3) + (sd + 40503 * s * s)) (b := 2147483647) (by omega)
    refine ⟨CMul2.l (by omega) (by omega), CMul2.l (by omega) (by omega), fun sd2 h5 h6 => ⟨by omega, CMul2.r (by omega) (by omega), by omega, CDiv2.s (by omega) (by omega) (by omega), by omega, ?_⟩⟩
    exact hQ _ _ (fmod_b hb).1 (fmod_b hb).2 (by omega)
abbrev C_law_of : Cn := fun rs g Q => ∃ (xs : List Px) (n : Nat), rs = [.gen, .d (.list xs)] ∧ g = some n ∧ n + 1 ≤ 2 ^ 40 ∧ xs ≠ [] ∧ xs.length ≤ 1000000 ∧ ∀ x ∈ xs, ∀ m : Nat, m ≤ n + 1 → Q (.d x) (some m)
def w_law_of : WS :=
  (sRet (eIxN 1 (eCallG C_law_draw (aCons (eName 0) (aCons (eLenN 1) aNil)))))
theorem len_law_of (rs : List Rv) (g : Option Nat) (Q : Rv → Option Nat → Prop) (h : C_law_of rs g Q) : rs.length = 2 := by
  obtain ⟨b, n, rfl, _⟩ := h
  rfl
theorem pow9000 {i : Int} (h0 : 0 ≤ i) (h : i ≤ 10000000) : Big i :=
  ⟨Nat.lt_of_lt_of_le (show i.natAbs < 2 ^ 24 by omega) (Nat.pow_le_pow_right (by decide) (by decide))⟩
theorem spec_law_of (rs : List Rv) (g : Option Nat) (Q : Rv → Option Nat → Prop) (h : C_law_of rs g Q) : w_law_of (startC 2 rs g) (endP Q) fun _ _ => False := by
  obtain ⟨xs, n, rfl, rfl, hn, hx, hl, hQ⟩ := h
  have h0 : (0 : Int) < (xs.length : Int) := by
    cases xs with
    | nil => exact absurd rfl hx
    | cons a r => simp only [List.length_cons]; omega
  simp -dsimp only [rQ_, w_law_of, C_law_draw]
  refine ⟨_, n, rfl, rfl, hn, h0, pow9000 (by omega) (by omega), fun r m h1 h2 h3 => ?_⟩
  try simp -dsimp only [rQ_]
  exact ixl_of h1 h2 fun x hx => hQ x hx m h3
abbrev C_law_ends : Cn := fun rs g Q => ∃ w t s x, rs = [.d (eW w), .d (.int t), .d (.int s)] ∧ Web.at w t x ∧ Q (.d (eT (rev x s))) g
def w_law_ends : WS :=
  (sSeq (sAsg (eIx (eIxN 0 (eC (.int 1))) (eName 1)) (gT 4 (gsCons (gN 3) (gsCons (gN 4) (gsCons (gN 5) (gsCons (gN 6) gsNil))))))
  (sRet (eIf (wB (eScL 2 (eqD false) (eC (.int 1)))) (eTup (aCons (eName 3) (aCons (eName 4) (aCons (eName 5) (aCons (eName 6) aNil))))) (eTup (aCons (eName 4) (aCons (eName 3) (aCons (eName 6) (aCons (eName 5) aNil))))))))
theorem len_law_ends (rs : List Rv) (g : Option Nat) (Q : Rv → Option Nat → Prop) (h : C_law_ends rs g Q) : rs.length = 3 := by
  obtain ⟨w, t, s, x, rfl, _⟩ := h
  rfl
theorem spec_law_ends (rs : List Rv) (g : Option Nat) (Q : Rv → Option Nat → Prop) (h : C_law_ends rs g Q) : w_law_ends (startC 7 rs g) (endP Q) fun _ _ => False := by
  obtain ⟨w, t, s, x, rfl, ⟨i, rfl, hx⟩, hQ⟩ := h
  simp -dsimp only [rQ_, w_law_ends, eW]
  rw [ixtn (map_of eT hx)]
  simp -dsimp only [rQ_, eT]
  unfold rev at hQ
  by_cases hs : s = 1
  · rw [if_pos hs] at hQ
    simp -dsimp only [rQ_, hs, beq_self_eq_true]
    exact ⟨by decide, hQ⟩
  · rw [if_neg hs] at hQ
    have hb : (s == 1) = false := by simpa using hs
    simp -dsimp only [rQ_, hb]
    exact ⟨by decide, hQ⟩
/-- the crossings out of a room over the first ties -/
def outsN (w : Web) (room : Int) (n : Nat) : List (Int × Int) := (List.range n).flatMap fun i => match w.ties[i]? with
  | some t => (if t.v = room then [((i : Int), 1)] else []) ++ (if t.w = room then [((i : Int), -1)] else [])
  | none => []
theorem outsN_succ (w : Web) (room : Int) (n : Nat) {t : Tie} (h : w.ties[n]? = some t) : outsN w room (n + 1) = outsN w room n ++ ((if t.v = room then [((n : Int), 1)] else []) ++ (if t.w = room then [((n : Int), -1)] else [])) := by
  unfold outsN
  rw [List.range_succ, List.flatMap_append]
  simp only [List.flatMap_cons, List.flatMap_nil, List.append_nil, h]
theorem outsN_len (w : Web) (room : Int) (n : Nat) : (outsN w room n).length ≤ 2 * n := by
  unfold outsN
  induction n with
  | zero => simp
  | succ n ih =>
    rw [List.range_succ, List.flatMap_append, List.length_append]
    simp only [List.flatMap_cons, List.flatMap_nil, List.append_nil]
    have : (match w.ties[n]? with
        | some t => (if t.v = room then [((n : Int), (1 : Int))] else []) ++ (if t.w = room then [((n : Int), (-1 : Int))] else [])
        | none => ([] : List (Int × Int))).length ≤ 2 := by
      split
      · split <;> split <;> simp
      · simp
    omega
def outs (w : Web) (room : Int) : List (Int × Int) := outsN w room w.ties.length
theorem outs_len (w : Web) (room : Int) : (outs w room).length ≤ 2 * w.ties.length := outsN_len w room _
theorem outs_ok {w : Web} {room : Int} {c : Int × Int} (h : c ∈ outs w room) : CrOk w c.1 c.2 ∧ ∀ x, Web.at w c.1 x → (rev x c.2).v = room := by
  unfold outs outsN at h
  obtain ⟨i, _, h⟩ := List.mem_flatMap.mp h
  cases e : w.ties[i]? with
  | none => rw [e] at h; cases h
  | some t =>
    rw [e] at h
    simp only [List.mem_append] at h
    have key : ∀ x, Web.at w (i : Int) x → x = t := fun x ⟨j, hj, hx⟩ => by
      have : i = j := by omega
      subst this
      rw [e] at hx
      exact (Option.some.inj hx).symm
    rcases h with h | h
    · split at h
      · simp only [List.mem_cons, List.not_mem_nil, or_false] at h
        subst h
        refine ⟨⟨⟨t, i, rfl, e⟩, .inl rfl⟩, fun x hx => ?_⟩
        rw [key x hx]
        simp only [rev, if_true]
        assumption
      · cases h
    · split at h
      · simp only [List.mem_cons, List.not_mem_nil, or_false] at h
        subst h
        refine ⟨⟨⟨t, i, rfl, e⟩, .inr rfl⟩, fun x hx => ?_⟩
        rw [key x hx]
        simp only [rev]
        rw [if_neg (by decide)]
        assumption
      · cases h
abbrev C_law_out : Cn := fun rs g Q => ∃ w r, rs = [.d (eW w), .d (.int r)] ∧ w.ties.length ≤ 1000 ∧ Q (.d (.list ((outs w r).map eC2))) g
def w_law_out : WS :=
  (sSeq (sAsg (eLst aNil) (gN 2))
  (sSeq (sFor (iRg1 (aCons (eCB lenC (aCons (eIxN 0 (eC (.int 1))) aNil)) aNil)) (gN 3)
  (sAsg (eAddN 2 (eLc (iTpl (eTup (aCons (eC (.int 1)) (aCons (eUn negD (eC (.int 1))) aNil)))) (gN 4) (wB (eScR 1 (eqD false) (eIx (eCallP C_law_ends (aCons (eName 0) (aCons (eName 3) (aCons (eName 4) aNil)))) (eC (.int 0))))) (eTup (aCons (eName 3) (aCons (eName 4) aNil))) [4])) (gN 2)))
  (sRet (eName 2))))
theorem len_law_out (rs : List Rv) (g : Option Nat) (Q : Rv → Option Nat → Prop) (h : C_law_out rs g Q) : rs.length = 2 := by
  obtain ⟨w, t, rfl, _⟩ := h
  rfl
theorem spec_law_out (rs : List Rv) (g : Option Nat) (Q : Rv → Option Nat → Prop) (h : C_law_out rs g Q) : w_law_out (startC 5 rs g) (endP Q) fun _ _ => False := by
  obtain ⟨w, r, rfl, hl, hQ⟩ := h
  simp -dsimp only [rQ_, w_law_out, C_law_ends]
  simp -dsimp only [rQ_, eW]
  refine ⟨by simp [smI], by simp [smI]; omega, ?_⟩
  refine forW_ind _ (fun i c => ∃ x4 x5, (∀ r : Rv, x5 = some r → ¬ r.mu) ∧ c = ⟨[some (.d (.tuple [.int w.rooms, .tuple (w.ties.map eT)])), some (.d (.int r)), some (.own ((outsN w r i).map eC2)), x4, x5], g⟩) (fun i x c hx hI R hR => ?_) (fun c hI => ?_) _ ⟨_, _, by simp, rfl⟩
  · obtain ⟨x4, x5, h5, rfl⟩ := hI
    obtain ⟨hi, rfl⟩ := rng_at hx
    have hi' : i < w.ties.length := by simpa using hi
    have ht : w.ties[i]? = some w.ties[i] := by simp [hi']
    have hat : Web.at w (0 + (i : Int)) w.ties[i] := ⟨i, by omega, ht⟩
    have hat2 : Web.at w (i : Int) w.ties[i] := ⟨i, rfl, ht⟩
    have hln := outsN_len w r i
    have hs := outsN_succ w r i ht
    simp -dsimp only [rQ_, lcH, lcW, wipeE]
    refine ⟨by simp [nown], by simpa [nown] using h5, w, _, _, _, rfl, hat, ?_⟩
    simp -dsimp only [rQ_, eT, rev]
    by_cases hv : w.ties[i].v = r
    · simp -dsimp only [rQ_, hv, beq_self_eq_true]
      refine ⟨by decide, w, _, _, _, rfl, hat, ?_⟩
      simp -dsimp only [rQ_, eT, rev]
      by_cases hw : w.ties[i].w = r
      · simp -dsimp only [rQ_, hw, beq_self_eq_true]
        refine ⟨by decide, by simp; omega, hR _ ⟨some (.d (.int (0 + i))), x5, h5, ?_⟩⟩
        rw [hs, hv, hw]
        simp [eC2]
      · have hb : (w.ties[i].w == r) = false := by simpa using hw
        simp -dsimp only [rQ_, hb]
        refine ⟨by simp; omega, hR _ ⟨some (.d (.int (0 + i))), x5, h5, ?_⟩⟩
        rw [hs, if_pos hv, if_neg hw]
        simp [eC2]
    · have hb : (w.ties[i].v == r) = false := by simpa using hv
      simp -dsimp only [rQ_, hb]
      refine ⟨w, _, _, _, rfl, hat, ?_⟩
      simp -dsimp only [rQ_, eT, rev]
      by_cases hw : w.ties[i].w = r
      · simp -dsimp only [rQ_, hw, beq_self_eq_true]
        refine ⟨by decide, by simp; omega, hR _ ⟨some (.d (.int (0 + i))), x5, h5, ?_⟩⟩
        rw [hs, if_neg hv, if_pos hw]
        simp [eC2]
      · have hb : (w.ties[i].w == r) = false := by simpa using hw
        simp -dsimp only [rQ_, hb]
        refine ⟨by simp; omega, hR _ ⟨some (.d (.int (0 + i))), x5, h5, ?_⟩⟩
        rw [hs, if_neg hv, if_neg hw]
        simp [eC2]
  · obtain ⟨x4, x5, h5, rfl⟩ := hI
    try simp -dsimp only [rQ_]
    unfold outs at hQ
    simp [rngX_length] at hQ ⊢
    exact hQ
end K
set_option Elab.async false
set_option maxRecDepth 100000
set_option linter.all false
set_option autoImplicit false
set_option maxHeartbeats 4000000
namespace K
open PySem L2 Dl
variable [TabF]
/-! ### drawn webs -/
abbrev C_law_web : Cn := fun rs g Q => ∃ (rooms ties gr : Int) (n : Nat), rs = [.gen, .d (.int rooms), .d (.int ties), .d (.int gr)] ∧ g = some n ∧ 1 ≤ rooms ∧ rooms ≤ 100 ∧ 0 ≤ ties ∧ ties ≤ 100 ∧ 0 < gr ∧ gr ≤ 1000 ∧ n + 700 ≤ 2 ^ 40 ∧
  ∀ (w : Web) (m : Nat), WebOk w gr → w.rooms = rooms → (w.ties.length : Int) = ties → m ≤ n + 700 → Q (.d (eW w)) (some m)
def w_law_web : WS :=
  (sSeq (sAsg (eLst aNil) (gN 4))
  (sSeq (sFor (iRg1 (aCons (eName 2) aNil)) (gN 5)
  (sSeq (sAsg (eIf (wB (eScR 1 ltD (eAddN 5 (eC (.int 1))))) (eCallG C_law_draw (aCons (eName 0) (aCons (eAddN 5 (eC (.int 1))) aNil))) (eCallG C_law_draw (aCons (eName 0) (aCons (eName 1) aNil)))) (gN 6))
  (sSeq (sAsg (eIf (wB (eScR 1 ltD (eAddN 5 (eC (.int 1))))) (eAddN 5 (eC (.int 1))) (eCallG C_law_draw (aCons (eName 0) (aCons (eName 1) aNil)))) (gN 7))
  (sSeq (sAsg (eLc (iRg1 (aCons (eC (.int 2)) aNil)) (gN 10) wYes (eOp mulD (eOp addD (eC (.int 1)) (eCallG C_law_draw (aCons (eName 0) (aCons (eName 3) aNil)))) (eCallG C_law_of (aCons (eName 0) (aCons (eLst (aCons (eC (.int 1)) (aCons (eC (.int 1)) (aCons (eC (.int 1)) (aCons (eUn negD (eC (.int 1))) aNil))))) aNil)))) [10]) (gL 2 (gsCons (gN 8) (gsCons (gN 9) gsNil))))
  (sExp (eApp 4 (eIf (wB (eSc (eqD false) (eCallG C_law_draw (aCons (eName 0) (aCons (eC (.int 2)) aNil))) (eC (.int 0)))) (eTup (aCons (eName 6) (aCons (eName 7) (aCons (eName 8) (aCons (eName 9) aNil))))) (eTup (aCons (eName 7) (aCons (eName 6) (aCons (eName 9) (aCons (eName 8) aNil))))))))))))
  (sRet (eTup (aCons (eName 1) (aCons (eCB tupC (aCons (eName 4) aNil)) aNil))))))
theorem len_law_web (rs : List Rv) (g : Option Nat) (Q : Rv → Option Nat → Prop) (h : C_law_web rs g Q) : rs.length = 4 := by
  obtain ⟨a, b, c, n, rfl, _⟩ := h
  rfl
theorem two_rng : rngX 0 (Int.toNat 2) = [.int 0, .int 1] := rfl
theorem sgn_of {x : Px} (h : x ∈ [PyData.int 1, PyData.int 1, PyData.int 1, PyData.int (-1)]) : ∃ s : Int, x = .int s ∧ (s = 1 ∨ s = -1) := by
  simp only [List.mem_cons, List.not_mem_nil, or_false] at h
  rcases h with h | h | h | h
  · exact ⟨1, h, .inl rfl⟩
  · exact ⟨1, h, .inl rfl⟩
  · exact ⟨1, h, .inl rfl⟩
  · exact ⟨-1, h, .inr rfl⟩
theorem ends_ok {p gr s : Int} (h0 : 0 ≤ p) (h1 : p < gr) (hs : s = 1 ∨ s = -1) : (1 + p) * s ≠ 0 ∧ ((1 + p) * s).natAbs ≤ gr := by
  rcases hs with rfl | rfl <;> omega
theorem spec_law_web (rs : List Rv) (g : Option Nat) (Q : Rv → Option Nat → Prop) (h : C_law_web rs g Q) : w_law_web (startC 11 rs g) (endP Q) fun _ _ => False := by
  obtain ⟨rooms, ties, gr, n, rfl, rfl, h1, h2, h3, h4, h5, h6, hn, hQ⟩ := h
  simp -dsimp only [rQ_, w_law_web, C_law_draw, C_law_of]
  refine ⟨by decide, by unfold smI; omega, ?_⟩
  refine forW_ind _ (fun i c => ∃ (l : List Tie) (m : Nat) (x5 x6 x7 x8 x9 x10 : Option Rv), l.length = i ∧ m ≤ n + 7 * i ∧ (∀ t ∈ l, TieOk rooms gr t) ∧ (∀ r : Rv, x10 = some r → ¬ r.mu) ∧ c = ⟨[some .gen, some (.d (.int rooms)), some (.d (.int ties)), some (.d (.int gr)), some (.own (l.map eT)), x5, x6, x7, x8, x9, x10], some m⟩) (fun i x c hx hI R hR => ?_) (fun c hI => ?_) _ ⟨[], n, _, _, _, _, _, _, rfl, by omega, by simp, by simp, rfl⟩
  · obtain ⟨l, m, x5, x6, x7, x8, x9, x10, hl, hm, ht, h10, rfl⟩ := hI
    obtain ⟨hi, rfl⟩ := rng_at hx
    have hi2 : i < 100 := by omega
    try simp -dsimp only [rQ_]
    by_cases hb : 0 + (i : Int) + 1 < rooms
    · simp -dsimp only [rQ_, hb]
      refine ⟨_, _, rfl, rfl, by omega, by omega, pow9000 (by omega) (by omega), fun v m1 hva hvb hm1 => ?_⟩
      try simp -dsimp only [rQ_]
      simp -dsimp only [rQ_, hb]
      have hv : 0 ≤ v ∧ v < rooms := by omega
      have hw : 0 ≤ 0 + (i : Int) + 1 ∧ 0 + (i : Int) + 1 < rooms := by omega
      generalize 0 + (i : Int) + 1 = w at hw hb ⊢
      have hm2 : m1 ≤ n + 7 * i + 2 := by omega
      refine ⟨by unfold smI; omega, by simpa [nown] using h10, ?_⟩
      simp -dsimp only [rQ_, two_rng, lcH, lcW, wipeE]
      refine ⟨_, _, rfl, rfl, by omega, by omega, pow9000 (by omega) (by omega), fun p m2 hpa hpb hm2 => ?_⟩
      try simp -dsimp only [rQ_]
      try simp -dsimp only [rQ_]
      refine ⟨by simp, _, m2, rfl, rfl, by omega, by simp, by simp, fun sx hsx m3 hm3 => ?_⟩
      obtain ⟨s1, rfl, hs1⟩ := sgn_of hsx
      try simp -dsimp only [rQ_]
      refine ⟨CMul2.r (by omega) (by omega), ?_⟩
      refine ⟨_, _, rfl, rfl, by omega, by omega, pow9000 (by omega) (by omega), fun q m4 hqa hqb hm4 => ?_⟩
      try simp -dsimp only [rQ_]
      try simp -dsimp only [rQ_]
      refine ⟨by simp, _, m4, rfl, rfl, by omega, by simp, by simp, fun sy hsy m5 hm5 => ?_⟩
      obtain ⟨s2, rfl, hs2⟩ := sgn_of hsy
      try simp -dsimp only [rQ_]
      refine ⟨CMul2.r (by omega) (by omega), ?_⟩
      refine ⟨_, _, rfl, rfl, by omega, by omega, pow9000 (by omega) (by omega), fun z m6 hza hzb hm6 => ?_⟩
      try simp -dsimp only [rQ_]
      have ep := ends_ok hpa hpb hs1
      have eq := ends_ok hqa hqb hs2
      generalize (1 + p) * s1 = e1 at ep ⊢
      generalize (1 + q) * s2 = e2 at eq ⊢
      try simp -dsimp only [rQ_]
      by_cases hz : z = 0
      · simp -dsimp only [rQ_, hz, beq_self_eq_true]
        refine ⟨by decide, by simp; omega, hR _ ⟨l ++ [⟨v, w, e1, e2⟩], m6, some (.d (.int (0 + i))), some (.d (.int v)), some (.d (.int w)), some (.d (.int e1)), some (.d (.int e2)), x10, by simp [hl], by omega, fun t h => ?_, h10, ?_⟩⟩
        · rcases List.mem_append.mp h with h | h
          · exact ht t h
          · simp only [List.mem_cons, List.not_mem_nil, or_false] at h
            subst h
            exact ⟨hv.1, hv.2, hw.1, hw.2, ep.1, ep.2, eq.1, eq.2⟩
        · simp [eT]
      · have hb2 : (z == 0) = false := by simpa using hz
        simp -dsimp only [rQ_, hb2]
        refine ⟨by decide, by simp; omega, hR _ ⟨l ++ [⟨w, v, e2, e1⟩], m6, some (.d (.int (0 + i))), some (.d (.int v)), some (.d (.int w)), some (.d (.int e1)), some (.d (.int e2)), x10, by simp [hl], by omega, fun t h => ?_, h10, ?_⟩⟩
        · rcases List.mem_append.mp h with h | h
          · exact ht t h
          · simp only [List.mem_cons, List.not_mem_nil, or_false] at h
            subst h
            exact ⟨hw.1, hw.2, hv.1, hv.2, eq.1, eq.2, ep.1, ep.2⟩
        · simp [eT]
    · simp -dsimp only [rQ_, hb]
      refine ⟨_, _, rfl, rfl, by omega, by omega, pow9000 (by omega) (by omega), fun v m0 hva hvb hm0 => ?_⟩
      try simp -dsimp only [rQ_]
      simp -dsimp only [rQ_, hb]
      refine ⟨_, _, rfl, rfl, by omega, by omega, pow9000 (by omega) (by omega), fun w m1 hwa hwb hm1 => ?_⟩
      try simp -dsimp only [rQ_]
      try simp -dsimp only [rQ_]
      have hv : 0 ≤ v ∧ v < rooms := by omega
      have hw : 0 ≤ w ∧ w < rooms := by omega
      have hm2 : m1 ≤ n + 7 * i + 2 := by omega
      refine ⟨by unfold smI; omega, by simpa [nown] using h10, ?_⟩
      simp -dsimp only [rQ_, two_rng, lcH, lcW, wipeE]
      refine ⟨_, _, rfl, rfl, by omega, by omega, pow9000 (by omega) (by omega), fun p m2 hpa hpb hm2 => ?_⟩
      try simp -dsimp only [rQ_]
      try simp -dsimp only [rQ_]
      refine ⟨by simp, _, m2, rfl, rfl, by omega, by simp, by simp, fun sx hsx m3 hm3 => ?_⟩
      obtain ⟨s1, rfl, hs1⟩ := sgn_of hsx
      try simp -dsimp only [rQ_]
      refine ⟨CMul2.r (by omega) (by omega), ?_⟩
      refine ⟨_, _, rfl, rfl, by omega, by omega, pow9000 (by omega) (by omega), fun q m4 hqa hqb hm4 => ?_⟩
      try simp -dsimp only [rQ_]
      try simp -dsimp only [rQ_]
      refine ⟨by simp, _, m4, rfl, rfl, by omega, by simp, by simp, fun sy hsy m5 hm5 => ?_⟩
      obtain ⟨s2, rfl, hs2⟩ := sgn_of hsy
      try simp -dsimp only [rQ_]
      refine ⟨CMul2.r (by omega) (by omega), ?_⟩
      refine ⟨_, _, rfl, rfl, by omega, by omega, pow9000 (by omega) (by omega), fun z m6 hza hzb hm6 => ?_⟩
      try simp -dsimp only [rQ_]
      have ep := ends_ok hpa hpb hs1
      have eq := ends_ok hqa hqb hs2
      generalize (1 + p) * s1 = e1 at ep ⊢
      generalize (1 + q) * s2 = e2 at eq ⊢
      try simp -dsimp only [rQ_]
      by_cases hz : z = 0
      · simp -dsimp only [rQ_, hz, beq_self_eq_true]
        refine ⟨by decide, by simp; omega, hR _ ⟨l ++ [⟨v, w, e1, e2⟩], m6, some (.d (.int (0 + i))), some (.d (.int v)), some (.d (.int w)), some (.d (.int e1)), some (.d (.int e2)), x10, by simp [hl], by omega, fun t h => ?_, h10, ?_⟩⟩
        · rcases List.mem_append.mp h with h | h
          · exact ht t h
          · simp only [List.mem_cons, List.not_mem_nil, or_false] at h
            subst h
            exact ⟨hv.1, hv.2, hw.1, hw.2, ep.1, ep.2, eq.1, eq.2⟩
        · simp [eT]
      · have hb2 : (z == 0) = false := by simpa using hz
        simp -dsimp only [rQ_, hb2]
        refine ⟨by decide, by simp; omega, hR _ ⟨l ++ [⟨w, v, e2, e1⟩], m6, some (.d (.int (0 + i))), some (.d (.int v)), some (.d (.int w)), some (.d (.int e1)), some (.d (.int e2)), x10, by simp [hl], by omega, fun t h => ?_, h10, ?_⟩⟩
        · rcases List.mem_append.mp h with h | h
          · exact ht t h
          · simp only [List.mem_cons, List.not_mem_nil, or_false] at h
            subst h
            exact ⟨hw.1, hw.2, hv.1, hv.2, eq.1, eq.2, ep.1, ep.2⟩
        · simp [eT]
  · obtain ⟨l, m, x5, x6, x7, x8, x9, x10, hl, hm, ht, h10, rfl⟩ := hI
    try simp -dsimp only [rQ_]
    rw [rngX_length] at hl hm
    exact ⟨by decide, hQ ⟨rooms, l⟩ m ⟨h1, ht⟩ rfl (by show (l.length : Int) = ties; omega) (by omega)⟩
end K
set_option Elab.async false
set_option maxRecDepth 100000
set_option linter.all false
set_option autoImplicit false
set_option maxHeartbeats 4000000
namespace K
open PySem L2 Dl
variable [TabF]
/-! ### ties of steps, and walks that lead on -/
def Web.tie (w : Web) (t : Int) : Tie := (w.ties[t.toNat]?).getD ⟨0, 0, 1, 1⟩
theorem Web.at.tie {w : Web} {t : Int} {x : Tie} (h : Web.at w t x) : w.tie t = x := by
  obtain ⟨i, rfl, e⟩ := h
  unfold Web.tie
  rw [Int.toNat_natCast, e]
  rfl
def Web.e (w : Web) (s : Stp) : Tie := rev (w.tie s.tie) s.side
theorem StepsOk.e {w : Web} {l : List Stp} (h : StepsOk w l) (wo : WebOk w 1000) {s : Stp} (hs : s ∈ l) : ∃ x, Web.at w s.tie x ∧ w.e s = rev x s.side ∧ TieOk w.rooms 1000 (w.e s) := by
  obtain ⟨x, hx⟩ := (h s hs).1
  refine ⟨x, hx, by unfold Web.e; rw [hx.tie], ?_⟩
  unfold Web.e
  rw [hx.tie]
  exact (wo.at hx).rev _
def cr (s : Stp) : Int × Int := (s.tie, s.side)
/-- the crossings lead on from r to h -/
inductive Ch (w : Web) (r : Int) : List (Int × Int) → Int → Prop
  | nil : Ch w r [] r
  | snoc {l : List (Int × Int)} {h : Int} (c : Int × Int) : Ch w r l h → (w.e ⟨c.1, c.2, 0⟩).v = h → Ch w r (l ++ [c]) (w.e ⟨c.1, c.2, 0⟩).w
theorem Ch.put {w : Web} {r h : Int} {l : List Stp} (H : Ch w r (l.map cr) h) {t s : Int} {y : Tie} (k : Int) (a : Web.at w t y) (e : (rev y s).v = h) : Ch w r ((l ++ [Stp.mk t s k]).map cr) (rev y s).w := by
  have q : w.e ⟨t, s, 0⟩ = rev y s := by unfold Web.e; rw [a.tie]
  rw [List.map_append, ← q]
  exact .snoc (t, s) H (by rw [q]; exact e)
abbrev Cends_of : Cn := fun rs g Q => ∃ w t s x, rs = [.d (eW w), .d (.int t), .d (.int s)] ∧ Web.at w t x ∧ Q (.d (eT (rev x s))) g
def wends_of : WS :=
  (sSeq (sAsg (eIx (eIxN 0 (eC (.int 1))) (eName 1)) (gT 4 (gsCons (gN 3) (gsCons (gN 4) (gsCons (gN 5) (gsCons (gN 6) gsNil))))))
  (sSeq (sIf (wB (eScL 2 (eqD false) (eC (.int 1)))) (sRet (eTup (aCons (eName 3) (aCons (eName 4) (aCons (eName 5) (aCons (eName 6) aNil)))))) sNil)
  (sRet (eTup (aCons (eName 4) (aCons (eName 3) (aCons (eName 6) (aCons (eName 5) aNil))))))))
theorem lenends_of (rs : List Rv) (g : Option Nat) (Q : Rv → Option Nat → Prop) (h : Cends_of rs g Q) : rs.length = 3 := by
  obtain ⟨w, t, s, x, rfl, _⟩ := h
  rfl
theorem specends_of (rs : List Rv) (g : Option Nat) (Q : Rv → Option Nat → Prop) (h : Cends_of rs g Q) : wends_of (startC 7 rs g) (endP Q) fun _ _ => False := by
  obtain ⟨w, t, s, x, rfl, ⟨i, rfl, hx⟩, hQ⟩ := h
  simp -dsimp only [rQ_, wends_of, eW]
  rw [ixtn (map_of eT hx)]
  simp -dsimp only [rQ_, eT]
  unfold rev at hQ
  by_cases hs : s = 1
  · rw [if_pos hs] at hQ
    simp -dsimp only [rQ_, hs, beq_self_eq_true]
    exact ⟨by decide, hQ⟩
  · rw [if_neg hs] at hQ
    have hb : (s == 1) = false := by simpa using hs
    simp -dsimp only [rQ_, hb]
    exact ⟨by decide, hQ⟩
end K
set_option Elab.async false
set_option maxRecDepth 100000
set_option linter.all false
set_option autoImplicit false
set_option maxHeartbeats 4000000
namespace K
open PySem L2 Dl
variable [TabF]
/-! ### drawn walks -/
theorem CrOk.tie {w : Web} {t s : Int} (h : CrOk w t s) : ∃ x, Web.at w t x := h.1
end K
set_option Elab.async false
set_option maxRecDepth 100000
set_option linter.all false
set_option autoImplicit false
set_option maxHeartbeats 4000000
namespace K
open PySem L2 Dl
variable [TabF]
theorem cut_len {α : Type} (xs : List α) (lo hi : Option Int) : (cutX xs lo hi).length ≤ xs.length := by
  unfold cutX
  rw [List.length_take, List.length_drop]
  omega
theorem filt (ns : List Int) : ns.filterMap (fun i => if 1000000000000000000 ≤ i then some (PyData.int i) else none) = (ns.filter fun i => decide (1000000000000000000 ≤ i)).map PyData.int := by
  induction ns with
  | nil => rfl
  | cons a l ih =>
    by_cases h : 1000000000000000000 ≤ a
    · rw [List.filterMap_cons_some (by simp [h]; rfl), List.filter_cons_of_pos (by simp [h]), List.map_cons, ih]
    · rw [List.filterMap_cons_none (by simp [h]), List.filter_cons_of_neg (by simp [h]), ih]
abbrev C_law_begun : Cn := fun rs g Q => ∃ (ns : List Int) (k : Int), rs = [.scr ns, .d (.int k)] ∧ g = none ∧ 0 ≤ k ∧ k ≤ 100 ∧ ns.length ≤ 100 ∧ Q .gen (some 0)
def w_law_begun : WS :=
  (sSeq (sAsg (eOp addD (eSlS 0 (oSome (eName 1)) oNone) (eSlS 0 oNone (oSome (eName 1)))) (gN 2))
  (sSeq (sAsg (eLc (iScr 0) (gN 3) (wB (eScL 3 geD (eOp powD (eC (.int 10)) (eC (.int 18))))) (eName 3) [3]) (gN 4))
  (sSeq (sAsg (eOp addD (eC (.int 59)) (eOp mulD (eC (.int 6)) (eName 1))) (gN 5))
  (sSeq (sFor (iLst (eName 2)) (gN 3)
  (sAsg (eOp modD (eCB intC (aCons (eOp addD (eOp mulD (eName 5) (eC (.int 48271))) (eName 3)) aNil)) (eC (.int 2147483647))) (gN 5)))
  (sRetG (eIf (wB (eScL 1 ltD (eLenN 4))) (eIxN 4 (eName 1)) (eC (.int 0))) (eName 5) (eAddN 2 (eLst (aCons (eOp addD (eOp mulD (eC (.int 43)) (eName 1)) (eC (.int 17))) aNil))) (eC (.int 0)))))))
theorem len_law_begun (rs : List Rv) (g : Option Nat) (Q : Rv → Option Nat → Prop) (h : C_law_begun rs g Q) : rs.length = 2 := by
  obtain ⟨a, b, rfl, _⟩ := h
  rfl
theorem spec_law_begun (rs : List Rv) (g : Option Nat) (Q : Rv → Option Nat → Prop) (h : C_law_begun rs g Q) : w_law_begun (startC 6 rs g) (endP Q) fun _ _ => False := by
  obtain ⟨ns, k, rfl, rfl, h0, h1, hl, hQ⟩ := h
  simp only [w_law_begun, pow18]
  try simp -dsimp only [rQ_]
  have hc1 := cut_len ns (some k) none
  have hc2 := cut_len ns none (some k)
  rw [← List.map_append]
  have hcl : (cutX ns (some k) none ++ cutX ns none (some k)).length ≤ 200 := by simp; omega
  refine ⟨by simp; omega, by simp [nown], ?_⟩
  generalize cutX ns (some k) none ++ cutX ns none (some k) = cs at hcl ⊢
  refine lcW_fma PyData.int (fun i => if 1000000000000000000 ≤ i then some (.int i) else none) ns [] (fun i hi R S hR hS => ?_) (by simp; omega) ?_
  · simp -dsimp only [rQ_, Turn1, wipeE]
    by_cases hg : 1000000000000000000 ≤ i
    · simp -dsimp only [rQ_, hg]
      exact hR _ (by simp [hg])
    · simp -dsimp only [rQ_, hg]
      exact hS (by simp [hg])
  rw [List.nil_append, show ns.filterMap (fun i => if 1000000000000000000 ≤ i then some (PyData.int i) else none) = (ns.filter fun i => decide (1000000000000000000 ≤ i)).map PyData.int from filt ns]
  have hgr : ∀ i ∈ ns.filter fun i => decide (1000000000000000000 ≤ i), (0 : Int) ≤ i := fun i hi => by
    have := (List.mem_filter.mp hi).2
    simp at this
    omega
  have hgl : (ns.filter fun i => decide (1000000000000000000 ≤ i)).length ≤ 100 := Nat.le_trans (List.length_filter_le _ _) hl
  generalize (ns.filter fun i => decide (1000000000000000000 ≤ i)) = gr at hgr hgl ⊢
  try simp -dsimp only [rQ_]
  refine ⟨CMul2.l (by decide) (by decide), ?_⟩
  refine forW_ind _ (fun i c => ∃ (b : Int) (x3 : Option Rv), 0 ≤ b ∧ b < 2147483647 ∧ c = ⟨[some (.scr ns), some (.d (.int k)), some (.d (.list (cs.map .int))), x3, some (.own (gr.map .int)), some (.d (.int b))], none⟩) (fun i x c hx hI R hR => ?_) (fun c hI => ?_) _ ⟨59 + 6 * k, _, by omega, by omega, rfl⟩
  · obtain ⟨b, x3, hb0, hb1, rfl⟩ := hI
    obtain ⟨a, ha, rfl⟩ := map_at hx
    try simp -dsimp only [rQ_]
    have hf := fmod_b (i := b * 48271 + a) (b := 2147483647) (by omega)
    exact ⟨CMul2.r (by omega) (by omega), by decide, hR _ ⟨_, _, hf.1, hf.2, rfl⟩⟩
  · obtain ⟨b, x3, hb0, hb1, rfl⟩ := hI
    try simp -dsimp only [rQ_]
    have fin : 0 ≤ b ∧ b < 2147483647 ∧ CMul2 43 k ∧ 1 ≤ 1000000 ∧ (cs.map PyData.int).length + 1 ≤ 1000000 ∧ ∃ ns : List Int, cs.map PyData.int ++ [PyData.int (43 * k + 17)] = ns.map PyData.int ∧ ¬ns = [] ∧ ns.length ≤ 1000 ∧ Q Rv.gen (some 0) :=
      ⟨hb0, hb1, CMul2.l (by decide) (by decide), by decide, by simp; omega, cs ++ [43 * k + 17], by simp, by simp, by simp; omega, hQ⟩
    by_cases hk : k < ((gr.map PyData.int).length : Int)
    · rw [if_pos hk]
      refine ixl_of h0 hk fun x hx => ?_
      obtain ⟨a, ha, rfl⟩ := List.mem_map.mp hx
      exact ⟨hgr a ha, fin⟩
    · rw [if_neg hk]
      exact ⟨by decide, fin⟩
end K
set_option Elab.async false
set_option maxRecDepth 100000
set_option linter.all false
set_option autoImplicit false
set_option maxHeartbeats 4000000
namespace K
open PySem L2 Dl
variable [TabF]
/-! ### plain walks, as a function -/
/-- a kept row: what is left ahead of a crossing, and the crossing -/
structure Kp where
  r : Int
  t : Int
  s : Int
def nums (k : Wlk) : List Int := k.k :: k.steps.map Stp.k
theorem nums_len (k : Wlk) : (nums k).length = k.steps.length + 1 := by simp [nums]
def Kp.c (x : Kp) : Int × Int := (x.t, x.s)
def fits (K : List Kp) (r : Int) (s : Stp) : Bool := match K.getLast? with
  | some x => decide (r = 0) && (decide (x.t = s.tie) && decide (x.s = -s.side))
  | none => false
def lastR (K : List Kp) : Int := match K.getLast? with
  | some x => x.r
  | none => 0
def restOf (w : Web) (n : Int) (s : Stp) : Int := n.fmod ((w.e s).p.natAbs : Int)
def manyOf (w : Web) (n : Int) (s : Stp) : Int := (n - restOf w n s).fdiv (w.e s).p
def nextN (w : Web) (n : Int) (s : Stp) : Int := (w.e s).q * manyOf w n s + s.k
/-- going over one step -/
def go1 (w : Web) (a : List Kp × Int) (s : Stp) : List Kp × Int :=
  if fits a.1 (restOf w a.2 s) s = true then (a.1.dropLast, nextN w a.2 s + lastR a.1) else (a.1 ++ [⟨restOf w a.2 s, s.tie, s.side⟩], nextN w a.2 s)
def goW (w : Web) (k : Wlk) : List Kp × Int := k.steps.foldl (go1 w) ([], k.k)
/-- the walk with these numbers and crossings -/
def mkW (room : Int) (ns : List Int) (cs : List (Int × Int)) : Wlk := ⟨room, ns.headD 0, (cs.zip ns.tail).map fun p => ⟨p.1.1, p.1.2, p.2⟩⟩
def endW (room : Int) (a : List Kp × Int) : Wlk := mkW room (a.1.map Kp.r ++ [a.2]) (a.1.map Kp.c)
def plainW (w : Web) (k : Wlk) : Wlk := endW k.room (goW w k)
theorem mkW_nums {room : Int} {ns : List Int} {cs : List (Int × Int)} (h : ns.length = cs.length + 1) : nums (mkW room ns cs) = ns := by
  cases ns with
  | nil => simp at h
  | cons a l =>
    have hl : l.length = cs.length := by simpa using h
    simp only [mkW, nums, List.headD_cons, List.tail_cons, List.map_map]
    congr 1
    rw [show (Stp.k ∘ fun p : (Int × Int) × Int => (⟨p.1.1, p.1.2, p.2⟩ : Stp)) = Prod.snd from rfl]
    rw [List.map_snd_zip (by omega)]
theorem mkW_cr {room : Int} {ns : List Int} {cs : List (Int × Int)} (h : ns.length = cs.length + 1) : (mkW room ns cs).steps.map cr = cs := by
  simp only [mkW, List.map_map]
  rw [show (cr ∘ fun p : (Int × Int) × Int => (⟨p.1.1, p.1.2, p.2⟩ : Stp)) = Prod.fst from rfl]
  rw [List.map_fst_zip (by rw [List.length_tail]; omega)]
theorem mkW_len {room : Int} {ns : List Int} {cs : List (Int × Int)} (h : ns.length = cs.length + 1) : (mkW room ns cs).steps.length = cs.length := by
  rw [← List.length_map (f := cr), mkW_cr h]
theorem wlk_ext {a b : Wlk} (h1 : a.room = b.room) (h2 : nums a = nums b) (h3 : a.steps.map cr = b.steps.map cr) : a = b := by
  obtain ⟨r, k, l⟩ := a
  obtain ⟨r', k', m⟩ := b
  simp only [nums, List.cons.injEq] at h1 h2 h3
  obtain ⟨rfl, h4⟩ := h2
  subst h1
  congr 1
  induction l generalizing m with
  | nil => cases m with
    | nil => rfl
    | cons b m => simp at h3
  | cons a l ih => cases m with
    | nil => simp at h3
    | cons b m =>
      simp only [List.map_cons, List.cons.injEq] at h3 h4
      rw [ih m h3.2 h4.2]
      obtain ⟨t, s, k⟩ := a
      obtain ⟨t', s', k'⟩ := b
      have e1 := h3.1
      have e2 := h4.1
      simp only [cr, Prod.mk.injEq] at e1 e2
      rw [e1.1, e1.2, e2]
theorem mkW_self (k : Wlk) : mkW k.room (nums k) (k.steps.map cr) = k :=
  wlk_ext rfl (mkW_nums (by simp [nums])) (mkW_cr (by simp [nums]))
theorem endW_len (room : Int) (a : List Kp × Int) : (endW room a).steps.length = a.1.length := by
  unfold endW
  rw [mkW_len (by simp), List.length_map]
/-- the kept rows: rests in range, no row strikes the one ahead of it -/
inductive Red (w : Web) : List Kp → Prop
  | nil : Red w []
  | snoc {K : List Kp} (x : Kp) : Red w K → 0 ≤ x.r → x.r < ((w.e ⟨x.t, x.s, 0⟩).p.natAbs : Int) → fits K x.r ⟨x.t, x.s, 0⟩ = false → Red w (K ++ [x])
theorem e_k {w : Web} {t s k k' : Int} : w.e ⟨t, s, k⟩ = w.e ⟨t, s, k'⟩ := rfl
theorem Red.drop {w : Web} {K : List Kp} (h : Red w K) : Red w K.dropLast := by
  cases h with
  | nil => exact .nil
  | snoc x h _ _ _ => rw [List.dropLast_concat]; exact h
theorem Red.go {w : Web} {a : List Kp × Int} {s : Stp} (h : Red w a.1) (hp : (w.e s).p ≠ 0) : Red w (go1 w a s).1 := by
  unfold go1
  split
  · exact h.drop
  · rename_i hf
    have hb := fmod_b (i := a.2) (b := ((w.e s).p.natAbs : Int)) (by omega)
    exact .snoc ⟨restOf w a.2 s, s.tie, s.side⟩ h hb.1 hb.2 (by rw [Bool.not_eq_true] at hf; exact hf)
theorem rest_small {w : Web} {n : Int} {s : Stp} (h0 : 0 ≤ n) (h1 : n < ((w.e s).p.natAbs : Int)) : restOf w n s = n ∧ manyOf w n s = 0 := by
  have e : restOf w n s = n := by
    unfold restOf
    rw [Int.fmod_eq_emod_of_nonneg _ (by omega)]
    exact Int.emod_eq_of_lt h0 h1
  refine ⟨e, ?_⟩
  unfold manyOf
  rw [e, Int.sub_self, Int.zero_fdiv]
theorem endW_snoc (room : Int) (K : List Kp) (x : Kp) (n : Int) : (endW room (K ++ [x], n)).k = (endW room (K, x.r)).k ∧ (endW room (K ++ [x], n)).steps = (endW room (K, x.r)).steps ++ [⟨x.t, x.s, n⟩] := by
  unfold endW mkW
  simp only [List.map_append, List.map_cons, List.map_nil]
  cases K with
  | nil => exact ⟨rfl, rfl⟩
  | cons a K =>
    refine ⟨rfl, ?_⟩
    simp only [List.map_cons, List.cons_append, List.tail_cons]
    rw [show a.c :: (K.map Kp.c ++ [x.c]) = (a.c :: K.map Kp.c) ++ [x.c] from rfl, List.zip_append (by simp)]
    simp [Kp.c]
end K
set_option Elab.async false
set_option maxRecDepth 100000
set_option linter.all false
set_option autoImplicit false
set_option maxHeartbeats 4000000
namespace K
open PySem L2 Dl
variable [TabF]
/-! ### the program's plain walks -/
abbrev Ccrossings_of : Cn := fun rs g Q => ∃ k : Wlk, rs = [.d (eK k)] ∧ k.steps.length ≤ 1000 ∧ Q (.own ((k.steps.map cr).map eC2)) g
def wcrossings_of : WS :=
  (sRet (eLc (iTpl (eIxN 0 (eC (.int 2)))) (gT 3 (gsCons (gN 1) (gsCons (gN 2) (gsCons (gN 3) gsNil)))) wYes (eTup (aCons (eName 1) (aCons (eName 2) aNil))) [1, 2, 3]))
theorem lencrossings_of (rs : List Rv) (g : Option Nat) (Q : Rv → Option Nat → Prop) (h : Ccrossings_of rs g Q) : rs.length = 1 := by
  obtain ⟨k, rfl, _⟩ := h
  rfl
theorem speccrossings_of (rs : List Rv) (g : Option Nat) (Q : Rv → Option Nat → Prop) (h : Ccrossings_of rs g Q) : wcrossings_of (startC 4 rs g) (endP Q) fun _ _ => False := by
  obtain ⟨k, rfl, hl, hQ⟩ := h
  simp -dsimp only [rQ_, wcrossings_of, eK]
  refine ⟨by simp [nown], ?_⟩
  refine lcW_mpa eS (fun s => eC2 (cr s)) _ (fun s hs R S hR => ?_) (by omega) ?_
  · simp -dsimp only [rQ_, Turn1, wipeE, eS]
    exact ⟨by decide, hR⟩
  try simp -dsimp only [rQ_]
  rw [List.map_map] at hQ
  exact hQ
theorem zip_map {α β : Type} (f : α → Px) (h : β → Px) : ∀ (xs : List α) (ys : List β), zipX (xs.map f) (ys.map h) = (xs.zip ys).map fun p => PyData.tuple [f p.1, h p.2]
  | [], ys => by cases ys <;> simp [zipX]
  | x :: xs, [] => by simp [zipX]
  | x :: xs, y :: ys => by simp [zipX, zip_map f h xs ys]
abbrev Cwalk_with : Cn := fun rs g Q => ∃ (r : Int) (ns : List Int) (cs : List (Int × Int)), rs = [.d (.int r), .d (.list (ns.map .int)), .d (.list (cs.map eC2))] ∧ ns ≠ [] ∧ ns.length ≤ 2000 ∧ Q (.d (eK (mkW r ns cs))) g
def wwalk_with : WS :=
  (sSeq (sAsg (eLc (iZp (aCons (eName 2) (aCons (eSlN 1 (oSome (eC (.int 1))) oNone) aNil))) (gT 2 (gsCons (gT 2 (gsCons (gN 5) (gsCons (gN 6) gsNil))) (gsCons (gN 4) gsNil))) wYes (eTup (aCons (eName 5) (aCons (eName 6) (aCons (eName 4) aNil)))) [4, 5, 6]) (gN 3))
  (sRet (eTup (aCons (eName 0) (aCons (eIxN 1 (eC (.int 0))) (aCons (eCB tupC (aCons (eName 3) aNil)) aNil))))))
theorem lenwalk_with (rs : List Rv) (g : Option Nat) (Q : Rv → Option Nat → Prop) (h : Cwalk_with rs g Q) : rs.length = 3 := by
  obtain ⟨k, _, _, rfl, _⟩ := h
  rfl
theorem specwalk_with (rs : List Rv) (g : Option Nat) (Q : Rv → Option Nat → Prop) (h : Cwalk_with rs g Q) : wwalk_with (startC 7 rs g) (endP Q) fun _ _ => False := by
  obtain ⟨r, ns, cs, rfl, hn, hl, hQ⟩ := h
  obtain ⟨a, l, rfl⟩ : ∃ a l, ns = a :: l := by
    cases ns with
    | nil => exact absurd rfl hn
    | cons a l => exact ⟨a, l, rfl⟩
  simp -dsimp only [rQ_, wwalk_with]
  rw [slD_l]
  try simp -dsimp only [rQ_]
  rw [show cutX (PyData.int a :: l.map .int) (some 1) none = l.map .int from cut_tl (i := 1) _ (by simp)]
  rw [zip_map]
  refine ⟨by simp [nown], ?_⟩
  refine lcW_mpa (fun p : (Int × Int) × Int => PyData.tuple [eC2 p.1, .int p.2]) (fun p => eS ⟨p.1.1, p.1.2, p.2⟩) _ (fun s hs R S hR => ?_) (by simp at hl ⊢; omega) ?_
  · simp -dsimp only [rQ_, Turn1, wipeE, eC2]
    exact ⟨by decide, hR⟩
  try simp -dsimp only [rQ_]
  refine ⟨by decide, ?_⟩
  simp only [eK, mkW, List.map_map] at hQ
  exact hQ
end K
set_option Elab.async false
set_option maxRecDepth 100000
set_option linter.all false
set_option autoImplicit false
set_option maxHeartbeats 4000000
namespace K
open PySem L2 Dl
variable [TabF]
theorem eqv_2 {a b c d : Int} : PyData.eqv (.tuple [.int a, .int b]) (.tuple [.int c, .int d]) = (decide (a = c) && decide (b = d)) := by
  simp only [PyData.eqv, PyData.eqvAll, Bool.and_true]
  rfl
theorem shp2 {n : Nat} {a b : Int} : Shp (n + 1) (.tuple [.int a, .int b]) := .tup fun y hy => by
  simp only [List.mem_cons, List.not_mem_nil, or_false] at hy
  rcases hy with rfl | rfl <;> exact .int _
theorem eqf_2 {a b c d : Int} {P : Rv → Prop} : eqD false (.tuple [.int a, .int b]) (.tuple [.int c, .int d]) P = P (.d (.bool (decide (a = c) && decide (b = d)))) := by
  have h1 : SeqAt.shaped (.tuple [.int a, .int b] : Px) = true := (shp2 (n := 1)).sh
  have h2 : SeqAt.shaped (.tuple [.int c, .int d] : Px) = true := (shp2 (n := 1)).sh
  simp only [eqD, h1, h2, eqv_2, true_and]
  rfl
def eP (x : Kp) : Px := .tuple [.int x.t, .int x.s, .int x.r]
theorem cut3_2 {a b c : Px} : cutX [a, b, c] none (some 2) = [a, b] := cut_hd (i := 2) _ (by simp)
abbrev Cgo_along : Cn := fun rs g Q => ∃ (w : Web) (k : Wlk), rs = [.d (eW w), .d (eK k)] ∧ WebOk w 1000 ∧ StepsOk w k.steps ∧ k.steps.length ≤ 1000 ∧
  ∀ (ms xs : List Px), Q (.d (.tuple [eK (plainW w k), .tuple ms, .list xs])) g
def wgo_along : WS :=
  (sSeq (sAsg (eName 1) (gT 3 (gsCons (gN 2) (gsCons (gN 3) (gsCons (gN 4) gsNil)))))
  (sSeq (sAsg (eLst aNil) (gN 5))
  (sSeq (sAsg (eLst aNil) (gN 6))
  (sSeq (sAsg (eLst aNil) (gN 7))
  (sSeq (sFor (iTpl (eName 4)) (gT 3 (gsCons (gN 8) (gsCons (gN 9) (gsCons (gN 10) gsNil))))
  (sSeq (sAsg (eCallP Cends_of (aCons (eName 0) (aCons (eName 8) (aCons (eName 9) aNil)))) (gT 4 (gsCons (gN 11) (gsCons (gN 11) (gsCons (gN 12) (gsCons (gN 13) gsNil))))))
  (sSeq (sAsg (eOp modD (eName 3) (eCB absC (aCons (eName 12) aNil))) (gN 14))
  (sSeq (sAsg (eOp fdivD (eOp subD (eName 3) (eName 14)) (eName 12)) (gN 15))
  (sSeq (sAsg (eOp addD (eOp mulD (eName 13) (eName 15)) (eName 10)) (gN 3))
  (sSeq (sIf (wB (eScL 15 (eqD true) (eC (.int 0)))) (sSeq (sExp (eApp 6 (eTup (aCons (eC (.str "carry")) (aCons (eOp addD (eLenN 5) (eC (.int 1))) (aCons (eName 15) aNil))))))
  (sExp (eApp 7 (eName 3)))) sNil)
  (sIf (wAnd (wB (eScL 14 (eqD false) (eC (.int 0)))) (wAnd (wTruN 5) (wB (eSc (eqD false) (eSl (eIxN 5 (eUn negD (eC (.int 1)))) oNone (oSome (eC (.int 2)))) (eTup (aCons (eName 8) (aCons (eUn negD (eName 9)) aNil))))))) (sSeq (sExp (eApp 6 (eTup (aCons (eC (.str "strike")) (aCons (eLenN 5) aNil)))))
  (sSeq (sAug 3 iaddD (eIx (ePop 5) (eC (.int 2))))
  (sExp (eApp 7 (eName 3))))) (sExp (eApp 5 (eTup (aCons (eName 8) (aCons (eName 9) (aCons (eName 14) aNil)))))))))))))
  (sSeq (sAsg (eOp addD (eLc (iLst (eName 5)) (gT 3 (gsCons (gN 11) (gsCons (gN 11) (gsCons (gN 14) gsNil)))) wYes (eName 14) [11, 11, 14]) (eLst (aCons (eName 3) aNil))) (gN 16))
  (sSeq (sAsg (eCallP Cwalk_with (aCons (eName 2) (aCons (eName 16) (aCons (eLc (iLst (eName 5)) (gT 3 (gsCons (gN 8) (gsCons (gN 9) (gsCons (gN 11) gsNil)))) wYes (eTup (aCons (eName 8) (aCons (eName 9) aNil))) [8, 9, 11]) aNil)))) (gN 17))
  (sRet (eTup (aCons (eName 17) (aCons (eCB tupC (aCons (eName 6) aNil)) (aCons (eName 7) aNil))))))))))))
theorem lengo_along (rs : List Rv) (g : Option Nat) (Q : Rv → Option Nat → Prop) (h : Cgo_along rs g Q) : rs.length = 2 := by
  obtain ⟨w, k, rfl, _⟩ := h
  rfl
theorem go1_f {w : Web} {K : List Kp} {n : Int} {s : Stp} (h : fits K (restOf w n s) s = false) : go1 w (K, n) s = (K ++ [⟨restOf w n s, s.tie, s.side⟩], nextN w n s) := by
  unfold go1
  rw [if_neg (by rw [h]; decide)]
theorem go1_t {w : Web} {K : List Kp} {x : Kp} {n : Int} {s : Stp} (h : fits (K ++ [x]) (restOf w n s) s = true) : go1 w (K ++ [x], n) s = (K, nextN w n s + x.r) := by
  unfold go1
  rw [if_pos h]
  simp [lastR]
theorem specgo_along (rs : List Rv) (g : Option Nat) (Q : Rv → Option Nat → Prop) (h : Cgo_along rs g Q) : wgo_along (startC 18 rs g) (endP Q) fun _ _ => False := by
  obtain ⟨w, k, rfl, wo, hs, hl, hQ⟩ := h
  simp -dsimp only [rQ_, wgo_along, Cends_of, Cwalk_with, eK]
  refine ⟨by decide, by decide, by decide, ?_⟩
  refine forW_ind _ (fun i c => ∃ (kept : List Kp) (num : Int) (ms xs : List Px) (x8 x9 x10 x11 x12 x13 x14 x15 : Option Px), kept.length ≤ i ∧ ms.length ≤ 2 * i ∧ xs.length ≤ 2 * i ∧ (k.steps.take i).foldl (go1 w) ([], k.k) = (kept, num) ∧ c = ⟨[some (.d (eW w)), some (.d (eK k)), some (.d (.int k.room)), some (.d (.int num)), some (.d (.tuple (k.steps.map eS))), some (.own (kept.map eP)), some (.own ms), some (.own xs), x8.map .d, x9.map .d, x10.map .d, x11.map .d, x12.map .d, x13.map .d, x14.map .d, x15.map .d, none, none], g⟩) (fun i x c hx hI R hR => ?_) (fun c hI => ?_) _ ⟨[], k.k, [], [], none, none, none, none, none, none, none, none, by simp, by simp, by simp, by simp, rfl⟩
  · obtain ⟨kept, num, ms, xs, x8, x9, x10, x11, x12, x13, x14, x15, hkl, hml, hxl, hgo0, rfl⟩ := hI
    obtain ⟨s, hsi, rfl⟩ := map_at hx
    have hmem : s ∈ k.steps := List.mem_of_getElem? hsi
    obtain ⟨y, hy, he, hok⟩ := hs.e wo hmem
    have hi : i < k.steps.length := (List.getElem?_eq_some_iff.mp hsi).1
    have hgo : (k.steps.take (i + 1)).foldl (go1 w) ([], k.k) = go1 w (kept, num) s := by
      rw [List.take_succ, hsi, List.foldl_append, hgo0]
      rfl
    simp -dsimp only [rQ_, eS]
    refine ⟨w, s.tie, s.side, y, rfl, hy, ?_⟩
    simp -dsimp only [rQ_, eT]
    rw [he] at hok
    have hrest : restOf w num s = num.fmod ((rev y s.side).p.natAbs : Int) := by unfold restOf; rw [he]
    have hnx : nextN w num s = (rev y s.side).q * ((num - num.fmod ((rev y s.side).p.natAbs : Int)).fdiv (rev y s.side).p) + s.k := by
      unfold nextN manyOf
      rw [hrest, he]
    have hp0 := hok.p0
    have hp1 := hok.p1
    generalize (rev y s.side).p = p at hp0 hp1 hrest hnx ⊢
    have hq1 := hok.q1
    generalize (rev y s.side).q = q at hq1 hnx ⊢
    refine ⟨by omega, CDiv2.s hp0 (by omega) (by omega), ?_⟩
    generalize (num - num.fmod (p.natAbs : Int)).fdiv p = many at hnx ⊢
    generalize num.fmod (p.natAbs : Int) = rest at hrest hnx ⊢
    refine ⟨CMul2.l (by omega) (by omega), ?_⟩
    by_cases hm0 : many = 0
    · have hb0 : (many == 0) = true := by simpa using hm0
      simp -dsimp only [rQ_, hb0, Bool.not_true]
      have hmm : ms.length ≤ 2 * i + 1 := by omega
      have hxx : xs.length ≤ 2 * i + 1 := by omega
      have hm2 : ms.length ≤ 2 * (i + 1) := by omega
      have hx2 : xs.length ≤ 2 * (i + 1) := by omega
      by_cases hr0 : rest = 0
      · simp -dsimp only [rQ_, hr0, beq_self_eq_true]
        by_cases hk : kept = []
        · subst hk
          simp -dsimp only [rQ_, List.map_nil, List.isEmpty_nil, Bool.not_true]
          rw [← hr0]
          have hf : fits [] rest s = false := rfl
          refine ⟨by decide, hR _ ⟨[⟨rest, s.tie, s.side⟩], q * many + s.k, _, _, some (.int s.tie), some (.int s.side), some (.int s.k), some (.int (rev y s.side).w), some (.int p), some (.int q), some (.int rest), some (.int many), by simp, hm2, hx2, ?_, by simp [eP]⟩⟩
          rw [hgo, go1_f (by rw [hrest]; exact hf), hrest, hnx]
          rfl
        · obtain ⟨ys, r, rfl⟩ : ∃ ys r, kept = ys ++ [r] := ⟨_, _, (List.dropLast_concat_getLast hk).symm⟩
          have he2 : ((ys ++ [r]).map eP).isEmpty = false := by simp
          simp -dsimp only [rQ_, he2, Bool.not_false]
          simp only [List.map_append, List.map_cons, List.map_nil, ixll]
          rw [show eP r = .tuple [.int r.t, .int r.s, .int r.r] from rfl]
          simp -dsimp only [rQ_, slD_t, cut3_2, eqf_2]
          refine ⟨by decide, ?_⟩
          have hft : fits (ys ++ [r]) rest s = (decide (r.t = s.tie) && decide (r.s = -s.side)) := by
            unfold fits
            simp [hr0]
          generalize hb : (decide (r.t = s.tie) && decide (r.s = -s.side)) = b at hft ⊢
          cases b
          · simp -dsimp only [rQ_]
            rw [← hr0]
            refine ⟨by decide, by simp at hkl ⊢; omega, hR _ ⟨(ys ++ [r]) ++ [⟨rest, s.tie, s.side⟩], q * many + s.k, _, _, some (.int s.tie), some (.int s.side), some (.int s.k), some (.int (rev y s.side).w), some (.int p), some (.int q), some (.int rest), some (.int many), by simp at hkl ⊢; omega, hm2, hx2, ?_, by simp [eP]⟩⟩
            rw [hgo, go1_f (by rw [hrest]; exact hft), hrest, hnx]
          · simp -dsimp only [rQ_]
            refine ⟨by decide, by first | omega | (simp at hmm ⊢; omega), ?_⟩
            rw [show ∀ (l : List Px) (a : Px), (l ++ [a])[(l ++ [a]).length - 1]? = some a from fun l a => by simp, List.dropLast_concat]
            try simp -dsimp only [rQ_]
            refine ⟨by first | omega | (simp at hxx ⊢; omega), hR _ ⟨ys, q * many + s.k + r.r, _, _, some (.int s.tie), some (.int s.side), some (.int s.k), some (.int (rev y s.side).w), some (.int p), some (.int q), some (.int 0), some (.int many), by simp at hkl; omega, by first | (simp; omega) | (simp at hmm ⊢; omega), by first | (simp; omega) | (simp at hxx ⊢; omega), ?_, rfl⟩⟩
            rw [hgo, go1_t (by rw [hrest]; exact hft), hnx]
      · have hb : (rest == 0) = false := by simpa using hr0
        simp -dsimp only [rQ_, hb]
        have hf : fits kept rest s = false := by
          unfold fits
          split <;> simp [hr0]
        refine ⟨by decide, by simp at hkl ⊢; omega, hR _ ⟨kept ++ [⟨rest, s.tie, s.side⟩], q * many + s.k, _, _, some (.int s.tie), some (.int s.side), some (.int s.k), some (.int (rev y s.side).w), some (.int p), some (.int q), some (.int rest), some (.int many), by simp at hkl ⊢; omega, hm2, hx2, ?_, by simp [eP]⟩⟩
        rw [hgo, go1_f (by rw [hrest]; exact hf), hrest, hnx]
    · have hb0 : (many == 0) = false := by simpa using hm0
      simp -dsimp only [rQ_, hb0, Bool.not_false]
      refine ⟨by decide, by omega, by omega, ?_⟩
      have hmm : (ms ++ [PyData.tuple [.str "carry", .int (((kept.map eP).length : Int) + 1), .int many]]).length ≤ 2 * i + 1 := by simp; omega
      have hxx : (xs ++ [PyData.int (q * many + s.k)]).length ≤ 2 * i + 1 := by simp; omega
      have hm2 : (ms ++ [PyData.tuple [.str "carry", .int (((kept.map eP).length : Int) + 1), .int many]]).length ≤ 2 * (i + 1) := by omega
      have hx2 : (xs ++ [PyData.int (q * many + s.k)]).length ≤ 2 * (i + 1) := by omega
      by_cases hr0 : rest = 0
      · simp -dsimp only [rQ_, hr0, beq_self_eq_true]
        by_cases hk : kept = []
        · subst hk
          simp -dsimp only [rQ_, List.map_nil, List.isEmpty_nil, Bool.not_true]
          rw [← hr0]
          have hf : fits [] rest s = false := rfl
          refine ⟨by decide, hR _ ⟨[⟨rest, s.tie, s.side⟩], q * many + s.k, _, _, some (.int s.tie), some (.int s.side), some (.int s.k), some (.int (rev y s.side).w), some (.int p), some (.int q), some (.int rest), some (.int many), by simp, hm2, hx2, ?_, by simp [eP]⟩⟩
          rw [hgo, go1_f (by rw [hrest]; exact hf), hrest, hnx]
          rfl
        · obtain ⟨ys, r, rfl⟩ : ∃ ys r, kept = ys ++ [r] := ⟨_, _, (List.dropLast_concat_getLast hk).symm⟩
          have he2 : ((ys ++ [r]).map eP).isEmpty = false := by simp
          simp -dsimp only [rQ_, he2, Bool.not_false]
          simp only [List.map_append, List.map_cons, List.map_nil, ixll]
          rw [show eP r = .tuple [.int r.t, .int r.s, .int r.r] from rfl]
          simp -dsimp only [rQ_, slD_t, cut3_2, eqf_2]
          refine ⟨by decide, ?_⟩
          have hft : fits (ys ++ [r]) rest s = (decide (r.t = s.tie) && decide (r.s = -s.side)) := by
            unfold fits
            simp [hr0]
          generalize hb : (decide (r.t = s.tie) && decide (r.s = -s.side)) = b at hft ⊢
          cases b
          · simp -dsimp only [rQ_]
            rw [← hr0]
            refine ⟨by decide, by simp at hkl ⊢; omega, hR _ ⟨(ys ++ [r]) ++ [⟨rest, s.tie, s.side⟩], q * many + s.k, _, _, some (.int s.tie), some (.int s.side), some (.int s.k), some (.int (rev y s.side).w), some (.int p), some (.int q), some (.int rest), some (.int many), by simp at hkl ⊢; omega, hm2, hx2, ?_, by simp [eP]⟩⟩
            rw [hgo, go1_f (by rw [hrest]; exact hft), hrest, hnx]
          · simp -dsimp only [rQ_]
            refine ⟨by decide, by first | omega | (simp at hmm ⊢; omega), ?_⟩
            rw [show ∀ (l : List Px) (a : Px), (l ++ [a])[(l ++ [a]).length - 1]? = some a from fun l a => by simp, List.dropLast_concat]
            try simp -dsimp only [rQ_]
            refine ⟨by first | omega | (simp at hxx ⊢; omega), hR _ ⟨ys, q * many + s.k + r.r, _, _, some (.int s.tie), some (.int s.side), some (.int s.k), some (.int (rev y s.side).w), some (.int p), some (.int q), some (.int 0), some (.int many), by simp at hkl; omega, by first | (simp; omega) | (simp at hmm ⊢; omega), by first | (simp; omega) | (simp at hxx ⊢; omega), ?_, rfl⟩⟩
            rw [hgo, go1_t (by rw [hrest]; exact hft), hnx]
      · have hb : (rest == 0) = false := by simpa using hr0
        simp -dsimp only [rQ_, hb]
        have hf : fits kept rest s = false := by
          unfold fits
          split <;> simp [hr0]
        refine ⟨by decide, by simp at hkl ⊢; omega, hR _ ⟨kept ++ [⟨rest, s.tie, s.side⟩], q * many + s.k, _, _, some (.int s.tie), some (.int s.side), some (.int s.k), some (.int (rev y s.side).w), some (.int p), some (.int q), some (.int rest), some (.int many), by simp at hkl ⊢; omega, hm2, hx2, ?_, by simp [eP]⟩⟩
        rw [hgo, go1_f (by rw [hrest]; exact hf), hrest, hnx]
  · obtain ⟨kept, num, ms, xs, x8, x9, x10, x11, x12, x13, x14, x15, hkl, hml, hxl, hgo0, rfl⟩ := hI
    rw [List.length_map] at hkl hml hxl hgo0
    rw [List.take_length] at hgo0
    have hgw : goW w k = (kept, num) := hgo0
    try simp -dsimp only [rQ_]
    refine ⟨by simp [nown], ?_⟩
    refine lcW_mpa eP (fun x => .int x.r) _ (fun s hs R S hR => ?_) (by omega) ?_
    · simp -dsimp only [rQ_, Turn1, wipeE, eP]
      exact hR
    try simp -dsimp only [rQ_]
    refine ⟨by decide, by simp; omega, by simp [nown], ?_⟩
    refine lcW_mpa eP (fun x => eC2 x.c) _ (fun s hs R S hR => ?_) (by omega) ?_
    · simp -dsimp only [rQ_, Turn1, wipeE, eP]
      exact ⟨by decide, hR⟩
    try simp -dsimp only [rQ_]
    refine ⟨k.room, kept.map Kp.r ++ [num], kept.map Kp.c, by simp, by simp, by simp; omega, ?_⟩
    try simp -dsimp only [rQ_]
    have e : mkW k.room (kept.map Kp.r ++ [num]) (kept.map Kp.c) = plainW w k := by
      unfold plainW endW
      rw [hgw]
    rw [e]
    exact ⟨by decide, hQ _ _⟩
end K
set_option Elab.async false
set_option maxRecDepth 100000
set_option linter.all false
set_option autoImplicit false
set_option maxHeartbeats 4000000
namespace K
open PySem L2 Dl
variable [TabF]
theorem Shp.up {n m : Nat} {x : Px} (h : Shp n x) (k : n ≤ m) : Shp m x := ⟨h.1, Nat.le_trans h.2 k⟩
theorem shp_eS (s : Stp) : Shp 1 (eS s) := .tup fun y hy => by
  simp only [List.mem_cons, List.not_mem_nil, or_false] at hy
  rcases hy with rfl | rfl | rfl <;> exact .int _
theorem shp_eK (k : Wlk) : Shp 3 (eK k) := .tup fun y hy => by
  simp only [List.mem_cons, List.not_mem_nil, or_false] at hy
  rcases hy with rfl | rfl | rfl
  · exact .int _
  · exact .int _
  · exact .tup fun y hy => by
      obtain ⟨s, _, rfl⟩ := List.mem_map.mp hy
      exact shp_eS s
instance decStp : DecidableEq Stp := fun a b => if h : a.tie = b.tie ∧ a.side = b.side ∧ a.k = b.k then .isTrue (by
    obtain ⟨t, s, k⟩ := a
    obtain ⟨t', s', k'⟩ := b
    obtain ⟨h1, h2, h3⟩ := h
    simp only at h1 h2 h3
    rw [h1, h2, h3]) else .isFalse fun e => h (by rw [e]; exact ⟨rfl, rfl, rfl⟩)
instance decWlk : DecidableEq Wlk := fun a b => if h : a.room = b.room ∧ a.k = b.k ∧ a.steps = b.steps then .isTrue (by
    obtain ⟨t, s, k⟩ := a
    obtain ⟨t', s', k'⟩ := b
    obtain ⟨h1, h2, h3⟩ := h
    simp only at h1 h2 h3
    rw [h1, h2, h3]) else .isFalse fun e => h (by rw [e]; exact ⟨rfl, rfl, rfl⟩)
theorem eqv_eS (a b : Stp) : PyData.eqv (eS a) (eS b) = decide (a = b) := by
  obtain ⟨t, s, k⟩ := a
  obtain ⟨t', s', k'⟩ := b
  simp only [eS, PyData.eqv, PyData.eqvAll, Bool.and_true]
  rw [Bool.eq_iff_iff]
  simp
theorem eqvAll_eS : ∀ l m : List Stp, PyData.eqvAll (l.map eS) (m.map eS) = decide (l = m)
  | [], [] => rfl
  | [], _ :: _ => rfl
  | _ :: _, [] => rfl
  | a :: l, b :: m => by
    show (PyData.eqv (eS a) (eS b) && PyData.eqvAll (l.map eS) (m.map eS)) = _
    rw [eqv_eS, eqvAll_eS l m, Bool.eq_iff_iff]
    simp
theorem eqv_eK (a b : Wlk) : PyData.eqv (eK a) (eK b) = decide (a = b) := by
  obtain ⟨t, s, k⟩ := a
  obtain ⟨t', s', k'⟩ := b
  simp only [eK, PyData.eqv, PyData.eqvAll, Bool.and_true, eqvAll_eS]
  rw [Bool.eq_iff_iff]
  simp
theorem eqf_eK {a b : Wlk} {P : Rv → Prop} : eqD false (eK a) (eK b) P = P (.d (.bool (decide (a = b)))) := by
  simp only [eqD, (shp_eK a).sh, (shp_eK b).sh, eqv_eK, true_and]
  rfl
/-- what a walk must be so that it can be gone along -/
structure WK (w : Web) (k : Wlk) : Prop where
  wo : WebOk w 1000
  st : StepsOk w k.steps
  ln : k.steps.length ≤ 1000
abbrev Cplain_of_any_size : Cn := fun rs g Q => ∃ (w : Web) (k : Wlk), rs = [.d (eW w), .d (eK k)] ∧ WK w k ∧ Q (.d (eK (plainW w k))) g
def wplain_of_any_size : WS :=
  (sRet (eIx (eCallP Cgo_along (aCons (eName 0) (aCons (eName 1) aNil))) (eC (.int 0))))
theorem lenplain_of_any_size (rs : List Rv) (g : Option Nat) (Q : Rv → Option Nat → Prop) (h : Cplain_of_any_size rs g Q) : rs.length = 2 := by
  obtain ⟨w, k, rfl, _⟩ := h
  rfl
theorem specplain_of_any_size (rs : List Rv) (g : Option Nat) (Q : Rv → Option Nat → Prop) (h : Cplain_of_any_size rs g Q) : wplain_of_any_size (startC 2 rs g) (endP Q) fun _ _ => False := by
  obtain ⟨w, k, rfl, hw, hQ⟩ := h
  simp -dsimp only [rQ_, wplain_of_any_size, Cgo_along]
  refine ⟨w, k, rfl, hw.wo, hw.st, hw.ln, fun ms xs => ?_⟩
  try simp -dsimp only [rQ_]
  exact hQ
abbrev Care_equal : Cn := fun rs g Q => ∃ (w : Web) (k l : Wlk), rs = [.d (eW w), .d (eK k), .d (eK l)] ∧ WK w k ∧ WK w l ∧ Q (.d (.bool (decide (plainW w k = plainW w l)))) g
def ware_equal : WS :=
  (sRet (eSc (eqD false) (eCallP Cplain_of_any_size (aCons (eName 0) (aCons (eName 1) aNil))) (eCallP Cplain_of_any_size (aCons (eName 0) (aCons (eName 2) aNil)))))
theorem lenare_equal (rs : List Rv) (g : Option Nat) (Q : Rv → Option Nat → Prop) (h : Care_equal rs g Q) : rs.length = 3 := by
  obtain ⟨w, k, l, rfl, _⟩ := h
  rfl
theorem specare_equal (rs : List Rv) (g : Option Nat) (Q : Rv → Option Nat → Prop) (h : Care_equal rs g Q) : ware_equal (startC 3 rs g) (endP Q) fun _ _ => False := by
  obtain ⟨w, k, l, rfl, hk, hl, hQ⟩ := h
  simp -dsimp only [rQ_, ware_equal, Cplain_of_any_size]
  refine ⟨w, k, rfl, hk, ?_⟩
  try simp -dsimp only [rQ_]
  refine ⟨w, l, rfl, hl, ?_⟩
  simp -dsimp only [rQ_, eqf_eK]
  exact hQ
end K
set_option Elab.async false
set_option maxRecDepth 100000
set_option linter.all false
set_option autoImplicit false
set_option maxHeartbeats 4000000
namespace K
open PySem L2 Dl
variable [TabF]
/-! ### what a walk does to kept rows; going back undoes it -/
theorem snocInd {α : Type} {P : List α → Prop} (h0 : P []) (hs : ∀ l a, P l → P (l ++ [a])) : ∀ l, P l := by
  intro l
  rw [← List.reverse_reverse l]
  induction l.reverse with
  | nil => exact h0
  | cons a l ih => rw [List.reverse_cons]; exact hs _ _ ih
structure SOk (w : Web) (s : Stp) : Prop where
  sd : s.side = 1 ∨ s.side = -1
  p0 : (w.e s).p ≠ 0
  q0 : (w.e s).q ≠ 0
theorem e_neg {w : Web} {t s k k' : Int} (h : s = 1 ∨ s = -1) : (w.e ⟨t, -s, k⟩).p = (w.e ⟨t, s, k'⟩).q ∧ (w.e ⟨t, -s, k⟩).q = (w.e ⟨t, s, k'⟩).p ∧ (w.e ⟨t, -s, k⟩).v = (w.e ⟨t, s, k'⟩).w ∧ (w.e ⟨t, -s, k⟩).w = (w.e ⟨t, s, k'⟩).v := by
  unfold Web.e rev
  rcases h with rfl | rfl <;> simp
theorem fmod_add {n p m : Int} (hp : p ≠ 0) : (n + p * m).fmod (p.natAbs : Int) = n.fmod (p.natAbs : Int) := by
  rw [Int.fmod_eq_emod_of_nonneg _ (by omega), Int.fmod_eq_emod_of_nonneg _ (by omega)]
  rcases Int.natAbs_eq p with h | h
  · rw [← h, Int.add_mul_emod_self_left]
  · have : p * m = (p.natAbs : Int) * (-m) := by
      conv => lhs; rw [h]
      rw [Int.neg_mul, Int.mul_neg]
    rw [this, Int.add_mul_emod_self_left]
theorem many_eq {n p : Int} (hp : p ≠ 0) : n = n.fmod (p.natAbs : Int) + p * (n - n.fmod (p.natAbs : Int)).fdiv p := by
  have hm : (0 : Int) < (p.natAbs : Int) := by omega
  have e1 : n.fmod (p.natAbs : Int) = n % (p.natAbs : Int) := Int.fmod_eq_emod_of_nonneg n (by omega)
  have e2 : n - n % (p.natAbs : Int) = (p.natAbs : Int) * (n / (p.natAbs : Int)) := by
    have := Int.mul_ediv_add_emod n (p.natAbs : Int)
    omega
  have e4 : ∃ d, n - n % (p.natAbs : Int) = d * p := by
    rcases Int.natAbs_eq p with h | h
    · exact ⟨n / (p.natAbs : Int), by rw [e2, ← h, Int.mul_comm]⟩
    · refine ⟨-(n / (p.natAbs : Int)), ?_⟩
      rw [e2]
      generalize n / (p.natAbs : Int) = d
      generalize (p.natAbs : Int) = g at h
      rw [h, Int.neg_mul_neg, Int.mul_comm]
  obtain ⟨d, hd⟩ := e4
  rw [e1, hd, Int.mul_fdiv_cancel _ hp, Int.mul_comm p d, ← hd]
  omega
theorem restMany {w : Web} {n : Int} {s : Stp} (hp : (w.e s).p ≠ 0) : n = restOf w n s + (w.e s).p * manyOf w n s := many_eq hp
theorem rest_add {w : Web} {n m : Int} {s : Stp} (hp : (w.e s).p ≠ 0) : restOf w (n + (w.e s).p * m) s = restOf w n s := fmod_add hp
theorem many_add {w : Web} {n m : Int} {s : Stp} (hp : (w.e s).p ≠ 0) : manyOf w (n + (w.e s).p * m) s = manyOf w n s + m := by
  have h1 := restMany (n := n) hp
  have h2 := restMany (n := n + (w.e s).p * m) hp
  rw [rest_add hp] at h2
  have h3 : (w.e s).p * manyOf w (n + (w.e s).p * m) s = (w.e s).p * (manyOf w n s + m) := by
    rw [Int.mul_add]
    omega
  exact Int.eq_of_mul_eq_mul_left hp h3
theorem go1_carry {w : Web} {L : List Kp} {n m : Int} {s : Stp} (hp : (w.e s).p ≠ 0) : go1 w (L, n + (w.e s).p * m) s = go1 w (L, n) ⟨s.tie, s.side, s.k + (w.e s).q * m⟩ := by
  have e1 : restOf w n ⟨s.tie, s.side, s.k + (w.e s).q * m⟩ = restOf w n s := rfl
  have e2 : nextN w n ⟨s.tie, s.side, s.k + (w.e s).q * m⟩ = nextN w n s + (w.e s).q * m := by
    show (w.e s).q * manyOf w n s + (s.k + _) = (w.e s).q * manyOf w n s + s.k + _
    omega
  have e3 : nextN w (n + (w.e s).p * m) s = nextN w n s + (w.e s).q * m := by
    unfold nextN
    rw [many_add hp, Int.mul_add]
    omega
  have e4 : fits L (restOf w n s) ⟨s.tie, s.side, s.k + (w.e s).q * m⟩ = fits L (restOf w n s) s := rfl
  simp only [go1, e1, e2, e3, e4, rest_add hp]
theorem go1_add {w : Web} {a : List Kp × Int} {t s k d : Int} : go1 w a ⟨t, s, k + d⟩ = ((go1 w a ⟨t, s, k⟩).1, (go1 w a ⟨t, s, k⟩).2 + d) := by
  have e2 : nextN w a.2 ⟨t, s, k + d⟩ = nextN w a.2 ⟨t, s, k⟩ + d := by
    show (w.e ⟨t, s, k⟩).q * manyOf w a.2 ⟨t, s, k⟩ + (k + d) = (w.e ⟨t, s, k⟩).q * manyOf w a.2 ⟨t, s, k⟩ + k + d
    omega
  have e1 : restOf w a.2 ⟨t, s, k + d⟩ = restOf w a.2 ⟨t, s, k⟩ := rfl
  have e4 : fits a.1 (restOf w a.2 ⟨t, s, k⟩) ⟨t, s, k + d⟩ = fits a.1 (restOf w a.2 ⟨t, s, k⟩) ⟨t, s, k⟩ := rfl
  simp only [go1, e1, e2, e4]
  split
  · simp only [Prod.mk.injEq, true_and]
    omega
  · rfl
theorem rest_at {w : Web} {r m : Int} {s : Stp} (hp : (w.e s).p ≠ 0) (h0 : 0 ≤ r) (h1 : r < ((w.e s).p.natAbs : Int)) : restOf w (r + (w.e s).p * m) s = r ∧ manyOf w (r + (w.e s).p * m) s = m := by
  rw [rest_add hp, many_add hp]
  obtain ⟨a, b⟩ := rest_small h0 h1
  exact ⟨a, by omega⟩
theorem go1_strike {w : Web} {K : List Kp} {n t s k : Int} (hK : Red w K) (h : SOk w ⟨t, s, 0⟩) : go1 w (go1 w (K, n) ⟨t, s, 0⟩) ⟨t, -s, k⟩ = (K, n + k) := by
  obtain ⟨hs, hp, hq⟩ := h
  have en := e_neg (w := w) (t := t) (s := s) (k := k) (k' := 0) hs
  have hp2 : (w.e ⟨t, -s, k⟩).p ≠ 0 := by rw [en.1]; exact hq
  have hn := restMany (n := n) hp
  have hN : nextN w n ⟨t, s, 0⟩ = (w.e ⟨t, s, 0⟩).q * manyOf w n ⟨t, s, 0⟩ := Int.add_zero _
  by_cases hf : fits K (restOf w n ⟨t, s, 0⟩) ⟨t, s, 0⟩ = true
  · cases hK with
    | nil => cases hf
    | snoc x hK h0 h1 hx =>
      rename_i K'
      rw [go1_t hf]
      have hf2 : restOf w n ⟨t, s, 0⟩ = 0 ∧ x.t = t ∧ x.s = -s := by
        unfold fits at hf
        simp at hf
        exact hf
      obtain ⟨f1, f2, f3⟩ := hf2
      rw [f2, f3, e_k (k' := k)] at h1
      obtain ⟨r1, r2⟩ := rest_at (w := w) (s := ⟨t, -s, k⟩) (m := manyOf w n ⟨t, s, 0⟩) hp2 h0 h1
      have e1 : nextN w n ⟨t, s, 0⟩ + x.r = x.r + (w.e ⟨t, -s, k⟩).p * manyOf w n ⟨t, s, 0⟩ := by
        rw [hN, en.1]
        omega
      rw [e1, go1_f (by rw [r1, ← f2, ← f3]; exact hx), r1]
      have e2 : nextN w (x.r + (w.e ⟨t, -s, k⟩).p * manyOf w n ⟨t, s, 0⟩) ⟨t, -s, k⟩ = n + k := by
        unfold nextN
        rw [r2, en.2.1]
        show _ + k = n + k
        rw [f1] at hn
        omega
      rw [e2, ← f2, ← f3]
  · have hf' : fits K (restOf w n ⟨t, s, 0⟩) ⟨t, s, 0⟩ = false := by simpa using hf
    rw [go1_f hf']
    obtain ⟨r1, r2⟩ := rest_at (w := w) (s := ⟨t, -s, k⟩) (r := 0) (m := manyOf w n ⟨t, s, 0⟩) hp2 (by omega) (by omega)
    have e1 : nextN w n ⟨t, s, 0⟩ = 0 + (w.e ⟨t, -s, k⟩).p * manyOf w n ⟨t, s, 0⟩ := by
      rw [hN, en.1]
      omega
    have hf2 : fits (K ++ [⟨restOf w n ⟨t, s, 0⟩, t, s⟩]) (restOf w (nextN w n ⟨t, s, 0⟩) ⟨t, -s, k⟩) ⟨t, -s, k⟩ = true := by
      rw [e1, r1]
      unfold fits
      simp
    rw [go1_t hf2]
    have e2 : nextN w (nextN w n ⟨t, s, 0⟩) ⟨t, -s, k⟩ = (w.e ⟨t, s, 0⟩).p * manyOf w n ⟨t, s, 0⟩ + k := by
      unfold nextN
      rw [show (w.e ⟨t, s, 0⟩).q * manyOf w n ⟨t, s, 0⟩ + (⟨t, s, 0⟩ : Stp).k = nextN w n ⟨t, s, 0⟩ from rfl, e1, r2, en.2.1]
    rw [e2]
    simp only [Prod.mk.injEq, true_and]
    omega
theorem Red.end {w : Web} {K : List Kp} (h : Red w K) (r n : Int) : ∀ s ∈ (endW r (K, n)).steps, (w.e s).p ≠ 0 := by
  induction h generalizing n with
  | nil => intro s hs; cases hs
  | snoc x h h0 h1 hf ih =>
    intro s hs
    rw [(endW_snoc r _ x n).2] at hs
    rcases List.mem_append.mp hs with hs | hs
    · exact ih _ s hs
    · simp only [List.mem_cons, List.not_mem_nil, or_false] at hs
      subst hs
      rw [e_k (k' := 0)]
      omega
end K
set_option Elab.async false
set_option maxRecDepth 100000
set_option linter.all false
set_option autoImplicit false
set_option maxHeartbeats 4000000
namespace K
open PySem L2 Dl
variable [TabF]
/-! ### the opposite walk -/
def rvc (c : Int × Int) : Int × Int := (c.1, -c.2)
def endR (w : Web) (k : Wlk) : Int := match k.steps.getLast? with
  | some s => (w.e s).w
  | none => k.room
def backW (w : Web) (k : Wlk) : Wlk := mkW (endR w k) ((nums k).reverse.map fun i => -i) ((k.steps.map cr).reverse.map rvc)
theorem back_nums (w : Web) (k : Wlk) : nums (backW w k) = (nums k).reverse.map fun i => -i := mkW_nums (by simp [nums])
theorem back_cr (w : Web) (k : Wlk) : (backW w k).steps.map cr = (k.steps.map cr).reverse.map rvc := mkW_cr (by simp [nums])
theorem SOk.back {w : Web} {k : Wlk} (h : ∀ s ∈ k.steps, SOk w s) : ∀ s ∈ (backW w k).steps, SOk w s := by
  intro s hs
  have h1 : cr s ∈ (backW w k).steps.map cr := List.mem_map_of_mem hs
  rw [back_cr] at h1
  obtain ⟨c, hc, e⟩ := List.mem_map.mp h1
  obtain ⟨z, hz, rfl⟩ := List.mem_map.mp (List.mem_reverse.mp hc)
  have hz := h z hz
  obtain ⟨t, sd, k'⟩ := s
  simp only [rvc, cr, Prod.mk.injEq] at e
  obtain ⟨rfl, rfl⟩ := e
  have en := e_neg (w := w) (t := z.tie) (s := z.side) (k := k') (k' := z.k) hz.sd
  exact ⟨by have := hz.sd; show -z.side = 1 ∨ -z.side = -1; omega, by rw [en.1]; exact hz.q0, by rw [en.2.1]; exact hz.p0⟩
theorem plainW_iff {w : Web} {a b : Wlk} : plainW w a = plainW w b ↔ a.room = b.room ∧ goW w a = goW w b := by
  constructor
  · intro h
    refine ⟨(congrArg Wlk.room h : (plainW w a).room = (plainW w b).room), ?_⟩
    have h1 := congrArg nums h
    have h2 := congrArg (fun k : Wlk => k.steps.map cr) h
    unfold plainW endW at h1 h2
    rw [mkW_nums (by simp), mkW_nums (by simp)] at h1
    rw [mkW_cr (by simp), mkW_cr (by simp)] at h2
    obtain ⟨h3, h4⟩ := List.append_inj' h1 rfl
    simp only [List.cons.injEq, and_true] at h4
    have h5 : (goW w a).1 = (goW w b).1 := by
      revert h3 h2
      generalize (goW w a).1 = K
      generalize (goW w b).1 = L
      intro h3 h2
      induction K generalizing L with
      | nil => cases L with
        | nil => rfl
        | cons y L => simp at h3
      | cons x K ih => cases L with
        | nil => simp at h3
        | cons y L =>
          simp only [List.map_cons, List.cons.injEq] at h2 h3
          rw [ih L h3.2 h2.2]
          obtain ⟨r, t, s⟩ := x
          obtain ⟨r', t', s'⟩ := y
          simp only [Kp.c, Prod.mk.injEq] at h2 h3
          rw [h2.1, h3.1.1, h3.1.2]
    exact Prod.ext h5 h4
  · rintro ⟨h1, h2⟩
    unfold plainW
    rw [h1, h2]
theorem Ch.end {w : Web} {r h : Int} {l : List (Int × Int)} (H : Ch w r l h) : h = match l.getLast? with
  | some c => (w.e ⟨c.1, c.2, 0⟩).w
  | none => r := by
  cases H with
  | nil => rfl
  | snoc c _ _ => simp
theorem endR_ch {w : Web} {k : Wlk} {h : Int} (H : Ch w k.room (k.steps.map cr) h) : endR w k = h := by
  have e := H.end
  unfold endR
  rw [e, List.getLast?_map]
  cases k.steps.getLast? <;> rfl
theorem Ch.hd {w : Web} {r h : Int} {l : List (Int × Int)} (H : Ch w r l h) : ∀ c m, l = c :: m → (w.e ⟨c.1, c.2, 0⟩).v = r := by
  induction H with
  | nil => intro c m e; cases e
  | snoc c H hv ih =>
    rename_i l h
    intro d m e
    cases l with
    | nil =>
      simp only [List.nil_append, List.cons.injEq] at e
      obtain ⟨rfl, rfl⟩ := e
      rw [hv, H.end]
      rfl
    | cons a l =>
      simp only [List.cons_append, List.cons.injEq] at e
      obtain ⟨rfl, rfl⟩ := e
      exact ih a l rfl
end K
set_option Elab.async false
set_option maxRecDepth 100000
set_option linter.all false
set_option autoImplicit false
set_option maxHeartbeats 4000000
set_option Elab.async false
set_option maxRecDepth 100000
set_option linter.all false
set_option autoImplicit false
set_option maxHeartbeats 4000000
namespace K
open PySem L2 Dl
variable [TabF]
/-! ### shares -/
def eCr (w : Web) (c : Int × Int) : Tie := w.e ⟨c.1, c.2, 0⟩
def CsOk (w : Web) (cs : List (Int × Int)) : Prop := ∀ c ∈ cs, CrOk w c.1 c.2
def sh1 (w : Web) (a : Int × Int) (c : Int × Int) : Int × Int := (a.1 * (eCr w c).q, a.2 * (eCr w c).p)
theorem e_of {w : Web} {s : Stp} {x : Tie} (h : Web.at w s.tie x) : w.e s = rev x s.side := by
  unfold Web.e
  rw [h.tie]
theorem WK.cs {w : Web} {k : Wlk} (h : WK w k) : CsOk w (k.steps.map cr) := fun c hc => by
  obtain ⟨s, hs, rfl⟩ := List.mem_map.mp hc
  exact h.st s hs
end K
set_option Elab.async false
set_option maxRecDepth 100000
set_option linter.all false
set_option autoImplicit false
set_option maxHeartbeats 4000000
set_option Elab.async false
set_option maxRecDepth 100000
set_option linter.all false
set_option autoImplicit false
set_option maxHeartbeats 4000000
set_option Elab.async false
set_option maxRecDepth 100000
set_option linter.all false
set_option autoImplicit false
set_option maxHeartbeats 4000000
namespace K
open PySem L2 Dl
variable [TabF]
/-! ### turns that are carried over crossings -/
def over1 (w : Web) (v : Option Int) (c : Int × Int) : Option Int := v.bind fun v => if v.fmod ((eCr w c).p.natAbs : Int) = 0 then some (v.fdiv (eCr w c).p * (eCr w c).q) else none
def overW (w : Web) (cs : List (Int × Int)) (v : Int) : Option Int := cs.foldl (over1 w) (some v)
def ov : Option Int → Px
  | some v => .int v
  | none => .none
theorem overW_snoc (w : Web) (cs : List (Int × Int)) (c : Int × Int) (v : Int) : overW w (cs ++ [c]) v = over1 w (overW w cs v) c := by
  unfold overW
  rw [List.foldl_append]
  rfl
theorem fmod_iff {v p : Int} (hp : p ≠ 0) : v.fmod p = 0 ↔ v.fmod (p.natAbs : Int) = 0 := by
  have h1 : v.fmod p = 0 ↔ p ∣ v := ⟨fun h => Int.dvd_of_fmod_eq_zero h, fun h => Int.fmod_eq_zero_of_dvd h⟩
  have h2 : v.fmod (p.natAbs : Int) = 0 ↔ (p.natAbs : Int) ∣ v := ⟨fun h => Int.dvd_of_fmod_eq_zero h, fun h => Int.fmod_eq_zero_of_dvd h⟩
  rw [h1, h2, Int.natAbs_dvd]
theorem isn_i {i : Int} {P : Rv → Prop} : isND true (.int i) .none P = P (.d (.bool true)) := rfl
theorem isn_n {P : Rv → Prop} : isND true .none .none P = P (.d (.bool false)) := rfl
end K
set_option Elab.async false
set_option maxRecDepth 100000
set_option linter.all false
set_option autoImplicit false
set_option maxHeartbeats 4000000
set_option Elab.async false
set_option maxRecDepth 100000
set_option linter.all false
set_option autoImplicit false
set_option maxHeartbeats 4000000
set_option Elab.async false
set_option maxRecDepth 100000
set_option linter.all false
set_option autoImplicit false
set_option maxHeartbeats 4000000
namespace K
open PySem L2 Dl
variable [TabF]
/-! ### moves -/
theorem emp_snoc {α : Type} {l : List α} {a : α} : (l ++ [a]).isEmpty = false := by simp
theorem endR_snoc {w : Web} {k : Wlk} {l : List Stp} {s : Stp} (h : k.steps = l ++ [s]) : endR w k = (w.e s).w := by
  unfold endR
  rw [h]
  simp
theorem eqf_nilT {xs : List Px} {P : Rv → Prop} (h : ∀ x ∈ xs, Shp 60 x) : eqD false (.tuple xs) (.tuple []) P = P (.d (.bool xs.isEmpty)) := by
  have h1 : SeqAt.shaped (.tuple xs) = true := (Shp.tup h).sh
  have h2 : SeqAt.shaped (.tuple []) = true := (Shp.tup (n := 60) (xs := []) (by simp)).sh
  have e : PyData.eqv (.tuple xs) (.tuple []) = xs.isEmpty := by cases xs <;> simp [PyData.eqv, PyData.eqvAll]
  simp only [eqD, h1, h2, e, true_and]
  simp
theorem eS_shp {l : List Stp} : ∀ x ∈ l.map eS, Shp 60 x := fun x hx => by
  obtain ⟨c, _, rfl⟩ := List.mem_map.mp hx
  exact .tup fun y hy => by
    simp only [List.mem_cons, List.not_mem_nil, or_false] at hy
    rcases hy with rfl | rfl | rfl <;> exact .int _
theorem WK.so {w : Web} {k : Wlk} (h : WK w k) : ∀ s ∈ k.steps, SOk w s := fun s hs => by
  obtain ⟨y, hy, he, hok⟩ := h.st.e h.wo hs
  exact ⟨(h.st s hs).2, hok.p0, hok.q0⟩
theorem crOk_neg {w : Web} {t s : Int} (h : CrOk w t s) : CrOk w t (-s) := ⟨h.1, by have := h.2; omega⟩
theorem take_last {α : Type} {l : List α} {i : Nat} {s : α} (h : l[i]? = some s) : l.take (i + 1) = l.take i ++ [s] := by
  rw [List.take_succ, h]
  rfl
theorem Ch.app {w : Web} {r h h' : Int} {l m : List (Int × Int)} (H : Ch w r l h) (G : Ch w h m h') : Ch w r (l ++ m) h' := by
  induction G with
  | nil => rw [List.append_nil]; exact H
  | snoc c G hv ih => rw [← List.append_assoc]; exact .snoc c ih hv
def joinW (a b : Wlk) : Wlk := match a.steps.getLast? with
  | none => ⟨a.room, a.k + b.k, b.steps⟩
  | some s => ⟨a.room, a.k, a.steps.dropLast ++ [⟨s.tie, s.side, s.k + b.k⟩] ++ b.steps⟩
theorem joinW_nil {a b : Wlk} (h : a.steps = []) : joinW a b = ⟨a.room, a.k + b.k, b.steps⟩ := by
  unfold joinW
  rw [h]
  rfl
theorem joinW_snoc {a b : Wlk} {l : List Stp} {s : Stp} (h : a.steps = l ++ [s]) : joinW a b = ⟨a.room, a.k, l ++ [⟨s.tie, s.side, s.k + b.k⟩] ++ b.steps⟩ := by
  unfold joinW
  rw [h]
  simp
theorem joinW_cr (a b : Wlk) : (joinW a b).steps.map cr = a.steps.map cr ++ b.steps.map cr := by
  by_cases hk : a.steps = []
  · rw [joinW_nil hk, hk]
    rfl
  · obtain ⟨l, s, hl⟩ : ∃ l s, a.steps = l ++ [s] := ⟨_, _, (List.dropLast_concat_getLast hk).symm⟩
    rw [joinW_snoc hl, hl]
    simp [cr]
theorem joinW_room (a b : Wlk) : (joinW a b).room = a.room := by
  unfold joinW
  split <;> rfl
def FitC (w : Web) (r : Int) (cs : List (Int × Int)) (h : Int) : Prop := WebOk w 1000 ∧ (∀ c ∈ cs, CrOk w c.1 c.2) ∧ cs.length ≤ 1000 ∧ Ch w r cs h
theorem FitC.wk {w : Web} {k : Wlk} {r h : Int} {cs : List (Int × Int)} (F : FitC w r cs h) (e : k.steps.map cr = cs) : WK w k := by
  subst e
  exact ⟨F.1, fun s hs => F.2.1 (cr s) (List.mem_map_of_mem hs), by have := F.2.2.1; simpa using this⟩
theorem FitC.app {w : Web} {r h h' : Int} {cs ds : List (Int × Int)} (F : FitC w r cs h) (G : FitC w h ds h') (hl : cs.length + ds.length ≤ 1000) : FitC w r (cs ++ ds) h' :=
  ⟨F.1, fun c hc => (List.mem_append.mp hc).elim (F.2.1 c) (G.2.1 c), by rw [List.length_append]; exact hl, F.2.2.2.app G.2.2.2⟩
inductive Mv where
  | carry (i : Nat) (m : Int)
  | strike (i : Nat)
  | put (i : Nat) (t s a : Int)
def crs (k : Wlk) : List (Int × Int) := k.steps.map cr
def Wlk.n (k : Wlk) (i : Nat) : Int := (nums k).getD i 0
def Wlk.c (k : Wlk) (i : Nat) : Int × Int := (crs k).getD i (0, 0)
def app (w : Web) (k : Wlk) : Mv → Wlk
  | .carry i m => mkW k.room (((nums k).set i (k.n i - (eCr w (k.c i)).p * m)).set (i + 1) (k.n (i + 1) + (eCr w (k.c i)).q * m)) (crs k)
  | .strike i => mkW k.room ((nums k).take i ++ [k.n i + k.n (i + 2)] ++ (nums k).drop (i + 3)) ((crs k).take i ++ (crs k).drop (i + 2))
  | .put i t s a => mkW k.room ((nums k).take i ++ [a, 0, k.n i - a] ++ (nums k).drop (i + 1)) ((crs k).take i ++ [(t, s), (t, -s)] ++ (crs k).drop i)
def Good (w : Web) (k : Wlk) : Mv → Prop
  | .carry i m => i < k.steps.length ∧ m.natAbs ≤ 3
  | .strike i => i + 1 < k.steps.length ∧ k.n (i + 1) = 0 ∧ k.c i = rvc (k.c (i + 1))
  | .put i t s a => i ≤ k.steps.length ∧ CrOk w t s ∧ (w.e ⟨t, s, 0⟩).v = endR w ⟨k.room, k.k, k.steps.take i⟩ ∧ a.natAbs ≤ 4
theorem crs_len (k : Wlk) : (crs k).length = k.steps.length := List.length_map ..
theorem app_nums {w : Web} {k : Wlk} {mv : Mv} (h : Good w k mv) : nums (app w k mv) = match mv with
    | .carry i m => ((nums k).set i (k.n i - (eCr w (k.c i)).p * m)).set (i + 1) (k.n (i + 1) + (eCr w (k.c i)).q * m)
    | .strike i => (nums k).take i ++ [k.n i + k.n (i + 2)] ++ (nums k).drop (i + 3)
    | .put i t s a => (nums k).take i ++ [a, 0, k.n i - a] ++ (nums k).drop (i + 1) := by
  have h1 := nums_len k
  have h2 := crs_len k
  cases mv with
  | carry i m => exact mkW_nums (by simp [h1, h2])
  | strike i =>
    obtain ⟨h3, _⟩ := h
    exact mkW_nums (by simp [h1, h2]; omega)
  | put i t s a =>
    obtain ⟨h3, _⟩ := h
    exact mkW_nums (by simp [h1, h2]; omega)
theorem app_cr {w : Web} {k : Wlk} {mv : Mv} (h : Good w k mv) : (app w k mv).steps.map cr = match mv with
    | .carry i m => crs k
    | .strike i => (crs k).take i ++ (crs k).drop (i + 2)
    | .put i t s a => (crs k).take i ++ [(t, s), (t, -s)] ++ (crs k).drop i := by
  have h1 := nums_len k
  have h2 := crs_len k
  cases mv with
  | carry i m => exact mkW_cr (by simp [h1, h2])
  | strike i =>
    obtain ⟨h3, _⟩ := h
    exact mkW_cr (by simp [h1, h2]; omega)
  | put i t s a =>
    obtain ⟨h3, _⟩ := h
    exact mkW_cr (by simp [h1, h2]; omega)
theorem app_room (w : Web) (k : Wlk) (mv : Mv) : (app w k mv).room = k.room := by cases mv <;> rfl
theorem Ch.inv {w : Web} {r h : Int} {l : List (Int × Int)} {c : Int × Int} (H : Ch w r (l ++ [c]) h) : Ch w r l (eCr w c).v ∧ h = (eCr w c).w := by
  generalize e : l ++ [c] = m at H
  cases H with
  | nil => simp at e
  | snoc d H hv =>
    obtain ⟨e1, e2⟩ := List.append_inj' e rfl
    simp only [List.cons.injEq, and_true] at e2
    subst e1 e2
    refine ⟨?_, rfl⟩
    show Ch w r l (w.e ⟨c.1, c.2, 0⟩).v
    rw [hv]
    exact H
theorem Ch.split {w : Web} {r : Int} {l : List (Int × Int)} : ∀ (m : List (Int × Int)) (h : Int), Ch w r (l ++ m) h → ∃ h1, Ch w r l h1 ∧ Ch w h1 m h := by
  intro m
  refine snocInd (P := fun m => ∀ (h : Int), Ch w r (l ++ m) h → ∃ h1, Ch w r l h1 ∧ Ch w h1 m h) (fun h H => ⟨h, by simpa using H, .nil⟩) (fun m c ih h H => ?_) m
  rw [← List.append_assoc] at H
  obtain ⟨H1, e⟩ := H.inv
  obtain ⟨h1, a, b⟩ := ih _ H1
  subst e
  exact ⟨h1, a, .snoc c b rfl⟩
theorem Ch.two {w : Web} {r h : Int} {c d : Int × Int} (H : Ch w r [c, d] h) : r = (eCr w c).v ∧ (eCr w c).w = (eCr w d).v ∧ h = (eCr w d).w := by
  obtain ⟨H1, e⟩ := Ch.inv (l := [c]) H
  obtain ⟨H2, e2⟩ := Ch.inv (l := []) H1
  have := H2.end
  exact ⟨this.symm, e2.symm, e⟩
theorem eCr_rvc {w : Web} {c : Int × Int} (h : c.2 = 1 ∨ c.2 = -1) : (eCr w (rvc c)).v = (eCr w c).w ∧ (eCr w (rvc c)).w = (eCr w c).v :=
  ⟨(e_neg (w := w) (t := c.1) (s := c.2) (k := 0) (k' := 0) h).2.2.1, (e_neg (w := w) (t := c.1) (s := c.2) (k := 0) (k' := 0) h).2.2.2⟩
theorem getD_some {α : Type} {l : List α} {i : Nat} {d : α} (h : i < l.length) : l[i]? = some (l.getD i d) := by simp [h]
theorem drop_two {α : Type} {l : List α} {i : Nat} {d : α} (h : i + 1 < l.length) : l = l.take i ++ ([l.getD i d, l.getD (i + 1) d] ++ l.drop (i + 2)) := by
  conv => lhs; rw [← List.take_append_drop i l]
  congr 1
  rw [List.drop_eq_getElem_cons (show i < l.length by omega), List.drop_eq_getElem_cons h]
  simp [h, show i < l.length by omega]
theorem app_fit {w : Web} {k : Wlk} {mv : Mv} {h : Int} (F : FitC w k.room (crs k) h) (g : Good w k mv) (hl : k.steps.length ≤ 100) : FitC w (app w k mv).room (crs (app w k mv)) h := by
  obtain ⟨wo, hc, hn, H⟩ := F
  have h2 := crs_len k
  rw [app_room]
  show FitC w k.room ((app w k mv).steps.map cr) h
  rw [app_cr g]
  cases mv with
  | carry i m => exact ⟨wo, hc, hn, H⟩
  | strike i =>
    obtain ⟨g1, g2, g3⟩ := g
    refine ⟨wo, fun c hcm => ?_, by simp; omega, ?_⟩
    · rcases List.mem_append.mp hcm with q | q
      · exact hc c (List.mem_of_mem_take q)
      · exact hc c (List.mem_of_mem_drop q)
    · rw [drop_two (l := crs k) (i := i) (d := (0, 0)) (by omega)] at H
      obtain ⟨h1, H1, H2⟩ := Ch.split _ _ H
      obtain ⟨h3, H3, H4⟩ := Ch.split (l := [_, _]) _ _ H2
      obtain ⟨e1, e2, e3⟩ := H3.two
      have hd : CrOk w (k.c (i + 1)).1 (k.c (i + 1)).2 := hc _ (List.mem_of_getElem? (getD_some (l := crs k) (d := (0, 0)) (by omega)))
      have er := eCr_rvc (w := w) (c := k.c (i + 1)) hd.2
      rw [← g3] at er
      have : h1 = h3 := e1.trans (er.1.trans e3.symm)
      subst this
      exact H1.app H4
  | put i t s a =>
    obtain ⟨g1, g2, g3, g4⟩ := g
    refine ⟨wo, fun c hcm => ?_, by simp; omega, ?_⟩
    · rcases List.mem_append.mp hcm with q | q
      · rcases List.mem_append.mp q with q | q
        · exact hc c (List.mem_of_mem_take q)
        · simp only [List.mem_cons, List.not_mem_nil, or_false] at q
          rcases q with rfl | rfl
          · exact g2
          · exact crOk_neg g2
      · exact hc c (List.mem_of_mem_drop q)
    · rw [← List.take_append_drop i (crs k)] at H
      obtain ⟨h1, H1, H2⟩ := Ch.split _ _ H
      have e1 : endR w ⟨k.room, k.k, k.steps.take i⟩ = h1 := endR_ch (k := ⟨k.room, k.k, k.steps.take i⟩) (by
        show Ch w k.room ((k.steps.take i).map cr) h1
        rw [List.map_take]
        exact H1)
      rw [e1] at g3
      have er := eCr_rvc (w := w) (c := (t, s)) g2.2
      have H3 : Ch w k.room ((crs k).take i ++ [(t, s)]) (eCr w (t, s)).w := .snoc (t, s) H1 g3
      have H4 : Ch w k.room ((crs k).take i ++ [(t, s)] ++ [(t, -s)]) (eCr w (t, -s)).w := .snoc (t, -s) H3 er.1
      have e2 : (eCr w (t, -s)).w = h1 := er.2.trans g3
      rw [e2] at H4
      have := H4.app H2
      simpa using this
theorem c_at {k : Wlk} {i : Nat} (h : i < k.steps.length) : (crs k)[i]? = some (k.c i) := getD_some (by rw [crs_len]; omega)
def goc (w : Web) (a : List Kp × Int) (c : Int × Int) : List Kp × Int := go1 w a ⟨c.1, c.2, 0⟩
def goL (w : Web) : List Kp × Int → List Int → List (Int × Int) → List Kp × Int
  | a, n :: ns, c :: cs => goL w (goc w (a.1, a.2 + n) c) ns cs
  | a, n :: _, [] => (a.1, a.2 + n)
  | a, [], _ => a
theorem go1_goc {w : Web} {a : List Kp × Int} {s : Stp} : go1 w a s = ((goc w a (cr s)).1, (goc w a (cr s)).2 + s.k) := by
  have := go1_add (w := w) (a := a) (t := s.tie) (s := s.side) (k := 0) (d := s.k)
  rw [Int.zero_add] at this
  exact this
theorem goL_fold {w : Web} : ∀ (l : List Stp) (K : List Kp) (m n : Int), l.foldl (go1 w) (K, m + n) = goL w (K, m) (n :: l.map Stp.k) (l.map cr)
  | [], K, m, n => rfl
  | s :: l, K, m, n => by
    simp only [List.foldl_cons, List.map_cons, goL]
    rw [go1_goc, goL_fold l]
theorem goW_goL (w : Web) (k : Wlk) : goW w k = goL w ([], 0) (nums k) (crs k) := by
  unfold goW nums crs
  rw [← goL_fold, Int.zero_add]
def goP (w : Web) : List Kp × Int → List Int → List (Int × Int) → List Kp × Int
  | a, n :: ns, c :: cs => goP w (goc w (a.1, a.2 + n) c) ns cs
  | a, _, _ => a
theorem goL_app {w : Web} : ∀ (ns : List Int) (cs : List (Int × Int)) (a : List Kp × Int) (ms : List Int) (ds : List (Int × Int)), ns.length = cs.length → goL w a (ns ++ ms) (cs ++ ds) = goL w (goP w a ns cs) ms ds
  | [], [], a, ms, ds, _ => by simp [goP]
  | n :: ns, c :: cs, a, ms, ds, h => by
    simp only [List.cons_append, goL, goP]
    exact goL_app ns cs _ ms ds (by simpa using h)
  | [], _ :: _, _, _, _, h => by simp at h
  | _ :: _, [], _, _, _, h => by simp at h
theorem goP_red {w : Web} : ∀ (ns : List Int) (cs : List (Int × Int)) (a : List Kp × Int), (∀ c ∈ cs, (eCr w c).p ≠ 0) → Red w a.1 → Red w (goP w a ns cs).1
  | n :: ns, c :: cs, a, h, r => goP_red ns cs _ (fun d hd => h d (List.mem_cons_of_mem _ hd)) (Red.go (a := (a.1, a.2 + n)) (s := ⟨c.1, c.2, 0⟩) r (h c List.mem_cons_self))
  | [], _, a, _, r => by unfold goP; exact r
  | _ :: _, [], a, _, r => by unfold goP; exact r
theorem goL_carry {w : Web} {a : List Kp × Int} {n n' d : Int} {ns : List Int} {c : Int × Int} {cs : List (Int × Int)} (hp : (eCr w c).p ≠ 0) : goL w a ((n - (eCr w c).p * d) :: (n' + (eCr w c).q * d) :: ns) (c :: cs) = goL w a (n :: n' :: ns) (c :: cs) := by
  have h1 : goc w (a.1, a.2 + (n - (eCr w c).p * d)) c = ((goc w (a.1, a.2 + n) c).1, (goc w (a.1, a.2 + n) c).2 - (eCr w c).q * d) := by
    have h2 := go1_carry (w := w) (L := a.1) (n := a.2 + n) (m := -d) (s := ⟨c.1, c.2, 0⟩) hp
    rw [show a.2 + (n - (eCr w c).p * d) = a.2 + n + (w.e ⟨c.1, c.2, 0⟩).p * -d by show _ = a.2 + n + (eCr w c).p * -d; rw [Int.mul_neg]; omega]
    unfold goc
    rw [h2, go1_add]
    show (_, _ + (eCr w c).q * -d) = (_, _ - (eCr w c).q * d)
    rw [Int.mul_neg]
    rfl
  have h3 : ∀ (K : List Kp) (x y : Int) (cs : List (Int × Int)), goL w (K, x - y) ((n' + y) :: ns) cs = goL w (K, x) (n' :: ns) cs := fun K x y cs => by
    cases cs with
    | nil => show (K, x - y + (n' + y)) = (K, x + n'); congr 1; omega
    | cons d cs =>
      show goL w (goc w (K, x - y + (n' + y)) d) ns cs = goL w (goc w (K, x + n') d) ns cs
      rw [show x - y + (n' + y) = x + n' by omega]
  simp only [goL]
  rw [h1]
  exact h3 _ _ _ cs
theorem goL_strike {w : Web} {a : List Kp × Int} {n n2 : Int} {ns : List Int} {c : Int × Int} {cs : List (Int × Int)} (hr : Red w a.1) (h : SOk w ⟨c.1, c.2, 0⟩) : goL w a (n :: 0 :: n2 :: ns) (c :: rvc c :: cs) = goL w a ((n + n2) :: ns) cs := by
  have h1 := go1_strike (n := a.2 + n) (k := 0) hr h
  have h2 : goc w ((goc w (a.1, a.2 + n) c).1, (goc w (a.1, a.2 + n) c).2 + 0) (rvc c) = (a.1, a.2 + n) := by
    rw [Int.add_zero]
    rw [Int.add_zero] at h1
    exact h1
  simp only [goL]
  rw [h2]
  cases cs with
  | nil => show (a.1, a.2 + n + n2) = (a.1, a.2 + (n + n2)); rw [Int.add_assoc]
  | cons d cs =>
    show goL w (goc w (a.1, a.2 + n + n2) d) ns cs = goL w (goc w (a.1, a.2 + (n + n2)) d) ns cs
    rw [Int.add_assoc]
theorem split_at {α : Type} {l : List α} {i : Nat} {d : α} (h : i < l.length) : l = l.take i ++ l.getD i d :: l.drop (i + 1) := by
  conv => lhs; rw [← List.take_append_drop i l, List.drop_eq_getElem_cons h]
  simp [h]
theorem drop_cons {α : Type} {l : List α} {i : Nat} {d : α} (h : i < l.length) : l.drop i = l.getD i d :: l.drop (i + 1) := by
  rw [List.drop_eq_getElem_cons h]
  simp [h]
theorem app_go {w : Web} {k : Wlk} {mv : Mv} (g : Good w k mv) (hw : WebOk w 1000) (hs : ∀ s ∈ k.steps, SOk w s) : goW w (app w k mv) = goW w k := by
  have hnl := nums_len k
  have hcl := crs_len k
  have hcp : ∀ c ∈ crs k, SOk w ⟨c.1, c.2, 0⟩ := fun c hc => by
    obtain ⟨s, hsm, rfl⟩ := List.mem_map.mp hc
    have := hs s hsm
    exact ⟨this.sd, this.p0, this.q0⟩
  have htk : ∀ i c, c ∈ (crs k).take i → (eCr w c).p ≠ 0 := fun i c hc => (hcp c (List.mem_of_mem_take hc)).p0
  rw [goW_goL, goW_goL]
  show goL w ([], 0) (nums (app w k mv)) ((app w k mv).steps.map cr) = _
  rw [app_nums g, app_cr g]
  cases mv with
  | carry i m =>
    obtain ⟨g1, g2⟩ := g
    show goL w ([], 0) (((nums k).set i (k.n i - (eCr w (k.c i)).p * m)).set (i + 1) (k.n (i + 1) + (eCr w (k.c i)).q * m)) (crs k) = _
    have e1 : nums k = (nums k).take i ++ k.n i :: k.n (i + 1) :: (nums k).drop (i + 2) := by
      conv => lhs; rw [← List.take_append_drop i (nums k), drop_cons (d := 0) (show i < (nums k).length by omega), drop_cons (d := 0) (show i + 1 < (nums k).length by omega)]
      rfl
    have e2 : crs k = (crs k).take i ++ k.c i :: (crs k).drop (i + 1) := split_at (d := (0, 0)) (by omega)
    have e3 : ∀ x y : Int, ((nums k).set i x).set (i + 1) y = (nums k).take i ++ x :: y :: (nums k).drop (i + 2) := fun x y => by
      apply List.ext_getElem?
      intro j
      have hl : ((nums k).take i).length = i := by simp; omega
      rcases Nat.lt_trichotomy j i with hj | rfl | hj
      · rw [List.getElem?_set_ne (by omega), List.getElem?_set_ne (by omega), List.getElem?_append_left (by omega), List.getElem?_take_of_lt hj]
      · rw [List.getElem?_set_ne (by omega), List.getElem?_set_self (by omega), List.getElem?_append_right (by omega), hl, Nat.sub_self]
        rfl
      · rw [List.getElem?_append_right (by omega), hl]
        obtain ⟨d, rfl⟩ : ∃ d, j = i + 1 + d := ⟨j - (i + 1), by omega⟩
        rw [show i + 1 + d - i = d + 1 by omega]
        cases d with
        | zero => rw [Nat.add_zero, List.getElem?_set_self (by rw [List.length_set]; omega)]; rfl
        | succ d =>
          rw [List.getElem?_set_ne (by omega), List.getElem?_set_ne (by omega)]
          show _ = ((nums k).drop (i + 2))[d]?
          rw [List.getElem?_drop]
          congr 1
          omega
    rw [e3]
    have hln : ((nums k).take i).length = ((crs k).take i).length := by simp; omega
    conv => rhs; rw [e1, e2]
    conv => lhs; rw [e2]
    rw [goL_app _ _ _ _ _ hln, goL_app _ _ _ _ _ hln]
    exact goL_carry (hcp _ (List.mem_of_getElem? (c_at g1))).p0
  | strike i =>
    obtain ⟨g1, g2, g3⟩ := g
    show goL w ([], 0) ((nums k).take i ++ [k.n i + k.n (i + 2)] ++ (nums k).drop (i + 3)) ((crs k).take i ++ (crs k).drop (i + 2)) = _
    have e1 : nums k = (nums k).take i ++ k.n i :: k.n (i + 1) :: k.n (i + 2) :: (nums k).drop (i + 3) := by
      conv => lhs; rw [← List.take_append_drop i (nums k), drop_cons (d := 0) (show i < (nums k).length by omega), drop_cons (d := 0) (show i + 1 < (nums k).length by omega), drop_cons (d := 0) (show i + 1 + 1 < (nums k).length by omega)]
      rfl
    have e2 : crs k = (crs k).take i ++ k.c i :: k.c (i + 1) :: (crs k).drop (i + 2) := by
      conv => lhs; rw [← List.take_append_drop i (crs k), drop_cons (d := (0, 0)) (show i < (crs k).length by omega), drop_cons (d := (0, 0)) (show i + 1 < (crs k).length by omega)]
      rfl
    have hln : ((nums k).take i).length = ((crs k).take i).length := by simp; omega
    have e4 : k.c (i + 1) = rvc (k.c i) := by
      rw [g3]
      unfold rvc
      simp
    conv => rhs; rw [e1, e2]
    rw [List.append_assoc, goL_app _ _ _ _ _ hln, goL_app _ _ _ _ _ hln, g2, e4]
    exact (goL_strike (goP_red _ _ _ (htk i) .nil) (hcp _ (List.mem_of_getElem? (c_at (by omega))))).symm
  | put i t s a =>
    obtain ⟨g1, g2, g3, g4⟩ := g
    show goL w ([], 0) ((nums k).take i ++ [a, 0, k.n i - a] ++ (nums k).drop (i + 1)) ((crs k).take i ++ [(t, s), (t, -s)] ++ (crs k).drop i) = _
    have e1 : nums k = (nums k).take i ++ k.n i :: (nums k).drop (i + 1) := split_at (d := 0) (by omega)
    have e2 : crs k = (crs k).take i ++ (crs k).drop i := (List.take_append_drop i (crs k)).symm
    have hln : ((nums k).take i).length = ((crs k).take i).length := by simp; omega
    have so : SOk w ⟨t, s, 0⟩ := by
      obtain ⟨y, hy⟩ := g2.1
      have he : w.e ⟨t, s, 0⟩ = rev y s := e_of (s := ⟨t, s, 0⟩) hy
      have ok := (hw.at hy).rev s
      exact ⟨g2.2, by rw [he]; exact ok.p0, by rw [he]; exact ok.q0⟩
    conv => rhs; rw [e1, e2]
    rw [List.append_assoc, List.append_assoc, goL_app _ _ _ _ _ hln, goL_app _ _ _ _ _ hln]
    have := goL_strike (w := w) (a := goP w ([], 0) ((nums k).take i) ((crs k).take i)) (n := a) (n2 := k.n i - a) (ns := (nums k).drop (i + 1)) (c := (t, s)) (cs := (crs k).drop i) (goP_red _ _ _ (htk i) .nil) so
    rw [show a + (k.n i - a) = k.n i by omega] at this
    exact this
theorem app_plain {w : Web} {k : Wlk} {mv : Mv} (g : Good w k mv) (h : WK w k) : plainW w (app w k mv) = plainW w k := plainW_iff.mpr ⟨app_room w k mv, app_go g h.wo h.so⟩
theorem WebOk.up {w : Web} {a b : Int} (h : WebOk w a) (l : a ≤ b) : WebOk w b := ⟨h.r0, fun t ht => by
  have := h.tie t ht
  exact ⟨this.v0, this.v1, this.w0, this.w1, this.p0, Int.le_trans this.p1 l, this.q0, Int.le_trans this.q1 l⟩⟩
end K
set_option Elab.async false
set_option maxRecDepth 100000
set_option linter.all false
set_option autoImplicit false
set_option maxHeartbeats 4000000
namespace K
open PySem L2 Dl
variable [TabF]
/-! ### the same walk, spelled otherwise -/
/-- what stays however a walk is spelled -/
structure Alike (w : Web) (k : Wlk) (h : Int) (n : Nat) (k' : Wlk) : Prop where
  ft : FitC w k'.room (crs k') h
  ln : k'.steps.length ≤ k.steps.length + 2 * n
  pl : plainW w k' = plainW w k
  rm : k'.room = k.room
theorem Alike.app {w : Web} {k k1 : Wlk} {h : Int} {n d : Nat} {mv : Mv} (A : Alike w k h n k1) (g : Good w k1 mv) (hl : k1.steps.length ≤ 100) (hd : (app w k1 mv).steps.length ≤ k.steps.length + 2 * d) : Alike w k h d (app w k1 mv) :=
  ⟨app_fit A.ft g hl, hd, by rw [app_plain g (A.ft.wk (k := k1) rfl), A.pl], by rw [app_room, A.rm]⟩
end K
set_option Elab.async false
set_option maxRecDepth 100000
set_option linter.all false
set_option autoImplicit false
set_option maxHeartbeats 4000000
namespace K
open PySem L2 Dl
variable [TabF]
/-! ### crossings, ends, joins -/
abbrev C_law_end : Cn := fun rs g Q => ∃ w k, rs = [.d (eW w), .d (eK k)] ∧ StepsOk w k.steps ∧ Q (.d (.int (endR w k))) g
def w_law_end : WS :=
  (sSeq (sIf (wB (eSc (eqD false) (eIxN 1 (eC (.int 2))) (eTup aNil))) (sRet (eIxN 1 (eC (.int 0)))) sNil)
  (sSeq (sAsg (eIx (eIxN 1 (eC (.int 2))) (eUn negD (eC (.int 1)))) (gT 3 (gsCons (gN 2) (gsCons (gN 3) (gsCons (gN 4) gsNil)))))
  (sRet (eIx (eCallP C_law_ends (aCons (eName 0) (aCons (eName 2) (aCons (eName 3) aNil)))) (eC (.int 1))))))
theorem len_law_end (rs : List Rv) (g : Option Nat) (Q : Rv → Option Nat → Prop) (h : C_law_end rs g Q) : rs.length = 2 := by
  obtain ⟨_, _, rfl, _⟩ := h
  rfl
theorem spec_law_end (rs : List Rv) (g : Option Nat) (Q : Rv → Option Nat → Prop) (h : C_law_end rs g Q) : w_law_end (startC 5 rs g) (endP Q) fun _ _ => False := by
  obtain ⟨w, k, rfl, hs, hQ⟩ := h
  simp -dsimp only [rQ_, w_law_end, eK]
  refine ⟨by decide, ?_⟩
  rw [eqf_nilT eS_shp]
  try simp -dsimp only [rQ_]
  by_cases hk : k.steps = []
  · simp -dsimp only [rQ_, hk, List.isEmpty_nil]
    simpa [endR, hk] using hQ
  · obtain ⟨l, s, hl⟩ : ∃ l s, k.steps = l ++ [s] := ⟨_, _, (List.dropLast_concat_getLast hk).symm⟩
    rw [endR_snoc hl] at hQ
    obtain ⟨x, hx⟩ := (hs s (by rw [hl]; simp)).1
    rw [e_of hx] at hQ
    simp -dsimp only [rQ_, hl, List.map_append, emp_snoc, eS]
    refine ⟨w, s.tie, s.side, x, rfl, hx, ?_⟩
    simp -dsimp only [rQ_, eT]
    exact hQ
abbrev C_law_joined : Cn := fun rs g Q => ∃ a b, rs = [.d (eK a), .d (eK b)] ∧ a.steps.length + b.steps.length ≤ 1000 ∧ Q (.d (eK (joinW a b))) g
def w_law_joined : WS :=
  (sSeq (sIf (wB (eSc (eqD false) (eIxN 0 (eC (.int 2))) (eTup aNil))) (sRet (eTup (aCons (eIxN 0 (eC (.int 0))) (aCons (eOp addD (eIxN 0 (eC (.int 1))) (eIxN 1 (eC (.int 1)))) (aCons (eIxN 1 (eC (.int 2))) aNil))))) sNil)
  (sSeq (sAsg (eIx (eIxN 0 (eC (.int 2))) (eUn negD (eC (.int 1)))) (gT 3 (gsCons (gN 2) (gsCons (gN 3) (gsCons (gN 4) gsNil)))))
  (sRet (eTup (aCons (eIxN 0 (eC (.int 0))) (aCons (eIxN 0 (eC (.int 1))) (aCons (eOp addD (eOp addD (eSl (eIxN 0 (eC (.int 2))) oNone (oSome (eUn negD (eC (.int 1))))) (eTup (aCons (eTup (aCons (eName 2) (aCons (eName 3) (aCons (eAddN 4 (eIxN 1 (eC (.int 1)))) aNil)))) aNil))) (eIxN 1 (eC (.int 2)))) aNil)))))))
theorem len_law_joined (rs : List Rv) (g : Option Nat) (Q : Rv → Option Nat → Prop) (h : C_law_joined rs g Q) : rs.length = 2 := by
  obtain ⟨_, _, rfl, _⟩ := h
  rfl
theorem spec_law_joined (rs : List Rv) (g : Option Nat) (Q : Rv → Option Nat → Prop) (h : C_law_joined rs g Q) : w_law_joined (startC 5 rs g) (endP Q) fun _ _ => False := by
  obtain ⟨a, b, rfl, hl, hQ⟩ := h
  simp -dsimp only [rQ_, w_law_joined, eK]
  refine ⟨by decide, ?_⟩
  rw [eqf_nilT eS_shp]
  try simp -dsimp only [rQ_]
  by_cases hk : a.steps = []
  · rw [joinW_nil hk] at hQ
    simp -dsimp only [rQ_, hk, List.isEmpty_nil]
    exact ⟨by decide, hQ⟩
  · obtain ⟨l, s, he⟩ : ∃ l s, a.steps = l ++ [s] := ⟨_, _, (List.dropLast_concat_getLast hk).symm⟩
    rw [joinW_snoc he] at hQ
    have hl2 : l.length + 1 + b.steps.length ≤ 1000 := by rw [he] at hl; simpa using hl
    simp -dsimp only [rQ_, he, List.map_append, emp_snoc, eS]
    simp -dsimp only [rQ_, cut_last]
    refine ⟨by decide, by decide, by simp; omega, by simp; omega, by decide, ?_⟩
    simp only [eK, List.map_append, eS, List.map_cons, List.map_nil] at hQ
    simpa using hQ
/-! ### turns that go over leave the walk equal -/
theorem over_go {w : Web} (wo : WebOk w 1000) (n0 v : Int) : ∀ l : List Stp, StepsOk w l → ∀ u, overW w (l.map cr) v = some u → l.foldl (go1 w) ([], n0 + v) = ((l.foldl (go1 w) ([], n0)).1, (l.foldl (go1 w) ([], n0)).2 + u) := by
  intro l
  refine snocInd (P := fun l => StepsOk w l → ∀ u, overW w (l.map cr) v = some u → l.foldl (go1 w) ([], n0 + v) = ((l.foldl (go1 w) ([], n0)).1, (l.foldl (go1 w) ([], n0)).2 + u)) (fun _ u h => ?_) (fun l s ih hs u h => ?_) l
  · have h : some v = some u := h
    cases h
    rfl
  · have ok := hs
    obtain ⟨y, hy, he, hok⟩ := hs.e wo (s := s) (by simp)
    rw [List.map_append, List.map_cons, List.map_nil, overW_snoc] at h
    cases hu : overW w (l.map cr) v with
    | none => rw [hu] at h; cases h
    | some u' =>
      have e := ih (fun z hz => hs z (List.mem_append_left _ hz)) u' hu
      rw [hu] at h
      rw [List.foldl_append, List.foldl_append, e]
      simp only [List.foldl_cons, List.foldl_nil]
      generalize l.foldl (go1 w) ([], n0) = a
      obtain ⟨K, n⟩ := a
      have hp : (w.e s).p ≠ 0 := hok.p0
      have e3 : eCr w (cr s) = w.e s := rfl
      simp only [over1, Option.bind_some, e3] at h
      split at h
      · rename_i h0
        have hd : (w.e s).p ∣ u' := Int.dvd_of_fmod_eq_zero ((fmod_iff hp).mpr h0)
        obtain ⟨m, rfl⟩ := hd
        have h2 : ((w.e s).p * m).fdiv (w.e s).p = m := by rw [Int.mul_comm, Int.mul_fdiv_cancel _ hp]
        rw [h2] at h
        cases h
        rw [go1_carry hp, go1_add, Int.mul_comm]
      · cases h
theorem over_plain {w : Web} {k : Wlk} (h : WK w k) {v u e : Int} (ho : overW w (crs k) v = some u) : plainW w (joinW ⟨k.room, v, []⟩ k) = plainW w (joinW k ⟨e, u, []⟩) := by
  refine plainW_iff.mpr ⟨by rw [joinW_room, joinW_room], ?_⟩
  rw [joinW_nil rfl]
  unfold goW
  show k.steps.foldl (go1 w) ([], v + k.k) = _
  rw [Int.add_comm, over_go h.wo k.k v k.steps h.st u ho]
  rcases List.eq_nil_or_concat k.steps with hk | ⟨l, s, hk⟩
  · rw [joinW_nil hk, hk]
    rfl
  · rw [List.concat_eq_append] at hk
    rw [joinW_snoc hk, hk]
    simp only [List.append_nil, List.foldl_append, List.foldl_cons, List.foldl_nil]
    rw [go1_add]
end K
set_option Elab.async false
set_option maxRecDepth 100000
set_option linter.all false
set_option autoImplicit false
set_option maxHeartbeats 4000000
namespace K
open PySem L2 Dl
variable [TabF]
theorem log_pow2 {x : Int} {n : Nat} (h : x.natAbs ≤ 1000 ^ n) (hn : n ≤ 150) : x.natAbs.log2 < 1920 := by
  by_cases h0 : x.natAbs = 0
  · rw [h0]; decide
  refine (Nat.log2_lt h0).mpr (Nat.lt_of_le_of_lt h ?_)
  refine Nat.lt_of_le_of_lt (Nat.pow_le_pow_right (by decide) hn) ?_
  refine Nat.lt_of_lt_of_le (show 1000 ^ 150 < 2 ^ 1600 by decide +kernel) (Nat.pow_le_pow_right (by decide) (by decide))
end K
set_option Elab.async false
set_option maxRecDepth 100000
set_option linter.all false
set_option autoImplicit false
set_option maxHeartbeats 4000000
namespace K
open PySem L2 Dl
variable [TabF]
/-! ### tolls of the way back -/
def revc (cs : List (Int × Int)) : List (Int × Int) := cs.reverse.map rvc
theorem CsOk.rev {w : Web} {cs : List (Int × Int)} (h : CsOk w cs) : CsOk w (revc cs) := fun c hc => by
  obtain ⟨d, hd, rfl⟩ := List.mem_map.mp hc
  exact crOk_neg (h d (List.mem_reverse.mp hd))
theorem over1_some {w : Web} {c : Int × Int} {v u : Int} (hp : (eCr w c).p ≠ 0) : over1 w (some v) c = some u ↔ ∃ t, v = (eCr w c).p * t ∧ u = t * (eCr w c).q := by
  show (if v.fmod ((eCr w c).p.natAbs : Int) = 0 then some (v.fdiv (eCr w c).p * (eCr w c).q) else none) = some u ↔ _
  constructor
  · intro h
    split at h
    · rename_i h0
      obtain ⟨t, ht⟩ := Int.dvd_of_fmod_eq_zero ((fmod_iff hp).mpr h0)
      refine ⟨t, ht, ?_⟩
      rw [ht, Int.mul_comm (eCr w c).p t, Int.mul_fdiv_cancel _ hp] at h
      exact (Option.some.inj h).symm
    · cases h
  · rintro ⟨t, ht, hu⟩
    rw [if_pos ((fmod_iff hp).mp (by rw [ht]; exact Int.fmod_eq_zero_of_dvd ⟨t, rfl⟩)), ht, Int.mul_comm (eCr w c).p t, Int.mul_fdiv_cancel _ hp, hu]
end K
set_option Elab.async false
set_option maxRecDepth 100000
set_option linter.all false
set_option autoImplicit false
set_option maxHeartbeats 4000000
set_option Elab.async false
set_option maxRecDepth 100000
set_option linter.all false
set_option autoImplicit false
set_option maxHeartbeats 4000000
set_option Elab.async false
set_option maxRecDepth 100000
set_option linter.all false
set_option autoImplicit false
set_option maxHeartbeats 4000000
set_option Elab.async false
set_option maxRecDepth 100000
set_option linter.all false
set_option autoImplicit false
set_option maxHeartbeats 4000000
set_option Elab.async false
set_option maxRecDepth 100000
set_option linter.all false
set_option autoImplicit false
set_option maxHeartbeats 4000000
set_option Elab.async false
set_option maxRecDepth 100000
set_option linter.all false
set_option autoImplicit false
set_option maxHeartbeats 4000000
set_option Elab.async false
set_option maxRecDepth 100000
set_option linter.all false
set_option autoImplicit false
set_option maxHeartbeats 4000000
set_option Elab.async false
set_option maxRecDepth 100000
set_option linter.all false
set_option autoImplicit false
set_option maxHeartbeats 4000000
set_option Elab.async false
set_option maxRecDepth 100000
set_option linter.all false
set_option autoImplicit false
set_option maxHeartbeats 4000000
namespace K
open PySem L2 Dl
variable [TabF]
/-! ### bounds; joined walks -/
abbrev Cnumbers_of : Cn := fun rs g Q => ∃ k : Wlk, rs = [.d (eK k)] ∧ k.steps.length ≤ 1000 ∧ Q (.own ((nums k).map .int)) g
def wnumbers_of : WS :=
  (sRet (eOp addD (eLst (aCons (eIxN 0 (eC (.int 1))) aNil)) (eLc (iTpl (eIxN 0 (eC (.int 2)))) (gN 1) wYes (eIxN 1 (eC (.int 2))) [1])))
theorem lennumbers_of (rs : List Rv) (g : Option Nat) (Q : Rv → Option Nat → Prop) (h : Cnumbers_of rs g Q) : rs.length = 1 := by
  obtain ⟨k, rfl, _⟩ := h
  rfl
theorem specnumbers_of (rs : List Rv) (g : Option Nat) (Q : Rv → Option Nat → Prop) (h : Cnumbers_of rs g Q) : wnumbers_of (startC 2 rs g) (endP Q) fun _ _ => False := by
  obtain ⟨k, rfl, hl, hQ⟩ := h
  simp -dsimp only [rQ_, wnumbers_of, eK]
  refine ⟨by decide, by simp [nown], ?_⟩
  refine lcW_mpa eS (fun s => .int s.k) _ (fun s hs R S hR => ?_) (by omega) ?_
  · simp -dsimp only [rQ_, Turn1, wipeE, eS]
    exact hR
  try simp -dsimp only [rQ_]
  unfold nums at hQ
  simp at hQ
  exact ⟨by simp; omega, hQ⟩
def NB (B : Nat) (k : Wlk) : Prop := ∀ x ∈ nums k, x.natAbs ≤ B
theorem log_top {x : Int} (h : (x.natAbs : Int) < top300) : x.natAbs.log2 < 1920 := by
  have ht : top300 < 2 ^ 1000 := by decide +kernel
  by_cases h0 : x.natAbs = 0
  · rw [h0]; decide
  · refine (Nat.log2_lt h0).mpr ?_
    have h1 : x.natAbs < 2 ^ 1000 := by
      have h2 : (x.natAbs : Int) < ((2 ^ 1000 : Nat) : Int) := Int.lt_trans h (by rw [Int.natCast_pow]; exact ht)
      exact Int.ofNat_lt.mp h2
    exact Nat.lt_of_lt_of_le h1 (Nat.pow_le_pow_right (by decide) (by decide))
theorem joinW_nums (a b : Wlk) : ∃ L x, nums a = L ++ [x] ∧ nums (joinW a b) = L ++ [x + b.k] ++ b.steps.map Stp.k ∧ L.length = a.steps.length := by
  obtain ⟨r, k, l⟩ := a
  rcases List.eq_nil_or_concat l with rfl | ⟨l, s, rfl⟩
  · exact ⟨[], k, rfl, by rw [joinW_nil rfl]; rfl, rfl⟩
  · rw [List.concat_eq_append]
    refine ⟨k :: l.map Stp.k, s.k, by simp [nums], ?_, by simp⟩
    rw [joinW_snoc rfl]
    simp [nums]
def joinL (k : Wlk) (ks : List Wlk) : Wlk := ks.foldl joinW k
theorem joinL_snoc (k : Wlk) (ks : List Wlk) (l : Wlk) : joinL k (ks ++ [l]) = joinW (joinL k ks) l := by
  unfold joinL
  rw [List.foldl_append]
  rfl
theorem joinW_len (a b : Wlk) : (joinW a b).steps.length = a.steps.length + b.steps.length := by
  rw [← List.length_map (f := cr), joinW_cr]
  simp
theorem joinL_room (k : Wlk) : ∀ ks, (joinL k ks).room = k.room := by
  refine snocInd (P := fun ks => (joinL k ks).room = k.room) rfl (fun ks l ih => ?_)
  rw [joinL_snoc, joinW_room, ih]
def lens (ks : List Wlk) : Nat := (ks.map fun k => k.steps.length).sum
theorem joinL_len (k : Wlk) : ∀ ks, (joinL k ks).steps.length = k.steps.length + lens ks := by
  refine snocInd (P := fun ks => (joinL k ks).steps.length = k.steps.length + lens ks) rfl (fun ks l ih => ?_)
  rw [joinL_snoc, joinW_len, ih]
  unfold lens
  simp
  omega
theorem lens_take (ks : List Wlk) (i : Nat) : lens (ks.take i) ≤ lens ks := by
  conv => rhs; rw [← List.take_append_drop i ks]
  unfold lens
  rw [List.map_append, List.sum_append]
  exact Nat.le_add_right _ _
theorem lens_mem {ks : List Wlk} {i : Nat} {l : Wlk} (h : ks[i]? = some l) : lens (ks.take i) + l.steps.length ≤ lens ks := by
  have := lens_take ks (i + 1)
  rw [take_last h] at this
  unfold lens at this ⊢
  simpa using this
abbrev Cjoined_of_any_size : Cn := fun rs g Q => ∃ k ks, rs = [.d (.list ((k :: ks).map eK))] ∧ k.steps.length + lens ks ≤ 900 ∧ ks.length ≤ 1000 ∧ Q (.d (eK (joinL k ks))) g
def wjoined_of_any_size : WS :=
  (sSeq (sAsg (eCallP Cnumbers_of (aCons (eIxN 0 (eC (.int 0))) aNil)) (gN 1))
  (sSeq (sAsg (eCallP Ccrossings_of (aCons (eIxN 0 (eC (.int 0))) aNil)) (gN 2))
  (sSeq (sFor (iLst (eSlN 0 (oSome (eC (.int 1))) oNone)) (gN 3)
  (sSeq (sSetIM 1 (fun i j => i + j) (eUn negD (eC (.int 1))) (eIxN 3 (eC (.int 1))))
  (sSeq (sExp (eExt 1 (eSl (eCallP Cnumbers_of (aCons (eName 3) aNil)) (oSome (eC (.int 1))) oNone)))
  (sExp (eExt 2 (eCallP Ccrossings_of (aCons (eName 3) aNil)))))))
  (sRet (eCallP Cwalk_with (aCons (eIx (eIxN 0 (eC (.int 0))) (eC (.int 0))) (aCons (eName 1) (aCons (eName 2) aNil))))))))
theorem lenjoined_of_any_size (rs : List Rv) (g : Option Nat) (Q : Rv → Option Nat → Prop) (h : Cjoined_of_any_size rs g Q) : rs.length = 1 := by
  obtain ⟨_, _, rfl, _⟩ := h
  rfl
theorem specjoined_of_any_size (rs : List Rv) (g : Option Nat) (Q : Rv → Option Nat → Prop) (h : Cjoined_of_any_size rs g Q) : wjoined_of_any_size (startC 4 rs g) (endP Q) fun _ _ => False := by
  obtain ⟨k, ks, rfl, hl, hk, hQ⟩ := h
  simp only [wjoined_of_any_size]
  simp -dsimp only [startC, List.map_cons, List.map_nil, List.cons_append, List.nil_append, List.length_cons, List.length_nil, Nat.reduceSub, Nat.reduceAdd, List.replicate_succ, List.replicate_zero]
  try simp -dsimp only [rR_]
  refine ⟨k, rfl, by omega, ?_⟩
  try simp -dsimp only [rR_]
  refine ⟨k, rfl, by omega, ?_⟩
  simp -dsimp only [rR_, slD_l]
  rw [show cutX (eK k :: ks.map eK) (some 1) none = ks.map eK from cut_tl (i := 1) _ (by simp)]
  refine forW_ind _ (fun i c => ∃ (x3 : Option Px), c = ⟨[some (.d (.list (eK k :: ks.map eK))), some (.own ((nums (joinL k (ks.take i))).map .int)), some (.own ((crs (joinL k (ks.take i))).map eC2)), x3.map .d], g⟩) (fun i x c hx hI R hR => ?_) (fun c hI => ?_) _ ⟨none, rfl⟩
  · obtain ⟨x3, rfl⟩ := hI
    obtain ⟨l, hl2, rfl⟩ := map_at hx
    have hle := lens_mem hl2
    have hJ := joinL_len k (ks.take i)
    obtain ⟨L, x, e1, e2, e3⟩ := joinW_nums (joinL k (ks.take i)) l
    have hR' := hR _ ⟨some (eK l), rfl⟩
    rw [take_last hl2, joinL_snoc, e2, show crs (joinW (joinL k (ks.take i)) l) = crs (joinL k (ks.take i)) ++ crs l from joinW_cr _ _] at hR'
    rw [e1]
    try simp -dsimp only [rR_]
    refine itM_last ?_
    simp -dsimp only [rR_, eK]
    refine ⟨L.length, by rw [List.length_map, List.length_append]; exact ixN_last, l, rfl, by omega, ?_⟩
    rw [show (List.map PyData.int (L ++ [x])).set L.length (PyData.int (x + l.k)) = (L ++ [x + l.k]).map .int by simp]
    simp -dsimp only [rR_, slD_l]
    rw [show cutX (List.map PyData.int (nums l)) (some 1) none = (l.steps.map Stp.k).map .int from cut_tl (i := 1) (PyData.int l.k :: (l.steps.map Stp.k).map .int) (by simp)]
    try simp -dsimp only [rR_]
    have hln := nums_len (joinL k (ks.take i))
    rw [e1] at hln
    refine ⟨by simp at hln ⊢; omega, l, rfl, by omega, ?_⟩
    try simp -dsimp only [rR_]
    rw [List.map_append, List.map_append (l₁ := crs _)] at hR'
    refine ⟨by rw [List.length_map, crs_len]; simp; omega, ?_⟩
    exact hR'
  · obtain ⟨x3, rfl⟩ := hI
    rw [List.length_map, List.take_length]
    try simp -dsimp only [rR_]
    refine ⟨_, _, _, rfl, by simp [nums], by rw [nums_len, joinL_len]; omega, ?_⟩
    rw [show crs (joinL k ks) = (joinL k ks).steps.map cr from rfl]
    have := mkW_self (joinL k ks)
    rw [joinL_room] at this
    rw [this]
    try simp -dsimp only [rR_]
    exact hQ
end K
set_option Elab.async false
set_option maxRecDepth 100000
set_option linter.all false
set_option autoImplicit false
set_option maxHeartbeats 4000000
namespace K
open PySem L2 Dl
variable [TabF]
/-! ### places -/
structure Pl where
  b : Int
  ways : List Kp
def toW (p : Pl) : Wlk := endW p.b (p.ways, 0)
def WysOk (w : Web) (K : List Kp) : Prop := ∀ x ∈ K, CrOk w x.t x.s
theorem toW_st {w : Web} {p : Pl} (h : WysOk w p.ways) : StepsOk w (toW p).steps := fun s hs => by
  have h1 : cr s ∈ (toW p).steps.map cr := List.mem_map_of_mem hs
  rw [show (toW p).steps.map cr = p.ways.map Kp.c from mkW_cr (by simp)] at h1
  obtain ⟨x, hx, e⟩ := List.mem_map.mp h1
  have := h x hx
  have e1 : x.t = s.tie := congrArg Prod.fst e
  have e2 : x.s = s.side := congrArg Prod.snd e
  rw [← e1, ← e2]
  exact this
theorem toW_len (p : Pl) : (toW p).steps.length = p.ways.length := endW_len _ _
end K
set_option Elab.async false
set_option maxRecDepth 100000
set_option linter.all false
set_option autoImplicit false
set_option maxHeartbeats 4000000
set_option Elab.async false
set_option maxRecDepth 100000
set_option linter.all false
set_option autoImplicit false
set_option maxHeartbeats 4000000
namespace K
open PySem L2 Dl
variable [TabF]
/-! ### walks that keep places: what they do to rows -/
theorem st_cr {w : Web} {k : Wlk} (h : ∀ c ∈ k.steps.map cr, CrOk w c.1 c.2) : StepsOk w k.steps := fun s hs => h (cr s) (List.mem_map_of_mem hs)
theorem joinW_wk {w : Web} {a b : Wlk} (ha : WK w a) (hb : WK w b) (hl : a.steps.length + b.steps.length ≤ 1000) : WK w (joinW a b) := by
  refine ⟨ha.wo, st_cr fun c hc => ?_, by rw [joinW_len]; exact hl⟩
  rw [joinW_cr] at hc
  rcases List.mem_append.mp hc with hc | hc
  · exact ha.cs c hc
  · exact hb.cs c hc
theorem turn_wk {w : Web} {r t : Int} (wo : WebOk w 1000) : WK w ⟨r, t, []⟩ := ⟨wo, fun s hs => (nomatch hs), Nat.zero_le _⟩
/-- what a place is, so that walks can be made of it -/
structure PlOk (w : Web) (p : Pl) : Prop where
  wo : WebOk w 1000
  ok : WysOk w p.ways
  ln : p.ways.length ≤ 300
  rd : Red w p.ways
  ch : ∃ h, Ch w p.b (p.ways.map Kp.c) h
theorem PlOk.wk {w : Web} {p : Pl} (h : PlOk w p) : WK w (toW p) := ⟨h.wo, toW_st h.ok, by rw [toW_len]; have := h.ln; omega⟩
theorem PlOk.so {w : Web} {p : Pl} (h : PlOk w p) : ∀ x ∈ p.ways, SOk w ⟨x.t, x.s, 0⟩ := fun x hx => by
  have c := h.ok x hx
  obtain ⟨y, hy⟩ := c.1
  have e : w.e ⟨x.t, x.s, 0⟩ = rev y x.s := e_of (s := ⟨x.t, x.s, 0⟩) hy
  have ok := (h.wo.at hy).rev x.s
  exact ⟨c.2, by rw [e]; exact ok.p0, by rw [e]; exact ok.q0⟩
end K
set_option Elab.async false
set_option maxRecDepth 100000
set_option linter.all false
set_option autoImplicit false
set_option maxHeartbeats 4000000
set_option Elab.async false
set_option maxRecDepth 100000
set_option linter.all false
set_option autoImplicit false
set_option maxHeartbeats 4000000
namespace K
open PySem L2 Dl
variable [TabF]
/-! ### what is drawn, and how great it is -/
theorem NB.back {B : Nat} {w : Web} {k : Wlk} (h : NB B k) : NB B (backW w k) := by
  intro x hx
  rw [back_nums] at hx
  obtain ⟨y, hy, rfl⟩ := List.mem_map.mp hx
  rw [Int.natAbs_neg]
  exact h y (List.mem_reverse.mp hy)
theorem NB.join {A B : Nat} {a b : Wlk} (ha : NB A a) (hb : NB B b) : NB (A + B) (joinW a b) := by
  obtain ⟨L, x, e1, e2, _⟩ := joinW_nums a b
  intro y hy
  rw [e2] at hy
  have hk := hb b.k List.mem_cons_self
  rcases List.mem_append.mp hy with hy | hy
  · rcases List.mem_append.mp hy with hy | hy
    · have := ha y (by rw [e1]; exact List.mem_append_left _ hy)
      omega
    · simp only [List.mem_cons, List.not_mem_nil, or_false] at hy
      subst hy
      have := ha x (by rw [e1]; simp)
      omega
  · have := hb y (List.mem_cons_of_mem _ hy)
    omega
end K
set_option Elab.async false
set_option maxRecDepth 100000
set_option linter.all false
set_option autoImplicit false
set_option maxHeartbeats 4000000
namespace K
open PySem L2 Dl
variable [TabF]
theorem enum_at {l : List Tie} {i : Nat} {x : Px} (h : (enumX 0 (l.map eT))[i]? = some x) : ∃ t, l[i]? = some t ∧ x = .tuple [.int i, eT t] := by
  have hi : i < l.length := by
    have := (List.getElem?_eq_some_iff.mp h).1
    rw [enumX_length, List.length_map] at this
    exact this
  have e : l[i]? = some l[i] := by simp [hi]
  have q := enumX_get (l.map eT) 0 i (eT l[i]) (map_of eT e)
  rw [h] at q
  refine ⟨l[i], e, ?_⟩
  rw [Option.some.inj q, Int.zero_add]
abbrev Cways_out : Cn := fun rs g Q => ∃ w r, rs = [.d (eW w), .d (.int r)] ∧ w.ties.length ≤ 1000 ∧ Q (.d (.tuple ((outs w r).map eC2))) g
def wways_out : WS :=
  (sSeq (sAsg (eLst aNil) (gN 2))
  (sSeq (sFor (iEnmT (aCons (eIxN 0 (eC (.int 1))) aNil)) (gT 2 (gsCons (gN 3) (gsCons (gN 4) gsNil)))
  (sSeq (sIf (wB (eScR 1 (eqD false) (eIxN 4 (eC (.int 0))))) (sExp (eApp 2 (eTup (aCons (eName 3) (aCons (eC (.int 1)) aNil))))) sNil)
  (sIf (wB (eScR 1 (eqD false) (eIxN 4 (eC (.int 1))))) (sExp (eApp 2 (eTup (aCons (eName 3) (aCons (eUn negD (eC (.int 1))) aNil))))) sNil)))
  (sRet (eCB tupC (aCons (eName 2) aNil)))))
theorem lenways_out (rs : List Rv) (g : Option Nat) (Q : Rv → Option Nat → Prop) (h : Cways_out rs g Q) : rs.length = 2 := by
  obtain ⟨w, t, rfl, _⟩ := h
  rfl
theorem specways_out (rs : List Rv) (g : Option Nat) (Q : Rv → Option Nat → Prop) (h : Cways_out rs g Q) : wways_out (startC 5 rs g) (endP Q) fun _ _ => False := by
  obtain ⟨w, r, rfl, hl, hQ⟩ := h
  simp -dsimp only [rQ_, wways_out, eW]
  refine ⟨by decide, ?_⟩
  refine forW_ind _ (fun i c => ∃ (x3 x4 : Option Rv), c = ⟨[some (.d (.tuple [.int w.rooms, .tuple (w.ties.map eT)])), some (.d (.int r)), some (.own ((outsN w r i).map eC2)), x3, x4], g⟩) (fun i x c hx hI R hR => ?_) (fun c hI => ?_) _ ⟨_, _, rfl⟩
  · obtain ⟨x3, x4, rfl⟩ := hI
    obtain ⟨t, ht, rfl⟩ := enum_at hx
    have hn := outsN_len w r i
    have hil : i < w.ties.length := (List.getElem?_eq_some_iff.mp ht).1
    have hs := outsN_succ w r i ht
    simp -dsimp only [rQ_, eT]
    by_cases hv : t.v = r
    · have hvb : (t.v == r) = true := by simpa using hv
      simp -dsimp only [rQ_, hvb]
      refine ⟨by decide, by simp; omega, ?_⟩
      by_cases hw : t.w = r
      · have hwb : (t.w == r) = true := by simpa using hw
        simp -dsimp only [rQ_, hwb]
        refine ⟨by decide, by simp; omega, hR _ ⟨some (.d (.int i)), some (.d (eT t)), ?_⟩⟩
        rw [hs]
        simp [hv, hw, eC2, eT]
      · have hwb : (t.w == r) = false := by simpa using hw
        simp -dsimp only [rQ_, hwb]
        refine hR _ ⟨some (.d (.int i)), some (.d (eT t)), ?_⟩
        rw [hs]
        simp [hv, hw, eC2, eT]
    · have hvb : (t.v == r) = false := by simpa using hv
      simp -dsimp only [rQ_, hvb]
      by_cases hw : t.w = r
      · have hwb : (t.w == r) = true := by simpa using hw
        simp -dsimp only [rQ_, hwb]
        refine ⟨by decide, by simp; omega, hR _ ⟨some (.d (.int i)), some (.d (eT t)), ?_⟩⟩
        rw [hs]
        simp [hv, hw, eC2, eT]
      · have hwb : (t.w == r) = false := by simpa using hw
        simp -dsimp only [rQ_, hwb]
        refine hR _ ⟨some (.d (.int i)), some (.d (eT t)), ?_⟩
        rw [hs]
        simp [hv, hw, eT]
  · obtain ⟨x3, x4, rfl⟩ := hI
    try simp -dsimp only [rQ_]
    rw [enumX_length, List.length_map]
    exact hQ
end K
set_option Elab.async false
set_option maxRecDepth 100000
set_option linter.all false
set_option autoImplicit false
set_option maxHeartbeats 4000000
namespace K
open PySem L2 Dl
variable [TabF]
/-! ### rooms that hang together -/
def Adj (ts : List Tie) (u v : Int) : Prop := ∃ t ∈ ts, (t.v = u ∧ t.w = v) ∨ (t.w = u ∧ t.v = v)
inductive Conn (ts : List Tie) (u : Int) : Int → Prop
  | refl : Conn ts u u
  | step {v x : Int} : Conn ts u v → Adj ts v x → Conn ts u x
theorem Adj.symm {ts : List Tie} {u v : Int} (h : Adj ts u v) : Adj ts v u := by
  obtain ⟨t, ht, h | h⟩ := h
  · exact ⟨t, ht, .inr ⟨h.2, h.1⟩⟩
  · exact ⟨t, ht, .inl ⟨h.2, h.1⟩⟩
theorem Conn.trans {ts : List Tie} {u v x : Int} (h : Conn ts u v) (k : Conn ts v x) : Conn ts u x := by
  induction k with
  | refl => exact h
  | step _ a ih => exact .step ih a
theorem Conn.symm {ts : List Tie} {u v : Int} (h : Conn ts u v) : Conn ts v u := by
  induction h with
  | refl => exact .refl
  | step _ a ih => exact (Conn.step .refl a.symm).trans ih
theorem Conn.mono {ts us : List Tie} {u v : Int} (h : Conn ts u v) (k : ∀ t ∈ ts, t ∈ us) : Conn us u v := by
  induction h with
  | refl => exact .refl
  | step _ a ih =>
    obtain ⟨t, ht, a⟩ := a
    exact .step ih ⟨t, k t ht, a⟩
theorem Conn.range {w : Web} {gr u v : Int} (wo : WebOk w gr) (h : Conn w.ties u v) (h0 : 0 ≤ u ∧ u < w.rooms) : 0 ≤ v ∧ v < w.rooms := by
  induction h with
  | refl => exact h0
  | step _ a ih =>
    obtain ⟨t, ht, a | a⟩ := a
    · rw [← a.2]
      exact ⟨(wo.tie t ht).w0, (wo.tie t ht).w1⟩
    · rw [← a.2]
      exact ⟨(wo.tie t ht).v0, (wo.tie t ht).v1⟩
theorem uniq_sorted {α : Type} (f : α → Int) : ∀ {l m : List α}, l.Pairwise (fun x y => f x < f y) → m.Pairwise (fun x y => f x < f y) → (∀ x, x ∈ l ↔ x ∈ m) → l = m
  | [], [], _, _, _ => rfl
  | [], y :: m, _, _, h => absurd ((h y).mpr List.mem_cons_self) (by simp)
  | x :: l, [], _, _, h => absurd ((h x).mp List.mem_cons_self) (by simp)
  | x :: l, y :: m, h1, h2, h => by
    obtain ⟨a1, a2⟩ := List.pairwise_cons.mp h1
    obtain ⟨b1, b2⟩ := List.pairwise_cons.mp h2
    have e : x = y := by
      rcases List.mem_cons.mp ((h x).mp List.mem_cons_self) with e | hx
      · exact e
      · rcases List.mem_cons.mp ((h y).mpr List.mem_cons_self) with e | hy
        · exact e.symm
        · have p := a1 y hy
          have q := b1 x hx
          omega
    subst e
    rw [uniq_sorted f a2 b2 fun z => ⟨fun hz => ?_, fun hz => ?_⟩]
    · rcases List.mem_cons.mp ((h z).mp (List.mem_cons_of_mem _ hz)) with e | k
      · subst e
        have := a1 z hz
        omega
      · exact k
    · rcases List.mem_cons.mp ((h z).mpr (List.mem_cons_of_mem _ hz)) with e | k
      · subst e
        have := b1 z hz
        omega
      · exact k
theorem nodup_len : ∀ (n : Nat) (l : List Int), l.Nodup → (∀ x ∈ l, 0 ≤ x ∧ x < (n : Int)) → l.length ≤ n
  | 0, [], _, _ => Nat.le_refl _
  | 0, x :: l, _, h => by
    have := h x List.mem_cons_self
    omega
  | n + 1, l, h1, h2 => by
    by_cases hm : (n : Int) ∈ l
    · have ih := nodup_len n (l.erase (n : Int)) (h1.erase _) fun x hx => by
        have q := (h1.mem_erase_iff).mp hx
        have := h2 x q.2
        have := q.1
        omega
      have := List.length_erase_of_mem hm
      omega
    · have ih := nodup_len n l h1 fun x hx => by
        have := h2 x hx
        have : x ≠ (n : Int) := fun z => hm (z ▸ hx)
        omega
      omega
/-- a piece's rooms, ascending -/
structure IsPiece (ts : List Tie) (r : Int) (l : List Int) : Prop where
  asc : l.Pairwise (· < ·)
  mem : ∀ x, x ∈ l ↔ Conn ts r x
theorem IsPiece.uniq {ts : List Tie} {r : Int} {l m : List Int} (h : IsPiece ts r l) (k : IsPiece ts r m) : l = m :=
  uniq_sorted id h.asc k.asc fun x => (h.mem x).trans (k.mem x).symm
theorem IsPiece.of {ts : List Tie} {r s : Int} {l : List Int} (h : IsPiece ts r l) (k : Conn ts r s) : IsPiece ts s l :=
  ⟨h.asc, fun x => (h.mem x).trans ⟨fun q => k.symm.trans q, fun q => k.trans q⟩⟩
theorem asc_of {l m : List Int} (hp : m.Perm l) (hs : m.Pairwise (· ≤ ·)) (hn : l.Nodup) : m.Pairwise (· < ·) := by
  have hm : m.Nodup := hp.nodup_iff.mpr hn
  exact (hs.and hm).imp fun h => by
    have := h.1
    have := h.2
    omega
theorem outs_all {w : Web} {i : Nat} {t : Tie} (h : w.ties[i]? = some t) {r : Int} : (t.v = r → ((i : Int), (1 : Int)) ∈ outs w r) ∧ (t.w = r → ((i : Int), (-1 : Int)) ∈ outs w r) := by
  have hi : i < w.ties.length := (List.getElem?_eq_some_iff.mp h).1
  unfold outs outsN
  constructor
  · intro e
    refine List.mem_flatMap.mpr ⟨i, List.mem_range.mpr hi, ?_⟩
    rw [h]
    simp [e]
  · intro e
    refine List.mem_flatMap.mpr ⟨i, List.mem_range.mpr hi, ?_⟩
    rw [h]
    simp [e]
/-- what a room is next to, some way out leads to -/
theorem adj_out {w : Web} {u v : Int} (h : Adj w.ties u v) : ∃ c ∈ outs w u, ∃ x, Web.at w c.1 x ∧ (rev x c.2).w = v := by
  obtain ⟨t, ht, a⟩ := h
  obtain ⟨i, hi, e⟩ := List.getElem_of_mem ht
  have e' : w.ties[i]? = some t := by rw [List.getElem?_eq_getElem hi, e]
  rcases a with ⟨e1, e2⟩ | ⟨e1, e2⟩
  · exact ⟨_, (outs_all e').1 e1, t, ⟨i, rfl, e'⟩, by simpa [rev] using e2⟩
  · exact ⟨_, (outs_all e').2 e1, t, ⟨i, rfl, e'⟩, by simpa [rev] using e2⟩
theorem out_adj {w : Web} {u : Int} {c : Int × Int} (h : c ∈ outs w u) {x : Tie} (hx : Web.at w c.1 x) : Adj w.ties u (rev x c.2).w := by
  have hv := (outs_ok h).2 x hx
  have hm : x ∈ w.ties := by
    obtain ⟨i, _, e⟩ := hx
    exact List.mem_of_getElem? e
  unfold rev at hv ⊢
  split at hv
  · rename_i hs
    rw [if_pos hs]
    exact ⟨x, hm, .inl ⟨hv, rfl⟩⟩
  · rename_i hs
    rw [if_neg hs]
    exact ⟨x, hm, .inr ⟨hv, rfl⟩⟩
theorem at_uniq {w : Web} {t : Int} {x y : Tie} (h : Web.at w t x) (k : Web.at w t y) : x = y := h.tie.symm.trans k.tie
end K
set_option Elab.async false
set_option maxRecDepth 100000
set_option linter.all false
set_option autoImplicit false
set_option maxHeartbeats 4000000
namespace K
open PySem L2 Dl
variable [TabF]
/-! ### the piece of a room -/
/-- met and waiting rooms -/
structure PI (w : Web) (r : Int) (met wait : List Int) : Prop where
  nd : met.Nodup
  rm : r ∈ met
  co : ∀ x ∈ met, Conn w.ties r x
  su : ∀ x ∈ wait, x ∈ met
  wl : wait.length ≤ met.length
def wlen : Option (Option Rv) → Nat
  | some (some (.own xs)) => xs.length
  | _ => 0
theorem any_int (l : List Int) (i : Int) : ((l.map PyData.int).any fun z => PyData.eqv z (.int i)) = decide (i ∈ l) := by
  induction l with
  | nil => simp
  | cons a l ih =>
    rw [List.map_cons, List.any_cons, ih]
    rw [Bool.eq_iff_iff]
    simp only [PyData.eqv, Bool.or_eq_true, beq_iff_eq, decide_eq_true_eq, List.mem_cons]
    constructor
    · rintro (h | h)
      · exact .inl h.symm
      · exact .inr h
    · rintro (h | h)
      · exact .inl h.symm
      · exact .inr h
theorem flat_ints (l : List Int) : (l.map PyData.int).all flatD = true := by
  rw [List.all_map]
  exact List.all_eq_true.mpr fun _ _ => rfl
theorem inT_l (l : List Int) {i : Int} {P : Rv → Prop} : inD true (.int i) (.list (l.map .int)) P = P (.d (.bool (!decide (i ∈ l)))) := by
  simp only [inD, flat_ints, any_int, true_and]
  simp [flatD]
theorem inF_l (l : List Int) {i : Int} {P : Rv → Prop} : inD false (.int i) (.list (l.map .int)) P = P (.d (.bool (decide (i ∈ l)))) := by
  simp only [inD, flat_ints, any_int, true_and]
  simp [flatD]
theorem inF_t (l : List Int) {i : Int} {P : Rv → Prop} : inD false (.int i) (.tuple (l.map .int)) P = P (.d (.bool (decide (i ∈ l)))) := by
  simp only [inD, flat_ints, any_int, true_and]
  simp [flatD]
abbrev Cpiece_of : Cn := fun rs g Q => ∃ (w : Web) (gr r : Int), rs = [.d (eW w), .d (.int r)] ∧ (WebOk w gr ∧ w.ties.length ≤ 1000 ∧ w.rooms ≤ 1000 ∧ 0 ≤ r ∧ r < w.rooms) ∧ ∀ l, IsPiece w.ties r l → Q (.d (tupI l)) g
def wpiece_of : WS :=
  (sSeq (sAsg (eLst (aCons (eName 1) aNil)) (gN 2))
  (sSeq (sAsg (eLst (aCons (eName 1) aNil)) (gN 3))
  (sSeq (sWh (wTruN 3)
  (sSeq (sAsg (ePop 3) (gN 4))
  (sFor (iTpl (eCallP Cways_out (aCons (eName 0) (aCons (eName 4) aNil)))) (gT 2 (gsCons (gN 5) (gsCons (gN 6) gsNil)))
  (sSeq (sAsg (eIx (eCallP Cends_of (aCons (eName 0) (aCons (eName 5) (aCons (eName 6) aNil)))) (eC (.int 1))) (gN 7))
  (sIf (wB (eScR 2 (inD true) (eName 7))) (sSeq (sExp (eApp 2 (eName 7)))
  (sExp (eApp 3 (eName 7)))) sNil)))))
  (sRet (eCB tupC (aCons (eCB sortIC (aCons (eName 2) aNil)) aNil))))))
theorem lenpiece_of (rs : List Rv) (g : Option Nat) (Q : Rv → Option Nat → Prop) (h : Cpiece_of rs g Q) : rs.length = 2 := by
  obtain ⟨_, _, _, rfl, _⟩ := h
  rfl
theorem specpiece_of (rs : List Rv) (g : Option Nat) (Q : Rv → Option Nat → Prop) (h : Cpiece_of rs g Q) : wpiece_of (startC 8 rs g) (endP Q) fun _ _ => False := by
  obtain ⟨w, gr, r, rfl, ⟨wo, hw, hr, h0, h1⟩, hQ⟩ := h
  simp -dsimp only [rQ_, wpiece_of, Cways_out, Cends_of, sWh]
  refine ⟨by decide, by decide, ?_⟩
  refine whW_ind (fun c => ∃ (met wait : List Int) (x4 x5 x6 x7 : Option Rv), PI w r met wait ∧ (∀ x ∈ met, x ∉ wait → ∀ y, Adj w.ties x y → y ∈ met) ∧ c = ⟨[some (.d (eW w)), some (.d (.int r)), some (.own (met.map .int)), some (.own (wait.map .int)), x4, x5, x6, x7], g⟩) (fun c => 2 * (w.rooms.toNat - wlen c.env[2]?) + wlen c.env[3]?) (fun c hI R hR => ?_) _ ⟨[r], [r], none, none, none, none, ⟨by simp, by simp, ?_, by simp, by simp⟩, ?_, rfl⟩
  · obtain ⟨met, wait, x4, x5, x6, x7, pi, hcl, rfl⟩ := hI
    have hlen : met.length ≤ w.rooms.toNat := nodup_len _ met pi.nd fun x hx => by
      have := (pi.co x hx).range wo ⟨h0, h1⟩
      omega
    simp -dsimp only [rQ_, wTruN]
    by_cases hwt : wait = []
    · simp -dsimp only [rQ_, hwt, List.map_nil, List.isEmpty_nil, Bool.not_true]
      refine ⟨met, rfl, fun ms hp hs => ?_⟩
      try simp -dsimp only [rQ_]
      refine hQ ms ⟨asc_of hp hs pi.nd, fun x => hp.mem_iff.trans ⟨pi.co x, fun hc => ?_⟩⟩
      induction hc with
      | refl => exact pi.rm
      | step _ a ih => exact hcl _ ih (by rw [hwt]; simp) _ a
    · obtain ⟨ys, a, hya⟩ : ∃ ys a, wait = ys ++ [a] := ⟨_, _, (List.dropLast_concat_getLast hwt).symm⟩
      subst hya
      have ham : a ∈ met := pi.su a (by simp)
      have e1 : ((ys ++ [a]).map PyData.int).isEmpty = false := by simp
      have e2 : ((ys ++ [a]).map PyData.int)[((ys ++ [a]).map PyData.int).length - 1]? = some (.int a) := by simp
      have e3 : ((ys ++ [a]).map PyData.int).dropLast = ys.map .int := by simp
      simp only [e1, e2, e3, Bool.not_false, if_true]
      refine ⟨w, a, rfl, hw, ?_⟩
      simp -dsimp only [rQ_, e3]
      refine forW_ind _ (fun i c => ∃ (met2 wait2 : List Int) (x4 x5 x6 x7 : Option Rv), PI w r met2 wait2 ∧ a ∈ met2 ∧ (∀ x ∈ met2, x ∉ wait2 → x ≠ a → ∀ y, Adj w.ties x y → y ∈ met2) ∧ (∀ j < i, ∀ c2, (outs w a)[j]? = some c2 → ∀ t, Web.at w c2.1 t → (rev t c2.2).w ∈ met2) ∧
        2 * (w.rooms.toNat - met2.length) + wait2.length < 2 * (w.rooms.toNat - met.length) + (ys.length + 1) ∧ c = ⟨[some (.d (eW w)), some (.d (.int r)), some (.own (met2.map .int)), some (.own (wait2.map .int)), x4, x5, x6, x7], g⟩) (fun i x c hx hI R2 hR2 => ?_) (fun c hI => ?_) _
        ⟨met, ys, _, _, _, _, ⟨pi.nd, pi.rm, pi.co, fun x hx => pi.su x (List.mem_append_left _ hx), by have := pi.wl; simp at this; omega⟩, ham, fun x hx hn hne => hcl x hx fun h => ?_, fun j hj => absurd hj (Nat.not_lt_zero _), by omega, rfl⟩
      · obtain ⟨met2, wait2, x4, x5, x6, x7, pi2, ha2, hc2, hdn, hm2, rfl⟩ := hI
        obtain ⟨⟨t, s⟩, hc, rfl⟩ := map_at hx
        have hco := List.mem_of_getElem? hc
        obtain ⟨⟨⟨y, hy⟩, hs⟩, hv⟩ := outs_ok hco
        have hadj := out_adj hco hy
        simp -dsimp only [rQ_, eC2]
        refine ⟨w, t, s, y, rfl, hy, ?_⟩
        simp -dsimp only [rQ_, eT]
        rw [inT_l]
        by_cases hin : (rev y s).w ∈ met2
        · simp -dsimp only [rQ_, hin, decide_true, Bool.not_true]
          refine hR2 _ ⟨met2, wait2, x4, some (.d (.int t)), some (.d (.int s)), some (.d (.int (rev y s).w)), pi2, ha2, hc2, fun j hj c2 hj2 t2 ht2 => ?_, hm2, rfl⟩
          by_cases hji : j < i
          · exact hdn j hji c2 hj2 t2 ht2
          · have : j = i := by omega
            subst this
            rw [hc] at hj2
            cases hj2
            rw [at_uniq ht2 hy]
            exact hin
        · simp -dsimp only [rQ_, hin, decide_false, Bool.not_false]
          have hcx := (pi2.co a ha2).step hadj
          have nd2 : (met2 ++ [(rev y s).w]).Nodup := List.nodup_append.mpr ⟨pi2.nd, by simp, fun x hx z hz => by
            rw [List.mem_singleton.mp hz]
            exact fun e => hin (e ▸ hx)⟩
          have co2 : ∀ x ∈ met2 ++ [(rev y s).w], Conn w.ties r x := fun x hx => by
            rcases List.mem_append.mp hx with hx | hx
            · exact pi2.co x hx
            · rw [List.mem_singleton.mp hx]
              exact hcx
          have hln : (met2 ++ [(rev y s).w]).length ≤ w.rooms.toNat := nodup_len _ _ nd2 fun x hx => by
            have := (co2 x hx).range wo ⟨h0, h1⟩
            omega
          have hwl := pi2.wl
          simp only [List.length_append, List.length_cons, List.length_nil] at hln
          refine ⟨by rw [List.length_map]; omega, by rw [List.length_map]; omega, hR2 _ ⟨met2 ++ [(rev y s).w], wait2 ++ [(rev y s).w], x4, some (.d (.int t)), some (.d (.int s)), some (.d (.int (rev y s).w)), ⟨nd2, List.mem_append_left _ pi2.rm, co2, fun x hx => ?_, by simp; omega⟩, List.mem_append_left _ ha2, fun x hx hn hne z hz => ?_, fun j hj c2 hj2 t2 ht2 => ?_, by simp only [List.length_append, List.length_cons, List.length_nil]; omega, by simp⟩⟩
          · rcases List.mem_append.mp hx with hx | hx
            · exact List.mem_append_left _ (pi2.su x hx)
            · exact List.mem_append_right _ hx
          · rcases List.mem_append.mp hx with hx | hx
            · exact List.mem_append_left _ (hc2 x hx (fun h => hn (List.mem_append_left _ h)) hne z hz)
            · exact absurd (List.mem_append_right _ hx) hn
          · by_cases hji : j < i
            · exact List.mem_append_left _ (hdn j hji c2 hj2 t2 ht2)
            · have : j = i := by omega
              subst this
              rw [hc] at hj2
              cases hj2
              rw [at_uniq ht2 hy]
              exact List.mem_append_right _ (by simp)
      · obtain ⟨met2, wait2, x4, x5, x6, x7, pi2, ha2, hc2, hdn, hm2, rfl⟩ := hI
        refine hR _ ⟨met2, wait2, x4, x5, x6, x7, pi2, fun x hx hn y hy => ?_, rfl⟩ ?_
        · by_cases hxa : x = a
          · subst hxa
            obtain ⟨c, hc, t, ht, e⟩ := adj_out hy
            obtain ⟨j, hj, e2⟩ := List.getElem_of_mem hc
            rw [← e]
            exact hdn j (by simpa using hj) c (by rw [List.getElem?_eq_getElem hj, e2]) t ht
          · exact hc2 x hx hn hxa y hy
        · simp [wlen]
          omega
      · rcases List.mem_append.mp h with h | h
        · exact hn h
        · exact hne (List.mem_singleton.mp h)
  · intro x hx
    rw [List.mem_singleton.mp hx]
    exact .refl
  · intro x hx hn
    exact absurd hx hn
end K
set_option Elab.async false
set_option maxRecDepth 100000
set_option linter.all false
set_option autoImplicit false
set_option maxHeartbeats 4000000
namespace K
open PySem L2 Dl
variable [TabF]
/-! ### ways home -/
def keysD (kvs : List (Int × Px)) : List Int := kvs.map (·.1)
def unmet (n : Nat) (ks : List Int) : Nat := ((List.range n).filter fun a : Nat => !(ks.contains (a : Int))).length
theorem filter_lt {α : Type} {p q : α → Bool} (h : ∀ x, p x = true → q x = true) : ∀ {l : List α} {a : α}, a ∈ l → q a = true → p a = false → (l.filter p).length < (l.filter q).length
  | x :: l, a, ha, hq, hp => by
    have hle : ∀ l : List α, (l.filter p).length ≤ (l.filter q).length := by
      intro l
      induction l with
      | nil => exact Nat.le_refl _
      | cons y l ih =>
        rw [List.filter_cons, List.filter_cons]
        by_cases h1 : p y = true
        · rw [if_pos h1, if_pos (h y h1)]
          simp only [List.length_cons]
          omega
        · rw [if_neg h1]
          split
          · simp only [List.length_cons]
            omega
          · exact ih
    rw [List.filter_cons, List.filter_cons]
    rcases List.mem_cons.mp ha with rfl | ha
    · rw [if_neg (by rw [hp]; decide), if_pos hq]
      have := hle l
      simp only [List.length_cons]
      omega
    · have ih := filter_lt h ha hq hp
      by_cases h1 : p x = true
      · rw [if_pos h1, if_pos (h x h1)]
        simp only [List.length_cons]
        omega
      · rw [if_neg h1]
        split
        · simp only [List.length_cons]
          omega
        · exact ih
theorem unmet_lt {n : Nat} {ks : List Int} {a : Int} (h0 : 0 ≤ a) (h1 : a < n) (ha : ¬ a ∈ ks) : unmet n (ks ++ [a]) < unmet n ks := by
  obtain ⟨b, rfl⟩ : ∃ b : Nat, a = (b : Int) := ⟨a.toNat, by omega⟩
  unfold unmet
  refine filter_lt (a := b) (fun x hx => ?_) (by simp; omega) ?_ ?_
  · simp at hx ⊢
    exact hx.1
  · simpa using ha
  · simp
theorem unmet_le (n : Nat) (ks : List Int) : unmet n ks ≤ n := by
  unfold unmet
  have := List.length_filter_le (fun a : Nat => !(ks.contains (a : Int))) (List.range n)
  rwa [List.length_range] at this
def eHm (h : List (Int × List (Int × Int))) : List (Int × Px) := h.map fun p => (p.1, .list (p.2.map eC2))
theorem eHm_keys (h : List (Int × List (Int × Int))) : keysD (eHm h) = h.map (·.1) := by
  unfold keysD eHm
  rw [List.map_map]
  rfl
theorem eHm_look {h : List (Int × List (Int × Int))} {a : Int} (ha : a ∈ h.map (·.1)) : ∃ cs, (a, cs) ∈ h ∧ lookD (eHm h) a = some (.list (cs.map eC2)) := by
  induction h with
  | nil => cases ha
  | cons p h ih =>
    obtain ⟨b, cs⟩ := p
    by_cases e : b = a
    · subst e
      exact ⟨cs, by simp, by simp [lookD, eHm]⟩
    · have ha : a ∈ h.map (·.1) := by
        rw [List.map_cons] at ha
        rcases List.mem_cons.mp ha with z | z
        · exact absurd z.symm e
        · exact z
      obtain ⟨ds, h1, h2⟩ := ih ha
      refine ⟨ds, List.mem_cons_of_mem _ h1, ?_⟩
      rw [← h2]
      simp [lookD, eHm, e]
theorem eHm_none {h : List (Int × List (Int × Int))} {a : Int} (ha : ¬ a ∈ h.map (·.1)) : lookD (eHm h) a = none := by
  unfold lookD eHm
  rw [List.find?_eq_none.mpr]
  · rfl
  · intro p hp
    obtain ⟨q, hq, rfl⟩ := List.mem_map.mp hp
    simp only [decide_eq_true_eq]
    intro z
    exact ha (List.mem_map.mpr ⟨q, hq, z⟩)
theorem eHm_put {h : List (Int × List (Int × Int))} {a : Int} {cs : List (Int × Int)} (ha : ¬ a ∈ h.map (·.1)) : putD (eHm h) a (.list (cs.map eC2)) = eHm (h ++ [(a, cs)]) := by
  unfold putD
  rw [if_neg]
  · simp [eHm]
  · intro z
    rw [List.any_eq_true] at z
    obtain ⟨p, hp, e⟩ := z
    obtain ⟨q, hq, rfl⟩ := List.mem_map.mp hp
    exact ha (List.mem_map.mpr ⟨q, hq, by simpa using e⟩)
/-- the rows that lead home, as far as they are found -/
structure Hm (w : Web) (r : Int) (h : List (Int × List (Int × Int))) : Prop where
  st : r ∈ h.map (·.1)
  en : ∀ p ∈ h, CsOk w p.2 ∧ Ch w r p.2 p.1 ∧ p.2.length + 1 ≤ h.length ∧ 0 ≤ p.1 ∧ p.1 < w.rooms
  un : h.length + unmet w.rooms.toNat (h.map (·.1)) ≤ w.rooms.toNat
def Cl (w : Web) (ks : List Int) (a : Int) : Prop := ∀ c ∈ outs w a, (eCr w c).w ∈ ks
theorem Cl.up {w : Web} {ks ls : List Int} {a : Int} (h : Cl w ks a) (l : ∀ x ∈ ks, x ∈ ls) : Cl w ls a := fun c hc => l _ (h c hc)
theorem Hm.add {w : Web} {r a : Int} {h : List (Int × List (Int × Int))} {cs : List (Int × Int)} {c : Int × Int} (H : Hm w r h) (ha : (a, cs) ∈ h) (hc : CrOk w c.1 c.2) (hv : (eCr w c).v = a) (h0 : 0 ≤ (eCr w c).w) (h1 : (eCr w c).w < w.rooms) (hn : ¬ (eCr w c).w ∈ h.map (·.1)) : Hm w r (h ++ [((eCr w c).w, cs ++ [c])]) := by
  obtain ⟨q1, q2, q3, q4, q5⟩ := H.en _ ha
  have hu := unmet_lt (n := w.rooms.toNat) h0 (by omega) hn
  have := H.un
  refine ⟨by rw [List.map_append]; exact List.mem_append_left _ H.st, fun p hp => ?_, ?_⟩
  · rcases List.mem_append.mp hp with hp | hp
    · obtain ⟨p1, p2, p3, p4, p5⟩ := H.en p hp
      exact ⟨p1, p2, by simp; omega, p4, p5⟩
    · simp only [List.mem_cons, List.not_mem_nil, or_false] at hp
      subst hp
      refine ⟨fun d hd => ?_, .snoc c q2 hv, by simp at q3 ⊢; omega, h0, h1⟩
      rcases List.mem_append.mp hd with hd | hd
      · exact q1 d hd
      · simp only [List.mem_cons, List.not_mem_nil, or_false] at hd
        subst hd
        exact hc
  · rw [List.map_append, List.length_append]
    show h.length + 1 + unmet _ (h.map (·.1) ++ [(eCr w c).w]) ≤ _
    omega
def slotK : Option (Option Rv) → List Int
  | some (some (.dic (.k kvs))) => keysD kvs
  | _ => []
def slotN : Option (Option Rv) → Nat
  | some (some (.own xs)) => xs.length
  | _ => 0
abbrev C_law_home : Cn := fun rs g Q => ∃ w r, rs = [.d (eW w), .d (.int r)] ∧ WebOk w 1000 ∧ w.ties.length ≤ 1000 ∧ w.rooms ≤ 1000 ∧ 0 ≤ r ∧ r < w.rooms ∧ ∀ h, Hm w r h → (∀ a ∈ h.map (·.1), Cl w (h.map (·.1)) a) → Q (.dic (.k (eHm h))) g
def w_law_home : WS :=
  (sSeq (sPar2 2 3 (eDisp1 (eName 1) (eLst aNil)) (eLst (aCons (eName 1) aNil)))
  (sSeq (sWh (wB (eScL 3 (eqD true) (eLst aNil)))
  (sSeq (sAsg (ePop0 3) (gN 4))
  (sFor (iLst (eCallP C_law_out (aCons (eName 0) (aCons (eName 4) aNil)))) (gT 2 (gsCons (gN 5) (gsCons (gN 6) gsNil)))
  (sSeq (sAsg (eIx (eCallP C_law_ends (aCons (eName 0) (aCons (eName 5) (aCons (eName 6) aNil)))) (eC (.int 1))) (gN 7))
  (sIf (wB (eDIn true 2 (eName 7))) (sSeq (sDctP 2 (eOp addD (eDIx 2 (eName 4)) (eLst (aCons (eTup (aCons (eName 5) (aCons (eName 6) aNil))) aNil))) (eName 7))
  (sExp (eApp 3 (eName 7)))) sNil)))))
  (sRetD 2)))
theorem len_law_home (rs : List Rv) (g : Option Nat) (Q : Rv → Option Nat → Prop) (h : C_law_home rs g Q) : rs.length = 2 := by
  obtain ⟨_, _, rfl, _⟩ := h
  rfl
theorem spec_law_home (rs : List Rv) (g : Option Nat) (Q : Rv → Option Nat → Prop) (h : C_law_home rs g Q) : w_law_home (startC 8 rs g) (endP Q) fun _ _ => False := by
  obtain ⟨w, r, rfl, wo, ht, hr, h0, h1, hQ⟩ := h
  simp only [w_law_home]
  simp -dsimp only [startC, List.map_cons, List.map_nil, List.cons_append, List.nil_append, List.length_cons, List.length_nil, Nat.reduceSub, Nat.reduceAdd, List.replicate_succ, List.replicate_zero]
  try simp -dsimp only [rR_]
  refine ⟨by decide, by decide, ?_⟩
  refine whW_ind (fun c => ∃ (h : List (Int × List (Int × Int))) (pend : List Int) (x4 x5 x6 x7 : Option Px), Hm w r h ∧ (∀ a ∈ pend, a ∈ h.map (·.1)) ∧ (∀ a ∈ h.map (·.1), a ∈ pend ∨ Cl w (h.map (·.1)) a) ∧ pend.length ≤ h.length ∧
    c = ⟨[some (.d (eW w)), some (.d (.int r)), some (.dic (.k (eHm h))), some (.own (pend.map .int)), x4.map .d, x5.map .d, x6.map .d, x7.map .d], g⟩) (fun c => 2 * unmet w.rooms.toNat (slotK c.env[2]?) + slotN c.env[3]?) (fun c hI R hR => ?_) _ ⟨[(r, [])], [r], none, none, none, none, ⟨by simp, ?_, ?_⟩, by simp, by simp, by simp, rfl⟩
  · obtain ⟨h, pend, x4, x5, x6, x7, H, hp, hc, hl, rfl⟩ := hI
    have hrm : h.length ≤ 1000 := by have := H.un; omega
    try simp -dsimp only [rR_]
    refine ⟨by decide, ?_⟩
    rw [eqt_nil fun x hx => by
      obtain ⟨c, _, rfl⟩ := List.mem_map.mp hx
      exact .int _]
    cases pend with
    | nil =>
      simp -dsimp only [rR_, List.map_nil, List.isEmpty_nil, Bool.not_true]
      exact hQ h H fun a ha => (hc a ha).resolve_left (by simp)
    | cons a ps =>
      have ha := hp a (by simp)
      simp -dsimp only [rR_, List.map_cons, List.isEmpty_cons, Bool.not_false]
      refine ⟨w, a, rfl, ht, ?_⟩
      try simp -dsimp only [rR_]
      refine forW_ind _ (fun i c => ∃ (h' : List (Int × List (Int × Int))) (pend' : List Int) (x5 x6 x7 : Option Px), Hm w r h' ∧ a ∈ h'.map (·.1) ∧ (∀ b ∈ pend', b ∈ h'.map (·.1)) ∧ (∀ b ∈ h'.map (·.1), b = a ∨ b ∈ pend' ∨ Cl w (h'.map (·.1)) b) ∧ (∀ j c, j < i → (outs w a)[j]? = some c → (eCr w c).w ∈ h'.map (·.1)) ∧
        pend'.length + 1 ≤ h'.length ∧ 2 * unmet w.rooms.toNat (h'.map (·.1)) + pend'.length ≤ 2 * unmet w.rooms.toNat (h.map (·.1)) + ps.length ∧
        c = ⟨[some (.d (eW w)), some (.d (.int r)), some (.dic (.k (eHm h'))), some (.own (pend'.map .int)), some (.d (.int a)), x5.map .d, x6.map .d, x7.map .d], g⟩) (fun i x c hx hI R' hR' => ?_) (fun c hI => ?_) _ ⟨h, ps, x5, x6, x7, H, ha, fun b hb => hp b (by simp [hb]), fun b hb => ?_, fun j c hj => absurd hj (Nat.not_lt_zero _), by simp at hl; omega, by omega, rfl⟩
      · obtain ⟨h', pend', x5, x6, x7, H', ha', hp', hc', ho', hl', hm', rfl⟩ := hI
        have hrm' : h'.length ≤ 1000 := by have := H'.un; omega
        obtain ⟨⟨t, s⟩, hts, rfl⟩ := map_at hx
        obtain ⟨hcr, hv⟩ := outs_ok (List.mem_of_getElem? hts)
        obtain ⟨y, hy⟩ := hcr.1
        have he : eCr w (t, s) = rev y s := e_of (s := ⟨t, s, 0⟩) hy
        have tok := (wo.at hy).rev s
        have hv := hv y hy
        simp -dsimp only [rR_, eC2]
        refine ⟨w, t, s, y, rfl, hy, ?_⟩
        simp -dsimp only [rR_, eT]
        rw [← he] at tok hv ⊢
        by_cases hk : (eCr w (t, s)).w ∈ h'.map (·.1)
        · obtain ⟨cs, _, hlk⟩ := eHm_look hk
          rw [hlk]
          simp -dsimp only [rR_, Option.isSome_some, Bool.not_true]
          refine hR' _ ⟨h', pend', some (.int t), some (.int s), some (.int (eCr w (t, s)).w), H', ha', hp', hc', fun j c hj hcj => ?_, hl', hm', rfl⟩
          by_cases hji : j = i
          · rw [hji, hts] at hcj
            cases hcj
            exact hk
          · exact ho' j c (by omega) hcj
        · rw [eHm_none hk]
          obtain ⟨cs, hcs, hlk⟩ := eHm_look ha'
          simp -dsimp only [rR_, Option.isSome_none, Bool.not_false]
          refine ⟨_, hlk, ?_⟩
          try simp -dsimp only [rR_]
          obtain ⟨q1, q2, q3, q4, q5⟩ := H'.en _ hcs
          have Ha := H'.add hcs hcr hv tok.w0 tok.w1 hk
          have hu := unmet_lt (n := w.rooms.toNat) tok.w0 (by have := tok.w1; omega) hk
          rw [show cs.map eC2 ++ [PyData.tuple [.int t, .int s]] = (cs ++ [(t, s)]).map eC2 by simp [eC2], eHm_put hk]
          refine ⟨by decide, by decide, by simp at q3 ⊢; omega, by simp [eHm]; omega, by simp; omega, ?_⟩
          refine hR' _ ⟨h' ++ [((eCr w (t, s)).w, cs ++ [(t, s)])], pend' ++ [(eCr w (t, s)).w], some (.int t), some (.int s), some (.int (eCr w (t, s)).w), Ha, by simp at ha' ⊢; exact .inl ha', fun b hb => ?_, fun b hb => ?_, fun j c hj hcj => ?_, by simp; omega, ?_, by simp⟩
          · rw [List.map_append]
            rcases List.mem_append.mp hb with hb | hb
            · exact List.mem_append_left _ (hp' b hb)
            · exact List.mem_append_right _ hb
          · rw [List.map_append] at hb ⊢
            rcases List.mem_append.mp hb with hb | hb
            · rcases hc' b hb with z | z | z
              · exact .inl z
              · exact .inr (.inl (List.mem_append_left _ z))
              · exact .inr (.inr (z.up fun x hx => List.mem_append_left _ hx))
            · exact .inr (.inl (List.mem_append_right _ hb))
          · rw [List.map_append]
            by_cases hji : j = i
            · rw [hji, hts] at hcj
              cases hcj
              exact List.mem_append_right _ (by simp)
            · exact List.mem_append_left _ (ho' j c (by omega) hcj)
          · rw [List.map_append, List.length_append]
            show 2 * unmet _ (h'.map (·.1) ++ [(eCr w (t, s)).w]) + (pend'.length + 1) ≤ _
            omega
      · obtain ⟨h', pend', x5, x6, x7, H', ha', hp', hc', ho', hl', hm', rfl⟩ := hI
        rw [List.length_map] at ho'
        refine hR _ ⟨h', pend', some (.int a), x5, x6, x7, H', hp', fun b hb => ?_, by omega, rfl⟩ ?_
        · rcases hc' b hb with rfl | z | z
          · refine .inr fun c hc => ?_
            obtain ⟨j, hj⟩ := List.getElem?_of_mem hc
            exact ho' j c (List.getElem?_eq_some_iff.mp hj).1 hj
          · exact .inl z
          · exact .inr z
        · show 2 * unmet _ (keysD (eHm h')) + (pend'.map PyData.int).length < 2 * unmet _ (keysD (eHm h)) + ((a :: ps).map PyData.int).length
          rw [eHm_keys, eHm_keys, List.length_map, List.length_map, List.length_cons]
          omega
      · rcases hc b hb with z | z
        · rcases List.mem_cons.mp z with z | z
          · exact .inl z
          · exact .inr (.inl z)
        · exact .inr (.inr z)
  · intro p hp
    have : p = (r, []) := by simpa using hp
    subst this
    exact ⟨fun c hc => (nomatch hc), .nil, by simp, h0, h1⟩
  · have h2 := unmet_lt (n := w.rooms.toNat) (ks := []) h0 (by omega) (by simp)
    rw [List.nil_append] at h2
    have := unmet_le w.rooms.toNat []
    show 1 + unmet w.rooms.toNat [r] ≤ _
    omega
end K
set_option Elab.async false
set_option maxRecDepth 100000
set_option linter.all false
set_option autoImplicit false
set_option maxHeartbeats 4000000
namespace K
open PySem L2 Dl
variable [TabF]
/-! ### drawn closed walks -/
theorem mem_outs {w : Web} {t s a : Int} (h : CrOk w t s) (hv : (eCr w (t, s)).v = a) : (t, s) ∈ outs w a := by
  obtain ⟨⟨x, i, rfl, hx⟩, hs⟩ := h
  have he : eCr w ((i : Int), s) = rev x s := e_of (s := ⟨(i : Int), s, 0⟩) ⟨i, rfl, hx⟩
  rw [he] at hv
  unfold outs outsN
  rw [List.mem_flatMap]
  refine ⟨i, by simpa using (List.getElem?_eq_some_iff.mp hx).1, ?_⟩
  rw [hx]
  rcases hs with rfl | rfl
  · have hv : x.v = a := hv
    simp [hv]
  · have hv : x.w = a := by simpa [rev] using hv
    simp [hv]
theorem Cl.ch {w : Web} {ks : List Int} {r : Int} (hr : r ∈ ks) (hc : ∀ a ∈ ks, Cl w ks a) : ∀ (cs : List (Int × Int)), CsOk w cs → ∀ h, Ch w r cs h → h ∈ ks := by
  refine snocInd (P := fun cs => CsOk w cs → ∀ h, Ch w r cs h → h ∈ ks) (fun _ h H => ?_) (fun cs c ih ok h H => ?_)
  · obtain rfl : h = r := H.end
    exact hr
  · obtain ⟨H1, rfl⟩ := Ch.inv H
    have h1 := ih (fun d hd => ok d (List.mem_append_left _ hd)) _ H1
    exact hc _ h1 c (mem_outs (ok c (by simp)) rfl)
end K
set_option Elab.async false
set_option maxRecDepth 100000
set_option linter.all false
set_option autoImplicit false
set_option maxHeartbeats 4000000
namespace K
open PySem L2 Dl
variable [TabF]
/-! ### opposite and plain walks of the law; reach -/
theorem enumX_map {α : Type} (e : α → Px) (d : α) (l : List α) : enumX 0 (l.map e) = (List.range l.length).map fun a : Nat => PyData.tuple [.int (a : Int), e (l.getD a d)] := by
  apply List.ext_getElem?
  intro i
  by_cases h : i < l.length
  · rw [enumX_get (l.map e) 0 i (e l[i]) (by simp [h])]
    simp [h]
  · rw [List.getElem?_eq_none (by rw [enumX_length]; simp; omega), List.getElem?_eq_none (by simp; omega)]
structure IsMax (v : Int) (l : List Int) : Prop where
  mem : v ∈ l
  le : ∀ y ∈ l, y ≤ v
theorem IsMax.uniq {v u : Int} {l : List Int} (h : IsMax v l) (k : IsMax u l) : v = u := by
  have := h.le _ k.mem
  have := k.le _ h.mem
  omega
def amts (l : List Int) : List Int := l.map fun i => (i.natAbs : Int)
def sizes (w : Web) (l : List Stp) : List Int := 2 :: l.flatMap fun s => [((w.e s).p.natAbs : Int), ((w.e s).q.natAbs : Int)]
def IsReach (w : Web) (k : Wlk) (v : Int) : Prop := ∃ most base, IsMax most (amts (nums k)) ∧ IsMax base (sizes w k.steps) ∧ v = 2 * (most + base) * base ^ k.steps.length
theorem IsReach.uniq {w : Web} {k : Wlk} {v u : Int} (h : IsReach w k v) (g : IsReach w k u) : v = u := by
  obtain ⟨a, b, h1, h2, rfl⟩ := h
  obtain ⟨c, d, h3, h4, rfl⟩ := g
  rw [h1.uniq h3, h2.uniq h4]
theorem max2_or (x y : Int) : (max2 x y = x ∨ max2 x y = y) ∧ x ≤ max2 x y ∧ y ≤ max2 x y := by
  unfold max2
  split
  · exact ⟨.inr rfl, by omega, by omega⟩
  · exact ⟨.inl rfl, by omega, by omega⟩
theorem IsMax.two {v a b : Int} {l : List Int} (h : IsMax v l) : IsMax (max2 (max2 v a) b) (l ++ [a, b]) := by
  have h1 := h.mem
  obtain ⟨o1, p1, q1⟩ := max2_or v a
  obtain ⟨o2, p2, q2⟩ := max2_or (max2 v a) b
  refine ⟨?_, fun y hy => ?_⟩
  · simp only [List.mem_append, List.mem_cons, List.not_mem_nil, or_false]
    rcases o2 with e | e
    · rw [e]
      rcases o1 with e | e
      · rw [e]
        exact .inl h1
      · exact .inr (.inl e)
    · exact .inr (.inr e)
  · simp only [List.mem_append, List.mem_cons, List.not_mem_nil, or_false] at hy
    rcases hy with hy | rfl | rfl
    · have := h.le y hy
      omega
    · omega
    · omega
end K
set_option Elab.async false
set_option maxRecDepth 100000
set_option linter.all false
set_option autoImplicit false
set_option maxHeartbeats 4000000
namespace K
open PySem L2 Dl
variable [TabF]
theorem sub_len : ∀ (S ks : List Int), S.Nodup → (∀ x ∈ S, x ∈ ks) → S.length ≤ ks.length
  | [], _, _, _ => Nat.zero_le _
  | x :: S, ks, nd, h => by
    obtain ⟨n1, n2⟩ := List.nodup_cons.mp nd
    have hx := h x (by simp)
    have := sub_len S (ks.erase x) n2 fun y hy => (List.mem_erase_of_ne (fun e => n1 (by rw [← e]; exact hy))).mpr (h y (List.mem_cons_of_mem _ hy))
    have l := List.length_erase_of_mem hx
    have l0 : 0 < ks.length := List.length_pos_of_mem hx
    show S.length + 1 ≤ ks.length
    omega
theorem nodup_of_len : ∀ (S ks : List Int), S.Nodup → (∀ x ∈ S, x ∈ ks) → ks.length ≤ S.length → ks.Nodup
  | [], ks, _, _, h => by
    have : ks = [] := List.length_eq_zero_iff.mp (by simpa using h)
    rw [this]
    exact List.nodup_nil
  | x :: S, ks, nd, h, hl => by
    obtain ⟨n1, n2⟩ := List.nodup_cons.mp nd
    have hx := h x (by simp)
    have sub : ∀ y ∈ S, y ∈ ks.erase x := fun y hy => (List.mem_erase_of_ne (fun e => n1 (by rw [← e]; exact hy))).mpr (h y (List.mem_cons_of_mem _ hy))
    have l := List.length_erase_of_mem hx
    have l0 : 0 < ks.length := List.length_pos_of_mem hx
    have hl : ks.length ≤ S.length + 1 := hl
    have ih := nodup_of_len S (ks.erase x) n2 sub (by omega)
    refine (List.perm_cons_erase hx).nodup_iff.mpr (List.nodup_cons.mpr ⟨fun z => ?_, ih⟩)
    have := sub_len (x :: S) (ks.erase x) nd fun y hy => by
      rcases List.mem_cons.mp hy with e | e
      · exact e ▸ z
      · exact sub y e
    have : S.length + 1 ≤ (ks.erase x).length := this
    omega
theorem hm_nodup {w : Web} {r : Int} {h : List (Int × List (Int × Int))} (H : Hm w r h) : (h.map (·.1)).Nodup := by
  refine nodup_of_len (((List.range w.rooms.toNat).filter fun a : Nat => (h.map (·.1)).contains (a : Int)).map fun a : Nat => (a : Int)) _ ?_ (fun x hx => ?_) ?_
  · refine List.Pairwise.map _ (fun a b hab z => hab (by omega)) (List.Pairwise.filter _ List.nodup_range)
  · obtain ⟨a, ha, rfl⟩ := List.mem_map.mp hx
    have := (List.mem_filter.mp ha).2
    exact List.contains_iff_mem.mp this
  · have un := H.un
    rw [List.length_map, List.length_map]
    have part : ∀ l : List Nat, (l.filter fun a : Nat => (h.map (·.1)).contains (a : Int)).length + (l.filter fun a : Nat => !((h.map (·.1)).contains (a : Int))).length = l.length := by
      intro l
      induction l with
      | nil => rfl
      | cons a l ih =>
        by_cases c : (h.map (·.1)).contains (a : Int) = true
        · rw [List.filter_cons_of_pos (by exact c), List.filter_cons_of_neg (by rw [c]; decide)]
          simp only [List.length_cons]
          omega
        · rw [List.filter_cons_of_neg (by exact c), List.filter_cons_of_pos (by simpa using c)]
          simp only [List.length_cons]
          omega
    have p := part (List.range w.rooms.toNat)
    rw [List.length_range] at p
    unfold unmet at un
    omega
theorem ch_conn {w : Web} {r h : Int} {cs : List (Int × Int)} (H : Ch w r cs h) : (∀ c ∈ cs, CrOk w c.1 c.2) → Conn w.ties r h := by
  induction H with
  | nil => exact fun _ => .refl
  | snoc c H e ih =>
    intro ok
    obtain ⟨⟨x, hx⟩, hs⟩ := ok c (by simp)
    have e2 : w.e ⟨c.1, c.2, 0⟩ = rev x c.2 := e_of hx
    have hm : x ∈ w.ties := by
      obtain ⟨i, _, e⟩ := hx
      exact List.mem_of_getElem? e
    rw [e2] at e ⊢
    refine .step (ih fun d hd => ok d (List.mem_append_left _ hd)) ⟨x, hm, ?_⟩
    unfold rev at e ⊢
    rcases hs with h | h
    · rw [if_pos h] at e ⊢
      exact .inl ⟨e, rfl⟩
    · rw [if_neg (by omega)] at e ⊢
      exact .inr ⟨e, rfl⟩
theorem hm_piece {w : Web} {r : Int} {h : List (Int × List (Int × Int))} (H : Hm w r h) (hc : ∀ a ∈ h.map (·.1), Cl w (h.map (·.1)) a) {ms : List Int} (pm : ms.Perm (h.map (·.1))) (so : ms.Pairwise (· ≤ ·)) : IsPiece w.ties r ms := by
  refine ⟨asc_of pm so (hm_nodup H), fun x => pm.mem_iff.trans ⟨fun hx => ?_, fun cx => ?_⟩⟩
  · obtain ⟨p, hp, rfl⟩ := List.mem_map.mp hx
    obtain ⟨q1, q2, _⟩ := H.en p hp
    exact ch_conn q2 q1
  · induction cx with
    | refl => exact H.st
    | step _ a ih =>
      obtain ⟨c, hc', y, hy, e⟩ := adj_out a
      have := hc _ ih c hc'
      have he : eCr w c = rev y c.2 := e_of (s := ⟨c.1, c.2, 0⟩) hy
      rw [he, e] at this
      exact this
end K
set_option Elab.async false
set_option maxRecDepth 100000
set_option linter.all false
set_option autoImplicit false
set_option maxHeartbeats 4000000
namespace K
open PySem L2 Dl
variable [TabF]
/-! ### cores: rooms and ties of a piece, those with one way alone taken off -/
structure RmO (w : Web) (r : Int) : Prop where
  wo : WebOk w 1000
  tl : w.ties.length ≤ 1000
  rl : w.rooms ≤ 1000
  r0 : 0 ≤ r
  r1 : r < w.rooms
def tiesIn (w : Web) (l : List Int) : List Int := ((List.range w.ties.length).filter fun i : Nat => decide ((w.tie (i : Int)).v ∈ l)).map fun i : Nat => (i : Int)
def outsT (w : Web) (ts : List Int) (r : Int) : List (Int × Int) := (outs w r).filter fun c => decide (c.1 ∈ ts)
def idleB (w : Web) (ts : List Int) (r : Int) : Bool := match outsT w ts r with
  | [c] => decide ((eCr w c).p.natAbs = 1)
  | _ => false
theorem tie_get {w : Web} {i : Nat} (h : i < w.ties.length) : w.ties[i]? = some (w.tie (i : Int)) := by
  unfold Web.tie
  rw [show ((i : Int)).toNat = i from rfl, List.getElem?_eq_getElem h]
  rfl
theorem fm_ties (w : Web) (l : List Int) : ∀ is : List Nat, is.filterMap (fun i : Nat => if (w.tie (i : Int)).v ∈ l then some (PyData.int (i : Int)) else none) = (((is.filter fun i : Nat => decide ((w.tie (i : Int)).v ∈ l)).map fun i : Nat => (i : Int)).map PyData.int)
  | [] => rfl
  | i :: is => by
    by_cases h : (w.tie (i : Int)).v ∈ l
    · rw [List.filterMap_cons_some (by rw [if_pos h]), fm_ties w l is, List.filter_cons_of_pos (by simp [h])]
      rfl
    · rw [List.filterMap_cons_none (by rw [if_neg h]), fm_ties w l is, List.filter_cons_of_neg (by simp [h])]
abbrev Cties_of_piece : Cn := fun rs g Q => ∃ (w : Web) (r : Int), rs = [.d (eW w), .d (.int r)] ∧ RmO w r ∧ ∀ l, IsPiece w.ties r l → Q (.own ((tiesIn w l).map .int)) g
def wties_of_piece : WS :=
  (sSeq (sAsg (eCallP Cpiece_of (aCons (eName 0) (aCons (eName 1) aNil))) (gN 2))
  (sRet (eLc (iEnmT (aCons (eIxN 0 (eC (.int 1))) aNil)) (gT 2 (gsCons (gN 3) (gsCons (gN 4) gsNil))) (wB (eScR 2 (inD false) (eIxN 4 (eC (.int 0))))) (eName 3) [3, 4])))
theorem lenties_of_piece (rs : List Rv) (g : Option Nat) (Q : Rv → Option Nat → Prop) (h : Cties_of_piece rs g Q) : rs.length = 2 := by
  obtain ⟨_, _, rfl, _⟩ := h
  rfl
theorem specties_of_piece (rs : List Rv) (g : Option Nat) (Q : Rv → Option Nat → Prop) (h : Cties_of_piece rs g Q) : wties_of_piece (startC 5 rs g) (endP Q) fun _ _ => False := by
  obtain ⟨w, r, rfl, R, hQ⟩ := h
  have eW1 : ∀ q : Px → Prop, ixD (eW w) (.int 1) q = q (.tuple (w.ties.map eT)) := fun q => by unfold eW; rw [ixt1]
  simp only [wties_of_piece]
  simp -dsimp only [startC, List.map_cons, List.map_nil, List.cons_append, List.nil_append, List.length_cons, List.length_nil, Nat.reduceSub, Nat.reduceAdd, List.replicate_succ, List.replicate_zero]
  try simp -dsimp only [rR_]
  refine ⟨w, 1000, r, rfl, ⟨R.wo, R.tl, R.rl, R.r0, R.r1⟩, fun l hl => ?_⟩
  simp -dsimp only [rR_, tupI, eW1]
  refine ⟨by simp [nown], ?_⟩
  simp only [lcH]
  rw [enumX_map eT ⟨0, 0, 1, 1⟩]
  refine lcW_fma (fun i : Nat => PyData.tuple [.int (i : Int), eT (w.ties.getD i ⟨0, 0, 1, 1⟩)]) (fun i : Nat => if (w.tie (i : Int)).v ∈ l then some (PyData.int (i : Int)) else none) (List.range w.ties.length) [] (fun i hi R' S hR hS => ?_) (by simp; exact Nat.le_trans R.tl (by decide)) ?_
  · have hi : i < w.ties.length := List.mem_range.mp hi
    have et : w.ties.getD i ⟨0, 0, 1, 1⟩ = w.tie (i : Int) := by
      unfold Web.tie
      rw [show ((i : Int)).toNat = i from rfl, List.getD_eq_getElem?_getD]
    rw [et]
    simp -dsimp only [rR_, Turn1, wipeE, eT]
    rw [inF_t]
    try simp -dsimp only [rR_]
    by_cases hm : (w.tie (i : Int)).v ∈ l
    · rw [if_pos hm]
      exact hR _ (if_pos hm)
    · rw [if_neg hm]
      exact hS (if_neg hm)
  · rw [List.nil_append, fm_ties]
    try simp -dsimp only [rR_]
    exact hQ l hl
theorem fm_outs (ts : List Int) : ∀ cs : List (Int × Int), cs.filterMap (fun c => if c.1 ∈ ts then some (eC2 c) else none) = (cs.filter fun c => decide (c.1 ∈ ts)).map eC2
  | [] => rfl
  | c :: cs => by
    by_cases h : c.1 ∈ ts
    · rw [List.filterMap_cons_some (by rw [if_pos h]), fm_outs ts cs, List.filter_cons_of_pos (by simp [h])]
      rfl
    · rw [List.filterMap_cons_none (by rw [if_neg h]), fm_outs ts cs, List.filter_cons_of_neg (by simp [h])]
abbrev Cways_over : Cn := fun rs g Q => ∃ (w : Web) (r : Int) (ts : List Int), rs = [.d (eW w), .d (.int r), .d (.list (ts.map .int))] ∧ w.ties.length ≤ 1000 ∧ Q (.own ((outsT w ts r).map eC2)) g
def wways_over : WS :=
  (sRet (eLc (iTpl (eCallP Cways_out (aCons (eName 0) (aCons (eName 1) aNil)))) (gT 2 (gsCons (gN 3) (gsCons (gN 4) gsNil))) (wB (eScR 2 (inD false) (eName 3))) (eTup (aCons (eName 3) (aCons (eName 4) aNil))) [3, 4]))
theorem lenways_over (rs : List Rv) (g : Option Nat) (Q : Rv → Option Nat → Prop) (h : Cways_over rs g Q) : rs.length = 3 := by
  obtain ⟨_, _, _, rfl, _⟩ := h
  rfl
theorem specways_over (rs : List Rv) (g : Option Nat) (Q : Rv → Option Nat → Prop) (h : Cways_over rs g Q) : wways_over (startC 5 rs g) (endP Q) fun _ _ => False := by
  obtain ⟨w, r, ts, rfl, tl, hQ⟩ := h
  simp only [wways_over]
  simp -dsimp only [startC, List.map_cons, List.map_nil, List.cons_append, List.nil_append, List.length_cons, List.length_nil, Nat.reduceSub, Nat.reduceAdd, List.replicate_succ, List.replicate_zero]
  try simp -dsimp only [rR_]
  refine ⟨w, r, rfl, tl, ?_⟩
  try simp -dsimp only [rR_]
  refine ⟨by simp [nown], ?_⟩
  simp only [lcH]
  have ol := outs_len w r
  refine lcW_fma eC2 (fun c => if c.1 ∈ ts then some (eC2 c) else none) (outs w r) [] (fun c hc R' S hR hS => ?_) (by simp; omega) ?_
  · simp -dsimp only [rR_, Turn1, wipeE, eC2]
    rw [inF_l]
    try simp -dsimp only [rR_]
    by_cases hm : c.1 ∈ ts
    · rw [if_pos hm]
      exact ⟨by decide, hR _ (if_pos hm)⟩
    · rw [if_neg hm]
      exact hS (if_neg hm)
  · rw [List.nil_append, fm_outs]
    try simp -dsimp only [rR_]
    exact hQ
theorem outsT_ok {w : Web} {ts : List Int} {r : Int} {c : Int × Int} (h : c ∈ outsT w ts r) : CrOk w c.1 c.2 ∧ (eCr w c).v = r ∧ c.1 ∈ ts := by
  obtain ⟨h1, h2⟩ := List.mem_filter.mp h
  obtain ⟨a, b⟩ := outs_ok h1
  obtain ⟨x, hx⟩ := a.1
  exact ⟨a, by rw [show eCr w c = rev x c.2 from e_of (s := ⟨c.1, c.2, 0⟩) hx]; exact b x hx, by simpa using h2⟩
abbrev Cends_at : Cn := fun rs g Q => ∃ (w : Web) (r : Int) (ts : List Int), rs = [.d (eW w), .d (.int r), .d (.list (ts.map .int))] ∧ w.ties.length ≤ 1000 ∧ Q (.own ((outsT w ts r).map fun c => .int (eCr w c).p)) g
def wends_at : WS :=
  (sRet (eLc (iLst (eCallP Cways_over (aCons (eName 0) (aCons (eName 1) (aCons (eName 2) aNil))))) (gT 2 (gsCons (gN 3) (gsCons (gN 4) gsNil))) wYes (eIx (eCallP Cends_of (aCons (eName 0) (aCons (eName 3) (aCons (eName 4) aNil)))) (eC (.int 2))) [3, 4]))
theorem lenends_at (rs : List Rv) (g : Option Nat) (Q : Rv → Option Nat → Prop) (h : Cends_at rs g Q) : rs.length = 3 := by
  obtain ⟨_, _, _, rfl, _⟩ := h
  rfl
theorem outsT_len (w : Web) (ts : List Int) (r : Int) : (outsT w ts r).length ≤ 2 * w.ties.length := Nat.le_trans (List.length_filter_le _ _) (outs_len w r)
theorem specends_at (rs : List Rv) (g : Option Nat) (Q : Rv → Option Nat → Prop) (h : Cends_at rs g Q) : wends_at (startC 5 rs g) (endP Q) fun _ _ => False := by
  obtain ⟨w, r, ts, rfl, tl, hQ⟩ := h
  simp only [wends_at]
  simp -dsimp only [startC, List.map_cons, List.map_nil, List.cons_append, List.nil_append, List.length_cons, List.length_nil, Nat.reduceSub, Nat.reduceAdd, List.replicate_succ, List.replicate_zero]
  try simp -dsimp only [rR_]
  refine ⟨w, r, ts, rfl, tl, ?_⟩
  try simp -dsimp only [rR_]
  refine ⟨by simp [nown], ?_⟩
  simp only [lcH]
  have ol := outsT_len w ts r
  refine lcW_mpa eC2 (fun c => PyData.int (eCr w c).p) (outsT w ts r) (fun c hc R' S hR => ?_) (by omega) ?_
  · obtain ⟨⟨⟨x, hx⟩, _⟩, _, _⟩ := outsT_ok hc
    have e : eCr w c = rev x c.2 := e_of (s := ⟨c.1, c.2, 0⟩) hx
    simp -dsimp only [rR_, Turn1, wipeE, eC2]
    refine ⟨w, c.1, c.2, x, rfl, hx, ?_⟩
    simp -dsimp only [rR_, eT]
    rw [e] at hR
    exact hR
  · try simp -dsimp only [rR_]
    exact hQ
theorem ints_all (l : List Int) : PyData.canLayAll0 (l.map PyData.int) = true ∧ PyData.depthAll (l.map PyData.int) ≤ 1 := by
  induction l with
  | nil => exact ⟨rfl, by simp [PyData.depthAll]⟩
  | cons a l ih =>
    refine ⟨by simpa [PyData.canLayAll0, PyData.canLay0] using ih.1, ?_⟩
    have := ih.2
    simp only [List.map_cons, PyData.depthAll, PyData.depth]
    omega
theorem ones_in (ps : List Int) : ([PyData.list [.int 1], PyData.list [.int (-1)]].any fun z => PyData.eqv z (.list (ps.map PyData.int))) = match ps with
    | [p] => decide (p.natAbs = 1)
    | _ => false := by
  match ps with
  | [] => simp [PyData.eqv, PyData.eqvAll]
  | [p] =>
    simp only [List.any_cons, List.any_nil, List.map_cons, List.map_nil, PyData.eqv, PyData.eqvAll, Bool.or_false, Bool.and_true]
    rw [Bool.eq_iff_iff]
    simp
    omega
  | p :: q :: l => simp [PyData.eqv, PyData.eqvAll]
abbrev Cleast_idle : Cn := fun rs g Q => ∃ (w : Web) (rr ts : List Int), rs = [.d (eW w), .d (.list (rr.map .int)), .d (.list (ts.map .int))] ∧ w.ties.length ≤ 1000 ∧ Q (.d (ov (rr.find? (idleB w ts)))) g
def wleast_idle : WS :=
  (sSeq (sFor (iLst (eName 1)) (gN 3)
  (sIf (wB (eSc (inDD false) (eCallP Cends_at (aCons (eName 0) (aCons (eName 3) (aCons (eName 2) aNil)))) (eTup (aCons (eLst (aCons (eC (.int 1)) aNil)) (aCons (eLst (aCons (eUn negD (eC (.int 1))) aNil)) aNil))))) (sRet (eName 3)) sNil))
  (sRet (eC .none)))
theorem lenleast_idle (rs : List Rv) (g : Option Nat) (Q : Rv → Option Nat → Prop) (h : Cleast_idle rs g Q) : rs.length = 3 := by
  obtain ⟨_, _, _, rfl, _⟩ := h
  rfl
theorem idle_ps (w : Web) (ts : List Int) (r : Int) : (match (outsT w ts r).map fun c => (eCr w c).p with
    | [p] => decide (p.natAbs = 1)
    | _ => false) = idleB w ts r := by
  unfold idleB
  match outsT w ts r with
  | [] => rfl
  | [c] => rfl
  | _ :: _ :: _ => rfl
theorem specleast_idle (rs : List Rv) (g : Option Nat) (Q : Rv → Option Nat → Prop) (h : Cleast_idle rs g Q) : wleast_idle (startC 4 rs g) (endP Q) fun _ _ => False := by
  obtain ⟨w, rr, ts, rfl, tl, hQ⟩ := h
  simp only [wleast_idle]
  simp -dsimp only [startC, List.map_cons, List.map_nil, List.cons_append, List.nil_append, List.length_cons, List.length_nil, Nat.reduceSub, Nat.reduceAdd, List.replicate_succ, List.replicate_zero]
  try simp -dsimp only [rR_]
  simp only [forH]
  refine forW_ind _ (fun i c => ∃ (x3 : Option Px), (rr.take i).find? (idleB w ts) = none ∧ c = ⟨[some (.d (eW w)), some (.d (.list (rr.map .int))), some (.d (.list (ts.map .int))), x3.map .d], g⟩) (fun i x c hx hI R hR => ?_) (fun c hI => ?_) _ ⟨none, rfl, rfl⟩
  · obtain ⟨x3, nf, rfl⟩ := hI
    obtain ⟨r, hr, rfl⟩ := map_at hx
    have tk : rr.take (i + 1) = rr.take i ++ [r] := by rw [List.take_succ, hr]; rfl
    try simp -dsimp only [rR_]
    refine ⟨w, r, ts, rfl, tl, ?_⟩
    have em : (outsT w ts r).map (fun c => PyData.int (eCr w c).p) = ((outsT w ts r).map fun c => (eCr w c).p).map PyData.int := by rw [List.map_map]; rfl
    rw [em]
    obtain ⟨a1, a2⟩ := ints_all ((outsT w ts r).map fun c => (eCr w c).p)
    have on := ones_in ((outsT w ts r).map fun c => (eCr w c).p)
    rw [idle_ps] at on
    generalize ((outsT w ts r).map fun c => (eCr w c).p) = ps at a1 a2 on ⊢
    try simp -dsimp only [rR_]
    refine ⟨by decide, by decide, by decide, by simpa [PyData.canLay0] using a1, by simp only [PyData.depth]; omega, by simp [PyData.canLayAll0, PyData.canLay0], ?_⟩
    rw [on]
    by_cases hb : idleB w ts r = true
    · rw [hb]
      try simp -dsimp only [rR_]
      have ef : rr.find? (idleB w ts) = some r := by
        conv => lhs; rw [← List.take_append_drop (i + 1) rr]
        rw [tk, List.find?_append, List.find?_append, nf]
        simp [hb]
      rw [ef] at hQ
      exact hQ
    · have hb : idleB w ts r = false := by simpa using hb
      rw [hb]
      try simp -dsimp only [rR_]
      refine hR _ ⟨some _, ?_, rfl⟩
      rw [tk, List.find?_append, nf]
      simp [hb]
  · obtain ⟨x3, nf, rfl⟩ := hI
    rw [List.length_map, List.take_length] at nf
    try simp -dsimp only [rR_]
    rw [nf] at hQ
    exact hQ
end K
set_option Elab.async false
set_option maxRecDepth 100000
set_option linter.all false
set_option autoImplicit false
set_option maxHeartbeats 4000000
namespace K
open PySem L2 Dl
variable [TabF]
structure CS where
  rr : List Int
  ts : List Int
  gg : List (Int × (Int × Int))
def gP (g : List (Int × (Int × Int))) : List (Int × Px) := g.map fun p => (p.1, eC2 p.2)
def nextS (w : Web) (s : CS) : Option CS := match s.rr.find? (idleB w s.ts) with
  | none => none
  | some r => match outsT w s.ts r with
    | [c] => some ⟨s.rr.erase r, s.ts.erase c.1, s.gg ++ [(r, c)]⟩
    | _ => none
inductive Fin (w : Web) : CS → CS → Prop
  | stop {s : CS} : nextS w s = none → Fin w s s
  | go {s s' z : CS} : nextS w s = some s' → Fin w s' z → Fin w s z
theorem Fin.uniq {w : Web} {s z z' : CS} (h : Fin w s z) : Fin w s z' → z' = z := by
  induction h with
  | stop e =>
    intro k
    cases k with
    | stop _ => rfl
    | go e' _ => rw [e] at e'; cases e'
  | go e _ ih =>
    intro k
    cases k with
    | stop e' => rw [e] at e'; cases e'
    | go e' k' =>
      rw [e] at e'
      cases e'
      exact ih k'
theorem idle_one {w : Web} {ts : List Int} {r : Int} (h : idleB w ts r = true) : ∃ c, outsT w ts r = [c] ∧ (eCr w c).p.natAbs = 1 := by
  unfold idleB at h
  split at h
  · rename_i c e
    exact ⟨c, e, by simpa using h⟩
  · cases h
theorem next_none {w : Web} {s : CS} : nextS w s = none ↔ s.rr.find? (idleB w s.ts) = none := by
  unfold nextS
  split
  · rename_i e
    exact ⟨fun _ => e, fun _ => rfl⟩
  · rename_i r e
    obtain ⟨c, h, _⟩ := idle_one (List.find?_some e)
    rw [h]
    exact ⟨fun z => (by cases z), fun z => (by rw [e] at z; cases z)⟩
theorem next_some {w : Web} {s : CS} {r : Int} (h : s.rr.find? (idleB w s.ts) = some r) : ∃ c, outsT w s.ts r = [c] ∧ (eCr w c).p.natAbs = 1 ∧ r ∈ s.rr ∧ nextS w s = some ⟨s.rr.erase r, s.ts.erase c.1, s.gg ++ [(r, c)]⟩ := by
  obtain ⟨c, h1, h2⟩ := idle_one (List.find?_some h)
  refine ⟨c, h1, h2, List.mem_of_find?_eq_some h, ?_⟩
  unfold nextS
  rw [h]
  simp only [h1]
structure CI (w : Web) (n : Nat) (s : CS) : Prop where
  wo : WebOk w 1000
  nd : s.rr.Nodup
  ta : s.ts.Pairwise (· < ·)
  tr : ∀ t ∈ s.ts, ∃ x, Web.at w t x
  en : ∀ t ∈ s.ts, (w.tie t).v ∈ s.rr ∧ (w.tie t).w ∈ s.rr
  gk : ∀ p ∈ s.gg, p.1 ∉ s.rr
  gn : (s.gg.map (·.1)).Nodup
  gc : ∀ p ∈ s.gg, CrOk w p.2.1 p.2.2 ∧ (eCr w p.2).v = p.1 ∧ (eCr w p.2).p.natAbs = 1 ∧ (eCr w p.2).w ≠ p.1
  go : s.gg.Pairwise fun p q => (eCr w q.2).w ≠ p.1
  ln : s.gg.length + s.rr.length = n
theorem lt_nd {l : List Int} (h : l.Pairwise (· < ·)) : l.Nodup := h.imp fun h => by omega
theorem ends_in {w : Web} {n : Nat} {s : CS} (I : CI w n s) {c : Int × Int} (h : CrOk w c.1 c.2) (hc : c.1 ∈ s.ts) : (eCr w c).w ∈ s.rr ∧ (eCr w c).v ∈ s.rr := by
  obtain ⟨a, b⟩ := I.en _ hc
  obtain ⟨⟨x, hx⟩, hs⟩ := h
  have e : eCr w c = rev x c.2 := e_of (s := ⟨c.1, c.2, 0⟩) hx
  rw [hx.tie] at a b
  rw [e]
  unfold rev
  split
  · exact ⟨b, a⟩
  · exact ⟨a, b⟩
theorem outs_of {w : Web} {t : Int} {x : Tie} (h : Web.at w t x) (r : Int) : (x.v = r → (t, (1 : Int)) ∈ outs w r) ∧ (x.w = r → (t, (-1 : Int)) ∈ outs w r) := by
  obtain ⟨i, rfl, e⟩ := h
  exact outs_all e
theorem other_end {w : Web} {n : Nat} {s : CS} (I : CI w n s) {r : Int} {c : Int × Int} (h : outsT w s.ts r = [c]) : (eCr w c).w ≠ r := by
  obtain ⟨h1, h2, h3⟩ := outsT_ok (w := w) (ts := s.ts) (r := r) (c := c) (by rw [h]; simp)
  intro z
  obtain ⟨⟨x, hx⟩, hs⟩ := h1
  have e : eCr w c = rev x c.2 := e_of (s := ⟨c.1, c.2, 0⟩) hx
  rw [e] at z h2
  have hv : x.v = r ∧ x.w = r := by
    unfold rev at z h2
    split at z
    · rw [if_pos (by assumption)] at h2
      exact ⟨h2, z⟩
    · rw [if_neg (by assumption)] at h2
      exact ⟨z, h2⟩
  obtain ⟨o1, o2⟩ := outs_of hx r
  have m1 : (c.1, (1 : Int)) ∈ outsT w s.ts r := List.mem_filter.mpr ⟨o1 hv.1, by simpa using h3⟩
  have m2 : (c.1, (-1 : Int)) ∈ outsT w s.ts r := List.mem_filter.mpr ⟨o2 hv.2, by simpa using h3⟩
  rw [h] at m1 m2
  have e1 : (c.1, (1 : Int)) = c := by simpa using m1
  have e2 : (c.1, (-1 : Int)) = c := by simpa using m2
  have := e1.trans e2.symm
  simp at this
theorem CI.step {w : Web} {n : Nat} {s : CS} (I : CI w n s) {r : Int} {c : Int × Int} (hr : r ∈ s.rr) (h : outsT w s.ts r = [c]) (hp : (eCr w c).p.natAbs = 1) : CI w n ⟨s.rr.erase r, s.ts.erase c.1, s.gg ++ [(r, c)]⟩ := by
  obtain ⟨h1, h2, h3⟩ := outsT_ok (w := w) (ts := s.ts) (r := r) (c := c) (by rw [h]; simp)
  have oe := other_end I h
  have tn := lt_nd I.ta
  have nr : ∀ t, t ∈ s.ts → t ≠ c.1 → (w.tie t).v ≠ r ∧ (w.tie t).w ≠ r := fun t ht ne => by
    obtain ⟨x, hx⟩ := I.tr t ht
    obtain ⟨o1, o2⟩ := outs_of hx r
    rw [hx.tie]
    constructor
    · intro z
      have m : (t, (1 : Int)) ∈ outsT w s.ts r := List.mem_filter.mpr ⟨o1 z, by simpa using ht⟩
      rw [h] at m
      have e : (t, (1 : Int)) = c := by simpa using m
      exact ne (by rw [← e])
    · intro z
      have m : (t, (-1 : Int)) ∈ outsT w s.ts r := List.mem_filter.mpr ⟨o2 z, by simpa using ht⟩
      rw [h] at m
      have e : (t, (-1 : Int)) = c := by simpa using m
      exact ne (by rw [← e])
  refine ⟨I.wo, I.nd.erase r, I.ta.sublist List.erase_sublist, fun t ht => I.tr t (List.mem_of_mem_erase ht), fun t ht => ?_, fun p hp2 => ?_, ?_, fun p hp2 => ?_, ?_, ?_⟩
  · have ht : t ∈ s.ts.erase c.1 := ht
    obtain ⟨n1, n2⟩ := (tn.mem_erase_iff).mp ht
    obtain ⟨a, b⟩ := I.en t n2
    obtain ⟨a', b'⟩ := nr t n2 n1
    exact ⟨I.nd.mem_erase_iff.mpr ⟨a', a⟩, I.nd.mem_erase_iff.mpr ⟨b', b⟩⟩
  · rcases List.mem_append.mp hp2 with z | z
    · exact fun y => I.gk p z (List.mem_of_mem_erase y)
    · have e : p = (r, c) := by simpa using z
      rw [e]
      exact fun y => (I.nd.mem_erase_iff.mp y).1 rfl
  · show ((s.gg ++ [(r, c)]).map (·.1)).Nodup
    rw [List.map_append]
    refine List.nodup_append.mpr ⟨I.gn, by simp, fun a ha b hb => ?_⟩
    have e : b = r := by simpa using hb
    subst e
    obtain ⟨p, hp3, rfl⟩ := List.mem_map.mp ha
    exact fun z => I.gk p hp3 (z ▸ hr)
  · rcases List.mem_append.mp hp2 with z | z
    · exact I.gc p z
    · have e : p = (r, c) := by simpa using z
      rw [e]
      exact ⟨h1, h2, hp, oe⟩
  · show (s.gg ++ [(r, c)]).Pairwise _
    refine List.pairwise_append.mpr ⟨I.go, by simp, fun p hp3 q hq => ?_⟩
    have e : q = (r, c) := by simpa using hq
    rw [e]
    exact fun z => I.gk p hp3 (z ▸ (ends_in I h1 h3).1)
  · show (s.gg ++ [(r, c)]).length + (s.rr.erase r).length = n
    have l0 := List.length_pos_of_mem hr
    have := I.ln
    rw [List.length_append, List.length_erase_of_mem hr]
    simp only [List.length_cons, List.length_nil]
    omega
theorem CI.start {w : Web} {r : Int} {l : List Int} (R : RmO w r) (h : IsPiece w.ties r l) : CI w l.length ⟨l, tiesIn w l, []⟩ := by
  refine ⟨R.wo, lt_nd h.asc, ?_, fun t ht => ?_, fun t ht => ?_, fun p hp => (by cases hp), List.nodup_nil, fun p hp => (by cases hp), .nil, (by simp)⟩
  · show (tiesIn w l).Pairwise _
    unfold tiesIn
    refine List.pairwise_map.mpr ((List.Pairwise.filter _ List.pairwise_lt_range).imp fun h => by omega)
  · obtain ⟨i, hi, rfl⟩ := List.mem_map.mp ht
    have hi := List.mem_range.mp (List.mem_filter.mp hi).1
    exact ⟨_, i, rfl, tie_get hi⟩
  · obtain ⟨i, hi, rfl⟩ := List.mem_map.mp ht
    obtain ⟨hi, hv⟩ := List.mem_filter.mp hi
    have hi := List.mem_range.mp hi
    have hv : (w.tie (i : Int)).v ∈ l := by simpa using hv
    refine ⟨hv, (h.mem _).mpr (((h.mem _).mp hv).trans (.step .refl ⟨_, List.mem_of_getElem? (tie_get hi), .inl ⟨rfl, rfl⟩⟩))⟩
theorem putL {g : List (Int × (Int × Int))} {r : Int} {c : Int × Int} (h : ∀ p ∈ g, p.1 ≠ r) : putD (gP g) r (eC2 c) = gP (g ++ [(r, c)]) := by
  unfold putD
  rw [if_neg]
  · unfold gP
    rw [List.map_append]
    rfl
  · intro z
    obtain ⟨x, hx, e⟩ := List.any_eq_true.mp z
    obtain ⟨p, hp, rfl⟩ := List.mem_map.mp hx
    exact h p hp (by simpa using e)
theorem noLK_gP (g : List (Int × (Int × Int))) : noLK (gP g) = true := by
  unfold noLK gP
  rw [List.all_map, List.all_eq_true]
  intro p _
  rfl
def eCS (s : CS) : Px := .tuple [.list (s.rr.map .int), .list (s.ts.map .int), eDc (gP s.gg)]
end K
set_option Elab.async false
set_option maxRecDepth 100000
set_option linter.all false
set_option autoImplicit false
set_option maxHeartbeats 4000000
namespace K
open PySem L2 Dl
variable [TabF]
theorem ov_noL (o : Option Int) : noL (ov o) = true := by cases o <;> rfl
abbrev Ccore_and_taken : Cn := fun rs g Q => ∃ (w : Web) (r : Int), rs = [.d (eW w), .d (.int r)] ∧ g = none ∧ RmO w r ∧ ∀ l s, IsPiece w.ties r l → Fin w ⟨l, tiesIn w l, []⟩ s → CI w l.length s → Q (.d (eCS s)) g
def wcore_and_taken : WS :=
  (sSeq (sAsg (eCB lstC (aCons (eCallP Cpiece_of (aCons (eName 0) (aCons (eName 1) aNil))) aNil)) (gN 2))
  (sSeq (sAsg (eCallP Cties_of_piece (aCons (eName 0) (aCons (eName 1) aNil))) (gN 3))
  (sSeq (sAsg eDisp0 (gN 4))
  (sSeq (sAsg (eBor 3 (eBor 2 (eCallP Cleast_idle (aCons (eName 0) (aCons (eName 2) (aCons (eName 3) aNil)))))) (gN 5))
  (sSeq (sWh (wB (eScL 5 (isND true) (eC .none)))
  (sSeq (sAsg (eIx (eBor 3 (eCallP Cways_over (aCons (eName 0) (aCons (eName 5) (aCons (eName 3) aNil))))) (eC (.int 0))) (gT 2 (gsCons (gN 6) (gsCons (gN 7) gsNil))))
  (sSeq (sDctP 4 (eTup (aCons (eName 6) (aCons (eName 7) aNil))) (eName 5))
  (sSeq (sExp (eRem 2 (eName 5)))
  (sSeq (sExp (eRem 3 (eName 6)))
  (sAsg (eBor 3 (eBor 2 (eCallP Cleast_idle (aCons (eName 0) (aCons (eName 2) (aCons (eName 3) aNil)))))) (gN 5)))))))
  (sRet (eTup (aCons (eName 2) (aCons (eName 3) (aCons (eFrz 4) aNil))))))))))
theorem lencore_and_taken (rs : List Rv) (g : Option Nat) (Q : Rv → Option Nat → Prop) (h : Ccore_and_taken rs g Q) : rs.length = 2 := by
  obtain ⟨_, _, rfl, _⟩ := h
  rfl
theorem speccore_and_taken (rs : List Rv) (g : Option Nat) (Q : Rv → Option Nat → Prop) (h : Ccore_and_taken rs g Q) : wcore_and_taken (startC 8 rs g) (endP Q) fun _ _ => False := by
  obtain ⟨w, r, rfl, rfl, R, hQ⟩ := h
  simp only [wcore_and_taken]
  simp -dsimp only [startC, List.map_cons, List.map_nil, List.cons_append, List.nil_append, List.length_cons, List.length_nil, Nat.reduceSub, Nat.reduceAdd, List.replicate_succ, List.replicate_zero]
  try simp -dsimp only [rR_]
  refine ⟨w, 1000, r, rfl, ⟨R.wo, R.tl, R.rl, R.r0, R.r1⟩, fun l hl => ?_⟩
  simp -dsimp only [rR_, tupI]
  refine ⟨w, r, rfl, R, fun l2 hl2 => ?_⟩
  obtain rfl : l2 = l := hl2.uniq hl
  have C := CI.start R hl
  try simp -dsimp only [rR_]
  refine ⟨noLA_ints _, noLA_ints _, w, l2, tiesIn w l2, rfl, R.tl, ?_⟩
  try simp -dsimp only [rR_]
  have ek : ([] : List (Int × Px)) = gP [] := rfl
  rw [ek]
  refine ⟨ov_noL _, by repeat' first | exact BorE.nil | refine BorE.cons ?_ ?_ | exact bs_n | exact bs_d | exact bs_m | exact bs_o (noLA_ints _) | exact bs_f (noLA_ints _) | exact bs_k (noLK_gP _), ov_noL _, by repeat' first | exact BorE.nil | refine BorE.cons ?_ ?_ | exact bs_n | exact bs_d | exact bs_m | exact bs_o (noLA_ints _) | exact bs_f (noLA_ints _) | exact bs_k (noLK_gP _), ?_⟩
  simp -dsimp only [rR_, sWh]
  refine whW_ind (fun c => ∃ (s : CS) (x6 x7 : Option Px), CI w l2.length s ∧ (∀ z, Fin w s z → Fin w ⟨l2, tiesIn w l2, []⟩ z) ∧ c = ⟨[some (.d (eW w)), some (.d (.int r)), some (.own (s.rr.map .int)), some (.own (s.ts.map .int)), some (.dic (.k (gP s.gg))), some (.d (ov (s.rr.find? (idleB w s.ts)))), x6.map .d, x7.map .d], none⟩) (fun c => slotN c.env[2]?) (fun c hI R' hR => ?_) _ ⟨⟨l2, tiesIn w l2, []⟩, none, none, C, fun z h => h, rfl⟩
  obtain ⟨s, x6, x7, I, F, rfl⟩ := hI
  have slen : s.rr.length ≤ 1000 ∧ s.gg.length ≤ 1000 := by
    have := I.ln
    have ll : l2.length ≤ 1000 := by
      have := nodup_len w.rooms.toNat l2 (hl.asc.imp fun h => by omega) fun x hx => by
        have := ((hl.mem x).mp hx).range R.wo ⟨R.r0, R.r1⟩
        omega
      have := R.rl
      omega
    omega
  cases hf : s.rr.find? (idleB w s.ts) with
  | none =>
    have fin := F s (.stop (next_none.mpr hf))
    simp -dsimp only [rR_, ov, isn_n]
    exact ⟨by decide, hQ l2 s hl fin I⟩
  | some a =>
    obtain ⟨c, h1, h2, h3, h4⟩ := next_some hf
    obtain ⟨k1, k2, k3⟩ := outsT_ok (w := w) (ts := s.ts) (r := a) (c := c) (by rw [h1]; simp)
    have nk : ∀ p ∈ s.gg, p.1 ≠ a := fun p hp z => I.gk p hp (z ▸ h3)
    have I' := I.step h3 h1 h2
    have F' : ∀ z, Fin w ⟨s.rr.erase a, s.ts.erase c.1, s.gg ++ [(a, c)]⟩ z → Fin w ⟨l2, tiesIn w l2, []⟩ z := fun z h => F z (.go h4 h)
    have pl := putL (c := c) nk
    have gl : (gP s.gg).length < 1000000 := by unfold gP; rw [List.length_map]; omega
    have mu : (s.rr.erase a).length < s.rr.length := by
      have := List.length_pos_of_mem h3
      rw [List.length_erase_of_mem h3]
      omega
    simp -dsimp only [rR_, ov, isn_i]
    refine ⟨noLA_ints _, w, a, s.ts, rfl, R.tl, ?_⟩
    rw [h1]
    simp -dsimp only [rR_, List.map_cons, List.map_nil, eC2]
    have pl : putD (gP s.gg) a (PyData.tuple [.int c.1, .int c.2]) = gP (s.gg ++ [(a, c)]) := pl
    refine ⟨rfl, by repeat' first | exact BorE.nil | refine BorE.cons ?_ ?_ | exact bs_n | exact bs_d | exact bs_m | exact bs_o (noLA_ints _) | exact bs_f (noLA_ints _) | exact bs_k (noLK_gP _), by decide, gl, s.rr, rfl, h3, s.ts, rfl, k3, noLA_ints _, noLA_ints _, w, s.rr.erase a, s.ts.erase c.1, rfl, R.tl, ?_⟩
    rw [pl]
    try simp -dsimp only [rR_]
    refine ⟨ov_noL _, by repeat' first | exact BorE.nil | refine BorE.cons ?_ ?_ | exact bs_n | exact bs_d | exact bs_m | exact bs_o (noLA_ints _) | exact bs_f (noLA_ints _) | exact bs_k (noLK_gP _), ov_noL _, by repeat' first | exact BorE.nil | refine BorE.cons ?_ ?_ | exact bs_n | exact bs_d | exact bs_m | exact bs_o (noLA_ints _) | exact bs_f (noLA_ints _) | exact bs_k (noLK_gP _), ?_⟩
    refine hR _ ⟨_, some (.int c.1), some (.int c.2), I', F', rfl⟩ ?_
    show ((s.rr.erase a).map PyData.int).length < (s.rr.map PyData.int).length
    rw [List.length_map, List.length_map]
    exact mu
end K
set_option Elab.async false
set_option maxRecDepth 100000
set_option linter.all false
set_option autoImplicit false
set_option maxHeartbeats 4000000
namespace K
open PySem L2 Dl
variable [TabF]
abbrev Ccore_of : Cn := fun rs g Q => ∃ (w : Web) (r : Int), rs = [.d (eW w), .d (.int r)] ∧ g = none ∧ RmO w r ∧ ∀ l s, IsPiece w.ties r l → Fin w ⟨l, tiesIn w l, []⟩ s → CI w l.length s → Q (.d (.tuple [.tuple (s.rr.map .int), .tuple (s.ts.map .int)])) g
def wcore_of : WS :=
  (sSeq (sAsg (eCallP Ccore_and_taken (aCons (eName 0) (aCons (eName 1) aNil))) (gT 3 (gsCons (gN 2) (gsCons (gN 3) (gsCons (gN 4) gsNil)))))
  (sRet (eTup (aCons (eCB tupC (aCons (eName 2) aNil)) (aCons (eCB tupC (aCons (eName 3) aNil)) aNil)))))
theorem lencore_of (rs : List Rv) (g : Option Nat) (Q : Rv → Option Nat → Prop) (h : Ccore_of rs g Q) : rs.length = 2 := by
  obtain ⟨_, _, rfl, _⟩ := h
  rfl
theorem speccore_of (rs : List Rv) (g : Option Nat) (Q : Rv → Option Nat → Prop) (h : Ccore_of rs g Q) : wcore_of (startC 5 rs g) (endP Q) fun _ _ => False := by
  obtain ⟨w, r, rfl, rfl, R, hQ⟩ := h
  simp only [wcore_of]
  simp -dsimp only [startC, List.map_cons, List.map_nil, List.cons_append, List.nil_append, List.length_cons, List.length_nil, Nat.reduceSub, Nat.reduceAdd, List.replicate_succ, List.replicate_zero]
  try simp -dsimp only [rR_]
  refine ⟨w, r, rfl, rfl, R, fun l s hl F I => ?_⟩
  simp -dsimp only [rR_, eCS]
  exact ⟨by decide, hQ l s hl F I⟩
/-! ### the way home -/
def lkG (g : List (Int × (Int × Int))) (h : Int) : Option (Int × Int) := (g.find? fun p => decide (p.1 = h)).map (·.2)
theorem lk_look (g : List (Int × (Int × Int))) (h : Int) : lookD (gP g) h = (lkG g h).map eC2 := by
  unfold lookD lkG gP
  rw [List.find?_map, Option.map_map, Option.map_map]
  rfl
def posG : List (Int × (Int × Int)) → Int → Nat
  | [], _ => 0
  | p :: g, h => if p.1 = h then g.length + 1 else posG g h
theorem posG_le : ∀ (g : List (Int × (Int × Int))) (h : Int), posG g h ≤ g.length
  | [], _ => Nat.le_refl _
  | p :: g, h => by
    unfold posG
    split
    · exact Nat.le_refl _
    · exact Nat.le_succ_of_le (posG_le g h)
theorem lk_mem : ∀ {g : List (Int × (Int × Int))} {h : Int} {c : Int × Int}, lkG g h = some c → (h, c) ∈ g
  | [], h, c, e => by cases e
  | p :: g, h, c, e => by
    unfold lkG at e
    by_cases q : p.1 = h
    · rw [List.find?_cons_of_pos (by simpa using q)] at e
      have e : p.2 = c := by simpa using e
      rw [← q, ← e]
      exact List.mem_cons_self
    · rw [List.find?_cons_of_neg (by simpa using q)] at e
      exact List.mem_cons_of_mem _ (lk_mem e)
theorem pos_next {w : Web} : ∀ {g : List (Int × (Int × Int))} {h : Int} {c : Int × Int}, (g.Pairwise fun p q => (eCr w q.2).w ≠ p.1) → (∀ p ∈ g, (eCr w p.2).w ≠ p.1) → lkG g h = some c → posG g (eCr w c).w < posG g h
  | [], h, c, _, _, e => by cases e
  | p :: g, h, c, pw, ne, e => by
    obtain ⟨p1, p2⟩ := List.pairwise_cons.mp pw
    have n1 := ne p List.mem_cons_self
    unfold lkG at e
    by_cases q : p.1 = h
    · rw [List.find?_cons_of_pos (by simpa using q)] at e
      have e : p.2 = c := by simpa using e
      unfold posG
      rw [if_pos q, if_neg (by rw [← e]; exact fun z => n1 z.symm)]
      have := posG_le g (eCr w c).w
      omega
    · rw [List.find?_cons_of_neg (by simpa using q)] at e
      have m := lk_mem (g := g) (h := h) (c := c) e
      unfold posG
      rw [if_neg q, if_neg (fun z => p1 _ m z.symm)]
      exact pos_next p2 (fun p hp => ne p (List.mem_cons_of_mem _ hp)) e
inductive Ho (w : Web) (g : List (Int × (Int × Int))) : Int → List (Int × Int) → Int → Prop
  | stop {h : Int} : lkG g h = none → Ho w g h [] h
  | go {h e : Int} {c : Int × Int} {cs : List (Int × Int)} : lkG g h = some c → Ho w g (eCr w c).w cs e → Ho w g h (c :: cs) e
theorem Ho.uniq {w : Web} {g : List (Int × (Int × Int))} {h e e' : Int} {cs cs' : List (Int × Int)} (H : Ho w g h cs e) : Ho w g h cs' e' → cs' = cs ∧ e' = e := by
  induction H generalizing cs' e' with
  | stop n =>
    intro k
    cases k with
    | stop _ => exact ⟨rfl, rfl⟩
    | go n' _ => rw [n] at n'; cases n'
  | go n _ ih =>
    intro k
    cases k with
    | stop n' => rw [n] at n'; cases n'
    | go n' k' =>
      rw [n] at n'
      cases n'
      obtain ⟨e1, e2⟩ := ih k'
      exact ⟨by rw [e1], e2⟩
def stp0 (c : Int × Int) : Stp := ⟨c.1, c.2, 0⟩
def barW (r : Int) (cs : List (Int × Int)) : Wlk := ⟨r, 0, cs.map stp0⟩
def nbW (w : Web) (cs : List (Int × Int)) : Int := cs.foldl (fun n c => n * ((eCr w c).p * (eCr w c).q)) 1
theorem nbW_snoc (w : Web) (cs : List (Int × Int)) (c : Int × Int) : nbW w (cs ++ [c]) = nbW w cs * ((eCr w c).p * (eCr w c).q) := by
  unfold nbW
  rw [List.foldl_append]
  rfl
theorem bar_join (r a : Int) (cs : List (Int × Int)) (c : Int × Int) : joinW (barW r cs) ⟨a, 0, [stp0 c]⟩ = barW r (cs ++ [c]) := by
  unfold barW
  rcases List.eq_nil_or_concat cs with rfl | ⟨l, d, rfl⟩
  · rfl
  · rw [joinW_snoc (l := l.map stp0) (s := stp0 d) (by simp)]
    simp [stp0]
def legs (ws : List (Int × (Int × Int))) : List Wlk := ws.map fun p => ⟨p.1, 0, [stp0 p.2]⟩
theorem bar_legs (r : Int) (ws : List (Int × (Int × Int))) : joinL (barW r []) (legs ws) = barW r (ws.map (·.2)) := by
  induction ws using snocInd with
  | h0 => rfl
  | hs l a ih =>
    unfold legs at ih ⊢
    rw [List.map_append, List.map_append]
    simp only [List.map_cons, List.map_nil]
    rw [joinL_snoc, ih, bar_join]
theorem lens_legs (ws : List (Int × (Int × Int))) : lens (legs ws) = ws.length := by
  unfold lens legs
  induction ws with
  | nil => rfl
  | cons a l ih =>
    simp only [List.map_cons, List.sum_cons, List.length_cons, List.length_nil] at ih ⊢
    omega
/-- what is known of the way -/
structure HoOk (w : Web) (s : CS) (r : Int) (cs : List (Int × Int)) (e : Int) : Prop where
  ok : CsOk w cs
  un : ∀ c ∈ cs, (eCr w c).p.natAbs = 1
  ch : Ch w r cs e
  ln : cs.length + posG s.gg e ≤ posG s.gg r
theorem HoOk.start (w : Web) (s : CS) (r : Int) : HoOk w s r [] r := ⟨fun c h => (by cases h), fun c h => (by cases h), .nil, (by simp)⟩
theorem HoOk.next {w : Web} {n : Nat} {s : CS} {r e : Int} {cs : List (Int × Int)} {c : Int × Int} (I : CI w n s) (h : HoOk w s r cs e) (k : lkG s.gg e = some c) : HoOk w s r (cs ++ [c]) (eCr w c).w ∧ posG s.gg (eCr w c).w < posG s.gg e ∧ CrOk w c.1 c.2 ∧ (eCr w c).p.natAbs = 1 := by
  obtain ⟨g1, g2, g3, g4⟩ := I.gc _ (lk_mem k)
  have p := pos_next (w := w) I.go (fun p hp => (I.gc p hp).2.2.2) k
  refine ⟨⟨fun d hd => ?_, fun d hd => ?_, .snoc c h.ch g2, ?_⟩, p, g1, g3⟩
  · rcases List.mem_append.mp hd with z | z
    · exact h.ok d z
    · have e : d = c := by simpa using z
      rw [e]
      exact g1
  · rcases List.mem_append.mp hd with z | z
    · exact h.un d z
    · have e : d = c := by simpa using z
      rw [e]
      exact g3
  · have := h.ln
    rw [List.length_append]
    simp only [List.length_cons, List.length_nil]
    omega
end K
set_option Elab.async false
set_option maxRecDepth 100000
set_option linter.all false
set_option autoImplicit false
set_option maxHeartbeats 4000000
namespace K
open PySem L2 Dl
variable [TabF]
theorem eCr_at {w : Web} {c : Int × Int} (h : CrOk w c.1 c.2) : ∃ x, Web.at w c.1 x ∧ eCr w c = rev x c.2 := by
  obtain ⟨⟨x, hx⟩, _⟩ := h
  exact ⟨x, hx, e_of (s := ⟨c.1, c.2, 0⟩) hx⟩
theorem cr_q {w : Web} (wo : WebOk w 1000) {c : Int × Int} (h : CrOk w c.1 c.2) : (eCr w c).q.natAbs ≤ 1000 ∧ (eCr w c).p.natAbs ≤ 1000 := by
  obtain ⟨x, hx, e⟩ := eCr_at h
  have o := (wo.at hx).rev c.2
  rw [e]
  have h1 := o.q1
  have h2 := o.p1
  omega
theorem pq_small {w : Web} (wo : WebOk w 1000) {c : Int × Int} (h : CrOk w c.1 c.2) (hp : (eCr w c).p.natAbs = 1) : ((eCr w c).p * (eCr w c).q).natAbs ≤ 1000 := by
  rw [Int.natAbs_mul, hp, Nat.one_mul]
  exact (cr_q wo h).1
abbrev Chome_of : Cn := fun rs g Q => ∃ (w : Web) (r : Int), rs = [.d (eW w), .d (.int r)] ∧ g = none ∧ RmO w r ∧ w.rooms ≤ 100 ∧ ∀ l s cs e, IsPiece w.ties r l → Fin w ⟨l, tiesIn w l, []⟩ s → CI w l.length s → Ho w s.gg r cs e → HoOk w s r cs e → Q (.d (.tuple [eK (barW r cs), .int (nbW w cs)])) g
def whome_of : WS :=
  (sSeq (sAsg (eIx (eCallP Ccore_and_taken (aCons (eName 0) (aCons (eName 1) aNil))) (eC (.int 2))) (gN 2))
  (sSeq (sAsg (eLst (aCons (eTup (aCons (eName 1) (aCons (eC (.int 0)) (aCons (eTup aNil) aNil)))) aNil)) (gN 3))
  (sSeq (sAsg (eC (.int 1)) (gN 4))
  (sSeq (sAsg (eName 1) (gN 5))
  (sSeq (sWh (wB (eDInF false 2 (eName 5)))
  (sSeq (sAsg (eDIxF 2 (eName 5)) (gT 2 (gsCons (gN 6) (gsCons (gN 7) gsNil))))
  (sSeq (sExp (eApp 3 (eTup (aCons (eName 5) (aCons (eC (.int 0)) (aCons (eTup (aCons (eTup (aCons (eName 6) (aCons (eName 7) (aCons (eC (.int 0)) aNil)))) aNil)) aNil))))))
  (sSeq (sAsg (eCallP Cends_of (aCons (eName 0) (aCons (eName 6) (aCons (eName 7) aNil)))) (gT 4 (gsCons (gN 8) (gsCons (gN 5) (gsCons (gN 9) (gsCons (gN 10) gsNil))))))
  (sAug 4 mulD (eOp mulD (eName 9) (eName 10)))))))
  (sRet (eTup (aCons (eCallP Cjoined_of_any_size (aCons (eName 3) aNil)) (aCons (eName 4) aNil)))))))))
theorem lenhome_of (rs : List Rv) (g : Option Nat) (Q : Rv → Option Nat → Prop) (h : Chome_of rs g Q) : rs.length = 2 := by
  obtain ⟨_, _, rfl, _⟩ := h
  rfl
theorem ll_of {w : Web} {r : Int} {l : List Int} (R : RmO w r) (h : IsPiece w.ties r l) : l.length ≤ w.rooms.toNat := nodup_len w.rooms.toNat l (lt_nd h.asc) fun x hx => by
  have := ((h.mem x).mp hx).range R.wo ⟨R.r0, R.r1⟩
  omega
def mG (g : List (Int × (Int × Int))) : Option (Option Rv) → Nat
  | some (some (Rv.d (PyData.int i))) => posG g i
  | _ => 0
theorem spechome_of (rs : List Rv) (g : Option Nat) (Q : Rv → Option Nat → Prop) (h : Chome_of rs g Q) : whome_of (startC 11 rs g) (endP Q) fun _ _ => False := by
  obtain ⟨w, r, rfl, rfl, R, rl, hQ⟩ := h
  simp only [whome_of]
  simp -dsimp only [startC, List.map_cons, List.map_nil, List.cons_append, List.nil_append, List.length_cons, List.length_nil, Nat.reduceSub, Nat.reduceAdd, List.replicate_succ, List.replicate_zero]
  try simp -dsimp only [rR_]
  refine ⟨w, r, rfl, rfl, R, fun l s hl F I => ?_⟩
  have ll := ll_of R hl
  have gl : s.gg.length ≤ 100 := by
    have := I.ln
    omega
  have pl := posG_le s.gg r
  simp -dsimp only [rR_, eCS, ixt2]
  refine ⟨by decide, by decide, by decide, ?_⟩
  simp -dsimp only [rR_, sWh]
  refine whW_ind (fun c => ∃ (ws : List (Int × (Int × Int))) (e : Int) (x6 x7 x8 x9 x10 : Option Px), (∀ ds e', Ho w s.gg e ds e' → Ho w s.gg r (ws.map (·.2) ++ ds) e') ∧ HoOk w s r (ws.map (·.2)) e ∧ c = ⟨[some (.d (eW w)), some (.d (.int r)), some (.d (eDc (gP s.gg))), some (.own ((barW r [] :: legs ws).map eK)), some (.d (.int (nbW w (ws.map (·.2))))), some (.d (.int e)), x6.map .d, x7.map .d, x8.map .d, x9.map .d, x10.map .d], none⟩) (fun c => mG s.gg c.env[5]?) (fun c hI R' hR => ?_) _ ⟨[], r, none, none, none, none, none, fun ds e' h => h, HoOk.start w s r, rfl⟩
  obtain ⟨ws, e, x6, x7, x8, x9, x10, T, K, rfl⟩ := hI
  have wl := K.ln
  rw [List.length_map] at wl
  try simp -dsimp only [rR_]
  rw [lk_look]
  cases hk : lkG s.gg e with
  | none =>
    simp -dsimp only [rR_, Option.map_none, Option.isSome_none]
    have T := T [] e (.stop hk)
    rw [List.append_nil] at T
    refine ⟨barW r [], legs ws, rfl, by rw [lens_legs]; show 0 + ws.length ≤ 900; omega, by unfold legs; rw [List.length_map]; omega, ?_⟩
    rw [bar_legs]
    try simp -dsimp only [rR_]
    exact ⟨by decide, hQ l s _ e hl F I T K⟩
  | some c =>
    obtain ⟨K', lt, ck, cp⟩ := K.next I hk
    obtain ⟨x, hx, ex⟩ := eCr_at ck
    have sm := pq_small I.wo ck cp
    simp -dsimp only [rR_, Option.map_some, Option.isSome_some]
    refine ⟨_, rfl, ?_⟩
    simp -dsimp only [rR_, gT_d, eC2]
    refine ⟨by decide, by decide, by decide, by simp [legs]; omega, w, c.1, c.2, x, rfl, hx, ?_⟩
    rw [← ex]
    simp -dsimp only [rR_, gT_d, eT]
    refine ⟨CMul2.l (by omega) (by omega), CMul2.r (by omega) (by omega), ?_⟩
    have e2 : (ws ++ [(e, c)]).map (·.2) = ws.map (·.2) ++ [c] := by simp
    refine hR _ ⟨ws ++ [(e, c)], (eCr w c).w, some (.int c.1), some (.int c.2), some (.int (eCr w c).v), some (.int (eCr w c).p), some (.int (eCr w c).q), fun ds e' h => ?_, ?_, ?_⟩ ?_
    · rw [e2, List.append_assoc]
      exact T _ _ (.go hk h)
    · rw [e2]
      exact K'
    · rw [e2, nbW_snoc]
      simp [legs, eK, eS, stp0]
    · exact lt
end K
set_option Elab.async false
set_option maxRecDepth 100000
set_option linter.all false
set_option autoImplicit false
set_option maxHeartbeats 4000000
namespace K
open PySem L2 Dl
variable [TabF]
abbrev C_law_bare : Cn := fun rs g Q => ∃ (r : Int) (cs : List (Int × Int)), rs = [.d (.int r), .d (.list (cs.map eC2))] ∧ cs.length ≤ 1000 ∧ Q (.d (eK (barW r cs))) g
def w_law_bare : WS :=
  (sRet (eTup (aCons (eName 0) (aCons (eC (.int 0)) (aCons (eCB tupC (aCons (eLc (iLst (eName 1)) (gT 2 (gsCons (gN 2) (gsCons (gN 3) gsNil))) wYes (eTup (aCons (eName 2) (aCons (eName 3) (aCons (eC (.int 0)) aNil)))) [2, 3]) aNil)) aNil)))))
theorem len_law_bare (rs : List Rv) (g : Option Nat) (Q : Rv → Option Nat → Prop) (h : C_law_bare rs g Q) : rs.length = 2 := by
  obtain ⟨_, _, rfl, _⟩ := h
  rfl
theorem spec_law_bare (rs : List Rv) (g : Option Nat) (Q : Rv → Option Nat → Prop) (h : C_law_bare rs g Q) : w_law_bare (startC 4 rs g) (endP Q) fun _ _ => False := by
  obtain ⟨r, cs, rfl, hl, hQ⟩ := h
  simp only [w_law_bare]
  simp -dsimp only [startC, List.map_cons, List.map_nil, List.cons_append, List.nil_append, List.length_cons, List.length_nil, Nat.reduceSub, Nat.reduceAdd, List.replicate_succ, List.replicate_zero]
  try simp -dsimp only [rR_]
  refine ⟨by simp [nown], ?_⟩
  simp only [lcH]
  refine lcW_mpa eC2 (fun c => eS (stp0 c)) cs (fun c hc R' S hR => ?_) (by omega) ?_
  · simp -dsimp only [rR_, Turn1, wipeE, eC2]
    exact ⟨by decide, hR⟩
  · try simp -dsimp only [rR_]
    have e : eK (barW r cs) = .tuple [.int r, .int 0, .tuple (cs.map fun c => eS (stp0 c))] := by
      unfold eK barW
      rw [List.map_map]
      rfl
    rw [e] at hQ
    exact ⟨by decide, hQ⟩
/-! ### the law's own cores -/
def eE (w : Web) (c : Int × Int) : Px := .tuple [.int c.1, .int c.2, .int (eCr w c).p]
def twoC (w : Web) (t r : Int) : List (Int × Int) := (if (w.tie t).v = r then [(t, (1 : Int))] else []) ++ (if (w.tie t).w = r then [(t, (-1 : Int))] else [])
/-- the crossings over some ties, ascending -/
theorem outsT_eq {w : Web} {r : Int} {ts : List Int} (ha : ts.Pairwise (· < ·)) (hr : ∀ t ∈ ts, ∃ x, Web.at w t x) : outsT w ts r = ts.flatMap fun t => twoC w t r := by
  have key : ∀ n, n ≤ w.ties.length → (outsN w r n).filter (fun c => decide (c.1 ∈ ts)) = (ts.filter fun t => decide (t < (n : Int))).flatMap fun t => twoC w t r := by
    intro n
    induction n with
    | zero =>
      intro _
      have e : ts.filter (fun t => decide (t < ((0 : Nat) : Int))) = [] := by
        rw [List.filter_eq_nil_iff]
        intro t ht
        obtain ⟨x, i, rfl, _⟩ := hr t ht
        simp
      rw [e]
      rfl
    | succ n ih =>
      intro hn
      have hlt : n < w.ties.length := by omega
      rw [outsN_succ w r n (tie_get hlt), List.filter_append, ih (by omega)]
      have e2 : ((if (w.tie (n : Int)).v = r then [((n : Int), (1 : Int))] else []) ++ (if (w.tie (n : Int)).w = r then [((n : Int), (-1 : Int))] else [])) = twoC w n r := rfl
      rw [e2]
      have allF : ∀ c ∈ twoC w n r, c.1 = (n : Int) := fun c hc => by
        unfold twoC at hc
        rcases List.mem_append.mp hc with z | z
        · split at z
          · rw [List.mem_singleton.mp z]
          · cases z
        · split at z
          · rw [List.mem_singleton.mp z]
          · cases z
      have split1 : ∀ l : List Int, l.Pairwise (· < ·) → (l.filter fun t => decide (t < ((n + 1 : Nat) : Int))) = (l.filter fun t => decide (t < (n : Int))) ++ (if (n : Int) ∈ l then [(n : Int)] else []) := by
        intro l
        induction l with
        | nil => intro _; rfl
        | cons t l ih2 =>
          intro hp
          obtain ⟨p1, p2⟩ := List.pairwise_cons.mp hp
          have ih2 := ih2 p2
          by_cases h1 : t < (n : Int)
          · rw [List.filter_cons_of_pos (by simp; omega), List.filter_cons_of_pos (by simpa using h1), ih2]
            have : ((n : Int) ∈ t :: l) ↔ (n : Int) ∈ l := by
              rw [List.mem_cons]
              exact ⟨fun z => z.elim (fun z => by omega) id, .inr⟩
            simp only [this, List.cons_append]
          · have nl : ∀ x ∈ l, ¬ x < ((n + 1 : Nat) : Int) := fun x hx => by
              have := p1 x hx
              omega
            have e3 : l.filter (fun t => decide (t < ((n + 1 : Nat) : Int))) = [] := by
              rw [List.filter_eq_nil_iff]
              intro x hx
              simpa using nl x hx
            have e4 : l.filter (fun t => decide (t < (n : Int))) = [] := by
              rw [List.filter_eq_nil_iff]
              intro x hx
              have := nl x hx
              simp
              omega
            have e5 : ¬ (n : Int) ∈ l := fun z => nl _ z (by omega)
            by_cases h2 : t = (n : Int)
            · rw [List.filter_cons_of_pos (by simp; omega), List.filter_cons_of_neg (by simpa using h1), e3, e4, if_pos (by rw [h2]; exact List.mem_cons_self), h2]
              rfl
            · rw [List.filter_cons_of_neg (by simp; omega), List.filter_cons_of_neg (by simpa using h1), e3, e4, if_neg]
              · rfl
              · rw [List.mem_cons]
                exact fun z => z.elim (fun z => h2 z.symm) e5
      rw [split1 ts ha, List.flatMap_append]
      congr 1
      by_cases hm : (n : Int) ∈ ts
      · rw [if_pos hm]
        simp only [List.flatMap_cons, List.flatMap_nil, List.append_nil]
        rw [List.filter_eq_self]
        intro c hc
        rw [allF c hc]
        simpa using hm
      · rw [if_neg hm]
        simp only [List.flatMap_nil]
        rw [List.filter_eq_nil_iff]
        intro c hc
        rw [allF c hc]
        simpa using hm
  have h := key w.ties.length (Nat.le_refl _)
  have e : ts.filter (fun t => decide (t < (w.ties.length : Int))) = ts := by
    rw [List.filter_eq_self]
    intro t ht
    obtain ⟨x, i, rfl, e⟩ := hr t ht
    have := (List.getElem?_eq_some_iff.mp e).1
    simpa using this
  rw [e] at h
  exact h
end K
set_option Elab.async false
set_option maxRecDepth 100000
set_option linter.all false
set_option autoImplicit false
set_option maxHeartbeats 4000000
namespace K
open PySem L2 Dl
variable [TabF]
abbrev C_law_ends_at : Cn := fun rs g Q => ∃ (w : Web) (ts : List Int) (r : Int), rs = [.d (eW w), .d (.list (ts.map .int)), .d (.int r)] ∧ ts.length ≤ 1000 ∧ (∀ t ∈ ts, ∃ x, Web.at w t x) ∧ Q (.d (.list ((ts.flatMap fun t => twoC w t r).map (eE w)))) g
def w_law_ends_at : WS :=
  (sSeq (sAsg (eLst aNil) (gN 3))
  (sSeq (sFor (iLst (eName 1)) (gN 4)
  (sFor (iTpl (eTup (aCons (eC (.int 1)) (aCons (eUn negD (eC (.int 1))) aNil)))) (gN 5)
  (sSeq (sAsg (eCallP C_law_ends (aCons (eName 0) (aCons (eName 4) (aCons (eName 5) aNil)))) (gN 6))
  (sIf (wB (eScR 2 (eqD false) (eIxN 6 (eC (.int 0))))) (sExp (eApp 3 (eTup (aCons (eName 4) (aCons (eName 5) (aCons (eIxN 6 (eC (.int 2))) aNil)))))) sNil))))
  (sRet (eName 3))))
theorem len_law_ends_at (rs : List Rv) (g : Option Nat) (Q : Rv → Option Nat → Prop) (h : C_law_ends_at rs g Q) : rs.length = 3 := by
  obtain ⟨_, _, _, rfl, _⟩ := h
  rfl
theorem two_len (w : Web) (ts : List Int) (r : Int) : (ts.flatMap fun t => twoC w t r).length ≤ 2 * ts.length := by
  induction ts with
  | nil => simp
  | cons t ts ih =>
    have : (twoC w t r).length ≤ 2 := by
      unfold twoC
      split <;> split <;> simp
    simp only [List.flatMap_cons, List.length_append, List.length_cons]
    omega
theorem spec_law_ends_at (rs : List Rv) (g : Option Nat) (Q : Rv → Option Nat → Prop) (h : C_law_ends_at rs g Q) : w_law_ends_at (startC 7 rs g) (endP Q) fun _ _ => False := by
  obtain ⟨w, ts, r, rfl, tl, hat, hQ⟩ := h
  simp only [w_law_ends_at]
  simp -dsimp only [startC, List.map_cons, List.map_nil, List.cons_append, List.nil_append, List.length_cons, List.length_nil, Nat.reduceSub, Nat.reduceAdd, List.replicate_succ, List.replicate_zero]
  try simp -dsimp only [rR_]
  simp only [forH]
  refine ⟨by decide, ?_⟩
  refine forW_ind _ (fun i c => ∃ (x4 x5 x6 : Option Px), c = ⟨[some (.d (eW w)), some (.d (.list (ts.map .int))), some (.d (.int r)), some (.own (((ts.take i).flatMap fun t => twoC w t r).map (eE w))), x4.map .d, x5.map .d, x6.map .d], g⟩) (fun i x c hx hI R hR => ?_) (fun c hI => ?_) _ ⟨none, none, none, rfl⟩
  · obtain ⟨x4, x5, x6, rfl⟩ := hI
    obtain ⟨t, ht, rfl⟩ := map_at hx
    obtain ⟨x, hx⟩ := hat t (List.mem_of_getElem? ht)
    have tk : ts.take (i + 1) = ts.take i ++ [t] := by rw [List.take_succ, ht]; rfl
    have l2 := two_len w (ts.take i) r
    have l3 : (ts.take i).length ≤ ts.length := by rw [List.length_take]; omega
    have wt : w.tie t = x := hx.tie
    have ev : eCr w (t, 1) = rev x 1 := e_of (s := ⟨t, 1, 0⟩) hx
    have ew : eCr w (t, -1) = rev x (-1) := e_of (s := ⟨t, -1, 0⟩) hx
    have fin : ∀ F : List (Int × Int), F = (ts.take i).flatMap (fun t => twoC w t r) ++ twoC w t r → R ⟨[some (.d (eW w)), some (.d (.list (ts.map .int))), some (.d (.int r)), some (.own (F.map (eE w))), some (.d (.int t)), some (.d (.int (-1))), some (.d (eT (rev x (-1))))], g⟩ := fun F hF => by
      refine hR _ ⟨some (.int t), some (.int (-1)), some (eT (rev x (-1))), ?_⟩
      rw [hF, tk, List.flatMap_append]
      simp
    generalize (ts.take i).flatMap (fun t => twoC w t r) = F0 at l2 fin ⊢
    have r1 : rev x 1 = x := rfl
    have r2 : rev x (-1) = ⟨x.w, x.v, x.q, x.p⟩ := by unfold rev; rw [if_neg (by decide)]
    try simp -dsimp only [rR_]
    refine ⟨by decide, ?_⟩
    simp -dsimp only [rR_, forH, forW]
    refine ⟨w, t, 1, x, rfl, hx, ?_⟩
    rw [r1]
    simp -dsimp only [rR_, eT]
    by_cases h1 : x.v = r
    · have b1 : (x.v == r) = true := by rw [beq_iff_eq]; exact h1
      rw [if_pos b1]
      refine ⟨by decide, by rw [List.length_map]; omega, ?_⟩
      simp -dsimp only [rR_, forW]
      refine ⟨w, t, -1, x, rfl, hx, ?_⟩
      rw [r2] at fin ⊢
      simp -dsimp only [rR_, eT]
      by_cases h2 : x.w = r
      · have b2 : (x.w == r) = true := by rw [beq_iff_eq]; exact h2
        rw [if_pos b2]
        have := fin (F0 ++ [(t, 1), (t, -1)]) (by unfold twoC; rw [wt, if_pos h1, if_pos h2]; rfl)
        rw [List.map_append] at this
        simp only [List.map_cons, List.map_nil, eE, ev, ew, r1, r2, eT] at this
        refine ⟨by decide, by rw [List.length_append, List.length_map]; simp; omega, ?_⟩
        rw [List.append_assoc]
        exact this
      · have b2 : ¬ (x.w == r) = true := by rw [beq_iff_eq]; exact h2
        rw [if_neg b2]
        have := fin (F0 ++ [(t, 1)]) (by unfold twoC; rw [wt, if_pos h1, if_neg h2]; rfl)
        rw [List.map_append] at this
        simp only [List.map_cons, List.map_nil, eE, ev, ew, r1, r2, eT] at this
        exact this
    · have b1 : ¬ (x.v == r) = true := by rw [beq_iff_eq]; exact h1
      rw [if_neg b1]
      simp -dsimp only [rR_, forW]
      refine ⟨w, t, -1, x, rfl, hx, ?_⟩
      rw [r2] at fin ⊢
      simp -dsimp only [rR_, eT]
      by_cases h2 : x.w = r
      · have b2 : (x.w == r) = true := by rw [beq_iff_eq]; exact h2
        rw [if_pos b2]
        have := fin (F0 ++ [(t, -1)]) (by unfold twoC; rw [wt, if_neg h1, if_pos h2]; rfl)
        rw [List.map_append] at this
        simp only [List.map_cons, List.map_nil, eE, ev, ew, r1, r2, eT] at this
        refine ⟨by decide, by rw [List.length_map]; omega, this⟩
      · have b2 : ¬ (x.w == r) = true := by rw [beq_iff_eq]; exact h2
        rw [if_neg b2]
        have := fin F0 (by unfold twoC; rw [wt, if_neg h1, if_neg h2]; simp)
        simp only [eT] at this
        exact this
  · obtain ⟨x4, x5, x6, rfl⟩ := hI
    rw [List.length_map, List.take_length]
    try simp -dsimp only [rR_]
    exact hQ
end K
set_option Elab.async false
set_option maxRecDepth 100000
set_option linter.all false
set_option autoImplicit false
set_option maxHeartbeats 4000000
namespace K
open PySem L2 Dl
variable [TabF]
def eI (w : Web) (ts : List Int) (r : Int) : Px := match outsT w ts r with
  | [c] => .tuple [.int r, .int c.1, .int c.2]
  | _ => .none
abbrev C_law_core : Cn := fun rs g Q => ∃ (w : Web) (r : Int), rs = [.d (eW w), .d (.int r)] ∧ g = none ∧ RmO w r ∧ ∀ l s, IsPiece w.ties r l → Fin w ⟨l, tiesIn w l, []⟩ s → CI w l.length s → Q (.d (eCS s)) g
def w_lc1 : WS :=
  (sFor (iLst (eName 2)) (gN 7)
  (sSeq (sAsg (eCallP C_law_ends_at (aCons (eName 0) (aCons (eName 4) (aCons (eName 7) aNil)))) (gN 8))
  (sIf (wAnd (wB (eSc (eqD false) (eLenN 8) (eC (.int 1)))) (wB (eSc (eqD false) (eCB absC (aCons (eIx (eIxN 8 (eC (.int 0))) (eC (.int 2))) aNil)) (eC (.int 1))))) (sExp (eApp 6 (eTup (aCons (eName 7) (aCons (eIx (eIxN 8 (eC (.int 0))) (eC (.int 0))) (aCons (eIx (eIxN 8 (eC (.int 0))) (eC (.int 1))) aNil)))))) sNil)))
def w_lc2 : WS :=
  (sIf (wB (eScL 6 (eqD true) (eLst aNil))) (sSeq (sAsg (eIxN 6 (eC (.int 0))) (gT 3 (gsCons (gN 7) (gsCons (gN 3) (gsCons (gN 9) gsNil)))))
  (sSeq (sDctP 5 (eTup (aCons (eName 3) (aCons (eName 9) aNil))) (eName 7))
  (sAsg (eTup (aCons (eLc (iLst (eName 2)) (gN 10) (wB (eScL 10 (eqD true) (eName 7))) (eName 10) [10]) (aCons (eLc (iLst (eName 4)) (gN 10) (wB (eScL 10 (eqD true) (eName 3))) (eName 10) [10]) aNil))) (gT 2 (gsCons (gN 2) (gsCons (gN 4) gsNil)))))) sNil)
def w_law_core : WS :=
  (sSeq (sAsg (eCB sortIC (aCons (eLstK (eCallP C_law_home (aCons (eName 0) (aCons (eName 1) aNil)))) aNil)) (gN 2))
  (sSeq (sPar2 4 5 (eLc (iRg1 (aCons (eCB lenC (aCons (eIxN 0 (eC (.int 1))) aNil)) aNil)) (gN 3) (wB (eScR 2 (inD false) (eIx (eIx (eIxN 0 (eC (.int 1))) (eName 3)) (eC (.int 0))))) (eName 3) [3]) eDisp0)
  (sSeq (sAsg (eLst (aCons (eC (.int 0)) aNil)) (gN 6))
  (sSeq (sWh (wB (eScL 6 (eqD true) (eLst aNil)))
  (sSeq (sAsg (eLst aNil) (gN 6))
  (sSeq w_lc1
  w_lc2)))
  (sRet (eTup (aCons (eName 2) (aCons (eName 4) (aCons (eFrz 5) aNil)))))))))
theorem len_law_core (rs : List Rv) (g : Option Nat) (Q : Rv → Option Nat → Prop) (h : C_law_core rs g Q) : rs.length = 2 := by
  obtain ⟨_, _, rfl, _⟩ := h
  rfl
def ownOr (z : Rv) (l : List Px) : Prop := z = .own l ∨ z = .d (.list l)
def envO (w : Web) (r : Int) (z2 z4 : Rv) (gg : List (Int × (Int × Int))) (xs : List Px) (x3 x7 x8 x9 x10 : Option Px) : List (Option Rv) := [some (.d (eW w)), some (.d (.int r)), some z2, x3.map .d, some z4, some (.dic (.k (gP gg))), some (.own xs), x7.map .d, x8.map .d, x9.map .d, x10.map .d]
theorem run_lc1 {w : Web} {r : Int} {n : Nat} {s : CS} {z2 z4 : Rv} {x3 x7 x8 x9 x10 : Option Px} {P : Fl → Prop} (I : CI w n s) (h2 : ownOr z2 (s.rr.map .int)) (h4 : ownOr z4 (s.ts.map .int)) (rl : s.rr.length ≤ 1000) (tl : s.ts.length ≤ 1000)
    (hP : ∀ (z4 : Rv) (x7 x8 : Option Px), ownOr z4 (s.ts.map .int) → P (.nx ⟨envO w r (.d (.list (s.rr.map .int))) z4 s.gg ((s.rr.filter (idleB w s.ts)).map (eI w s.ts)) x3 x7 x8 x9 x10, none⟩)) :
    w_lc1 ⟨envO w r z2 z4 s.gg [] x3 x7 x8 x9 x10, none⟩ P (fun _ _ => False) := by
  simp only [w_lc1]
  rcases h2 with rfl | rfl
  all_goals
    simp -dsimp only [rR_, envO]
    simp only [forH]
    refine forW_ind _ (fun i c => ∃ (z4 : Rv) (x7 x8 : Option Px), ownOr z4 (s.ts.map .int) ∧ c = ⟨envO w r (.d (.list (s.rr.map .int))) z4 s.gg (((s.rr.take i).filter (idleB w s.ts)).map (eI w s.ts)) x3 x7 x8 x9 x10, none⟩) (fun i x c hx hI R hR => ?_) (fun c hI => ?_) _ ⟨z4, x7, x8, h4, rfl⟩
    · obtain ⟨z4, x7, x8, h4, rfl⟩ := hI
      obtain ⟨a, ha, rfl⟩ := map_at hx
      have tk : s.rr.take (i + 1) = s.rr.take i ++ [a] := by rw [List.take_succ, ha]; rfl
      have fl : ((s.rr.take i).filter (idleB w s.ts)).length ≤ 1000 := by
        have h1 := List.length_filter_le (idleB w s.ts) (s.rr.take i)
        have h2 : (s.rr.take i).length ≤ s.rr.length := by rw [List.length_take]; omega
        omega
      have oe := outsT_eq (r := a) I.ta I.tr
      have hR : ∀ (x8 : Option Px) (xs : List Px), xs = ((s.rr.take i).filter (idleB w s.ts)).map (eI w s.ts) ++ (if idleB w s.ts a = true then [eI w s.ts a] else []) → R ⟨envO w r (.d (.list (s.rr.map .int))) (.d (.list (s.ts.map .int))) s.gg xs x3 (some (.int a)) x8 x9 x10, none⟩ := fun x8 xs hxs => by
        refine hR _ ⟨_, some (.int a), x8, .inr rfl, ?_⟩
        rw [hxs, tk, List.filter_append, List.map_append]
        by_cases hb : idleB w s.ts a = true
        · rw [if_pos hb, List.filter_cons_of_pos hb]
          rfl
        · rw [if_neg hb, List.filter_cons_of_neg hb]
          rfl
      have fl : (((s.rr.take i).filter (idleB w s.ts)).map (eI w s.ts)).length ≤ 1000 := by rw [List.length_map]; exact fl
      generalize ((s.rr.take i).filter (idleB w s.ts)).map (eI w s.ts) = F at hR fl ⊢
      rcases h4 with rfl | rfl
      all_goals
        simp -dsimp only [rR_, envO]
        refine ⟨w, s.ts, a, rfl, tl, I.tr, ?_⟩
        rw [← oe]
        have ib : idleB w s.ts a = match outsT w s.ts a with
          | [c] => decide ((eCr w c).p.natAbs = 1)
          | _ => false := rfl
        have ei : eI w s.ts a = match outsT w s.ts a with
          | [c] => .tuple [.int a, .int c.1, .int c.2]
          | _ => .none := rfl
        generalize outsT w s.ts a = O at ib ei ⊢
        match O with
        | [] =>
          simp -dsimp only [rR_, List.map_nil]
          exact hR (some _) F (by rw [ib]; simp)
        | [c] =>
          simp -dsimp only [rR_, List.map_cons, List.map_nil, eE]
          by_cases hb : (eCr w c).p.natAbs = 1
          · have e1 : ((((eCr w c).p.natAbs : Nat) : Int) == 1) = true := by rw [hb]; rfl
            simp -dsimp only [rR_, e1]
            refine ⟨by decide, by omega, ?_⟩
            exact hR (some _) _ (by rw [ib, ei]; simp [hb])
          · have e1 : ((((eCr w c).p.natAbs : Nat) : Int) == 1) = false := by rw [beq_eq_false_iff_ne]; omega
            simp -dsimp only [rR_, e1]
            exact hR (some _) F (by rw [ib]; simp [hb])
        | c :: d :: O =>
          have e1 : ((((c :: d :: O).map (eE w)).length : Int) == 1) = false := by
            rw [beq_eq_false_iff_ne, List.length_map]
            simp only [List.length_cons]
            omega
          simp -dsimp only [rR_, e1]
          exact hR (some _) F (by rw [ib]; simp)
    · obtain ⟨z4, x7, x8, h4, rfl⟩ := hI
      rw [List.length_map, List.take_length]
      exact hP z4 x7 x8 h4
theorem fm_ne (a : Int) : ∀ l : List Int, l.filterMap (fun x => if x = a then none else some (PyData.int x)) = (l.filter (· != a)).map PyData.int
  | [] => rfl
  | x :: l => by
    by_cases h : x = a
    · rw [List.filterMap_cons_none (by rw [if_pos h]), fm_ne a l, List.filter_cons_of_neg (by simp [h])]
    · rw [List.filterMap_cons_some (by rw [if_neg h]), fm_ne a l, List.filter_cons_of_pos (by simp [h])]
      rfl
theorem eI_shp (w : Web) (ts l : List Int) : ∀ x ∈ l.map (eI w ts), Shp 60 x := fun x hx => by
  obtain ⟨r, _, rfl⟩ := List.mem_map.mp hx
  unfold eI
  split
  · refine Shp.tup (n := 59) fun y hy => ?_
    simp only [List.mem_cons, List.not_mem_nil, or_false] at hy
    rcases hy with rfl | rfl | rfl <;> exact Shp.int _
  · exact ⟨by simp [PyData.canLay0], by simp [PyData.depth]⟩
theorem run_lc2 {w : Web} {r : Int} {n : Nat} {s : CS} {z4 : Rv} {x3 x7 x8 x9 x10 : Option Px} {P : Fl → Prop} (I : CI w n s) (h4 : ownOr z4 (s.ts.map .int)) (rl : s.rr.length ≤ 1000) (tl : s.ts.length ≤ 1000) (gl : s.gg.length ≤ 1000)
    (hn : s.rr.find? (idleB w s.ts) = none → P (.nx ⟨envO w r (.d (.list (s.rr.map .int))) z4 s.gg [] x3 x7 x8 x9 x10, none⟩))
    (hs : ∀ (a : Int) (c : Int × Int) (x3 x7 x9 x10 : Option Px) (ys : List Px), s.rr.find? (idleB w s.ts) = some a → outsT w s.ts a = [c] → (∀ x ∈ eI w s.ts a :: ys, Shp 60 x) → P (.nx ⟨envO w r (.d (.list ((s.rr.erase a).map .int))) (.d (.list ((s.ts.erase c.1).map .int))) (s.gg ++ [(a, c)]) (eI w s.ts a :: ys) x3 x7 x8 x9 x10, none⟩)) :
    w_lc2 ⟨envO w r (.d (.list (s.rr.map .int))) z4 s.gg ((s.rr.filter (idleB w s.ts)).map (eI w s.ts)) x3 x7 x8 x9 x10, none⟩ P (fun _ _ => False) := by
  have shp := eI_shp w s.ts (s.rr.filter (idleB w s.ts))
  have hd := List.head?_filter (p := idleB w s.ts) (l := s.rr)
  simp only [w_lc2]
  simp -dsimp only [rR_, envO]
  rw [eqt_nil shp]
  cases hf : s.rr.find? (idleB w s.ts) with
  | none =>
    have hn := hn hf
    rw [hf] at hd
    have fe : s.rr.filter (idleB w s.ts) = [] := by
      cases q : s.rr.filter (idleB w s.ts) with
      | nil => rfl
      | cons y ys => rw [q] at hd; cases hd
    rw [fe]
    try simp -dsimp only [rR_]
    exact ⟨by decide, by rw [if_neg (fun z => by cases z)]; exact hn⟩
  | some a =>
    obtain ⟨c, h1, h2, h3, h5⟩ := next_some hf
    rw [hf] at hd
    obtain ⟨ys, fe⟩ : ∃ ys, s.rr.filter (idleB w s.ts) = a :: ys := by
      cases q : s.rr.filter (idleB w s.ts) with
      | nil => rw [q] at hd; cases hd
      | cons y ys =>
        rw [q] at hd
        have : y = a := by simpa using hd
        exact ⟨ys, by rw [this]⟩
    have hs := fun x3 x7 x9 x10 => hs a c x3 x7 x9 x10 (ys.map (eI w s.ts)) hf h1 (by
      have := shp
      rw [fe] at this
      exact this)
    have nk : ∀ p ∈ s.gg, p.1 ≠ a := fun p hp z => I.gk p hp (z ▸ h3)
    have pl : putD (gP s.gg) a (PyData.tuple [.int c.1, .int c.2]) = gP (s.gg ++ [(a, c)]) := putL (c := c) nk
    have gl2 : (gP s.gg).length < 1000000 := by unfold gP; rw [List.length_map]; omega
    rw [fe]
    have ea : eI w s.ts a = .tuple [.int a, .int c.1, .int c.2] := by unfold eI; rw [h1]
    simp -dsimp only [rR_, List.map_cons, ea]
    refine ⟨by decide, ?_⟩
    rw [if_pos (by simp)]
    refine ⟨by decide, gl2, ?_⟩
    rw [pl]
    have e1 := I.nd.erase_eq_filter a
    have e2 := (lt_nd I.ta).erase_eq_filter c.1
    rw [e1, e2] at hs
    rw [ea] at hs
    have l1 : (s.rr.map PyData.int).length ≤ 1000 := by rw [List.length_map]; exact rl
    refine ⟨by simp [nown], ?_⟩
    simp only [lcH]
    refine lcW_fma PyData.int (fun x => if x = a then none else some (PyData.int x)) s.rr [] (fun x hx R S hR hS => ?_) (by simp; omega) ?_
    · simp -dsimp only [rR_, Turn1, wipeE]
      by_cases q : x = a
      · have b : (!(x == a)) = false := by simp [q]
        simp -dsimp only [rR_, b]
        exact hS (if_pos q)
      · have b : (!(x == a)) = true := by simpa using q
        simp -dsimp only [rR_, b]
        exact hR _ (if_neg q)
    · rw [List.nil_append, fm_ne]
      rcases h4 with rfl | rfl
      all_goals
        try simp -dsimp only [rR_]
        refine ⟨by simp [nown], ?_⟩
        simp only [lcH]
        refine lcW_fma PyData.int (fun x => if x = c.1 then none else some (PyData.int x)) s.ts [] (fun x hx R S hR hS => ?_) (by simp; omega) ?_
        · simp -dsimp only [rR_, Turn1, wipeE]
          by_cases q : x = c.1
          · have b : (!(x == c.1)) = false := by simp [q]
            simp -dsimp only [rR_, b]
            exact hS (if_pos q)
          · have b : (!(x == c.1)) = true := by simpa using q
            simp -dsimp only [rR_, b]
            exact hR _ (if_neg q)
        · rw [List.nil_append, fm_ne]
          try simp -dsimp only [rR_]
          exact ⟨by decide, hs (some (.int c.1)) (some (.int a)) (some (.int c.2)) x10⟩
theorem ts_len {w : Web} {n : Nat} {s : CS} (I : CI w n s) (tl : w.ties.length ≤ 1000) : s.ts.length ≤ 1000 := by
  have := nodup_len w.ties.length s.ts (lt_nd I.ta) fun t ht => by
    obtain ⟨x, i, rfl, e⟩ := I.tr t ht
    have := (List.getElem?_eq_some_iff.mp e).1
    omega
  omega
def lenZ : Option (Option Rv) → Nat
  | some (some (.own xs)) => xs.length
  | some (some (.d (.list xs))) => xs.length
  | _ => 0
def muK (c : Cf) : Nat := 2 * lenZ c.env[2]? + (if lenZ c.env[6]? = 0 then 0 else 1)
theorem spec_law_core (rs : List Rv) (g : Option Nat) (Q : Rv → Option Nat → Prop) (h : C_law_core rs g Q) : w_law_core (startC 11 rs g) (endP Q) fun _ _ => False := by
  obtain ⟨w, r, rfl, rfl, R, hQ⟩ := h
  have eW1 : ∀ q : Px → Prop, ixD (eW w) (.int 1) q = q (.tuple (w.ties.map eT)) := fun q => by unfold eW; rw [ixt1]
  generalize hA : w_lc1 = A
  generalize hB : w_lc2 = B
  simp only [w_law_core, hA, hB]
  simp -dsimp only [startC, List.map_cons, List.map_nil, List.cons_append, List.nil_append, List.length_cons, List.length_nil, Nat.reduceSub, Nat.reduceAdd, List.replicate_succ, List.replicate_zero]
  simp -dsimp only [rR_, eLstK]
  refine ⟨w, r, rfl, R.wo, R.tl, R.rl, R.r0, R.r1, fun h H hc => ?_⟩
  try simp -dsimp only [rR_]
  refine ⟨h.map (·.1), by unfold eHm; rw [List.map_map, List.map_map]; rfl, fun l pm so => ?_⟩
  have hl := hm_piece H hc pm so
  have C := CI.start R hl
  have ll := ll_of R hl
  have rl := R.rl
  simp -dsimp only [rR_, eW1]
  rw [List.length_map]
  have tl := R.tl
  refine ⟨by unfold smI; omega, by simp [nown], ?_⟩
  simp only [lcH]
  rw [rngX_map]
  refine lcW_fma (fun i : Nat => PyData.int (0 + (i : Int))) (fun i : Nat => if (w.tie (i : Int)).v ∈ l then some (PyData.int (i : Int)) else none) (List.range w.ties.length) [] (fun i hi R' S hR hS => ?_) (by simp; omega) ?_
  · have hi : i < w.ties.length := List.mem_range.mp hi
    have eti : (w.ties.map eT)[i]? = some (eT (w.tie (i : Int))) := by rw [List.getElem?_map, tie_get hi]; rfl
    have z0 : (0 : Int) + (i : Int) = (i : Int) := by omega
    have eix : ∀ q : Px → Prop, ixD (.tuple (w.ties.map eT)) (.int (i : Int)) q = q (eT (w.tie (i : Int))) := fun q => ixtn eti
    simp -dsimp only [rR_, Turn1, wipeE, eW1, z0, eix, eT]
    rw [inF_l]
    try simp -dsimp only [rR_]
    by_cases hm : (w.tie (i : Int)).v ∈ l
    · rw [if_pos (by simpa using hm)]
      exact hR _ (if_pos hm)
    · rw [if_neg (by simpa using hm)]
      exact hS (if_neg hm)
  · rw [List.nil_append, fm_ties]
    have et : (((List.range w.ties.length).filter fun i : Nat => decide ((w.tie (i : Int)).v ∈ l)).map fun i : Nat => (i : Int)) = tiesIn w l := rfl
    rw [et]
    have ek : ([] : List (Int × Px)) = gP [] := rfl
    simp -dsimp only [rR_, ek]
    refine ⟨by decide, ?_⟩
    simp -dsimp only [rR_, sWh]
    refine whW_ind (fun c => ∃ (s : CS) (z2 z4 : Rv) (xs : List Px) (x3 x7 x8 x9 x10 : Option Px), CI w l.length s ∧ (∀ z, Fin w s z → Fin w ⟨l, tiesIn w l, []⟩ z) ∧ ownOr z2 (s.rr.map .int) ∧ ownOr z4 (s.ts.map .int) ∧ (∀ x ∈ xs, Shp 60 x) ∧ (xs = [] → s.rr.find? (idleB w s.ts) = none) ∧ c = ⟨envO w r z2 z4 s.gg xs x3 x7 x8 x9 x10, none⟩) muK (fun c hI R' hR => ?_) _ ⟨⟨l, tiesIn w l, []⟩, _, _, [.int 0], none, none, none, none, none, C, fun z h => h, .inl rfl, .inl rfl, fun x hx => by
      rw [List.mem_singleton.mp hx]
      exact Shp.int _, fun z => (by cases z), rfl⟩
    obtain ⟨s, z2, z4, xs, x3, x7, x8, x9, x10, I, F, h2, h4, shp, hxs, rfl⟩ := hI
    have sl := I.ln
    have t1 := ts_len I R.tl
    simp -dsimp only [rR_, envO]
    rw [eqt_nil shp]
    by_cases e : xs = []
    · have fin := F s (.stop (next_none.mpr (hxs e)))
      have hQ := hQ l s hl fin I
      unfold eCS at hQ
      subst e
      rcases h2 with rfl | rfl <;> rcases h4 with rfl | rfl
      all_goals
        simp -dsimp only [rR_, List.isEmpty_nil]
        exact ⟨by decide, by decide, hQ⟩
    · have e1 : (!xs.isEmpty) = true := by simpa using e
      have zl : ∀ z (l : List Px), ownOr z l → lenZ (some (some z)) = l.length := fun z l h => by rcases h with rfl | rfl <;> rfl
      have m0 : muK ⟨envO w r z2 z4 s.gg xs x3 x7 x8 x9 x10, none⟩ = 2 * s.rr.length + 1 := by
        show 2 * lenZ (some (some z2)) + (if xs.length = 0 then 0 else 1) = _
        rw [zl _ _ h2, List.length_map, if_neg (fun z => e (List.length_eq_zero_iff.mp z))]
      simp -dsimp only [rR_, e1]
      refine ⟨by decide, by decide, ?_⟩
      rw [← hA]
      refine run_lc1 (x3 := x3) (x9 := x9) (x10 := x10) I h2 h4 (by omega) t1 fun z4' x7' x8' h4' => ?_
      dsimp only
      rw [← hB]
      refine run_lc2 I h4' (by omega) t1 (by omega) (fun hf => ?_) fun a c x3 x7 x9 x10 ys hf hc hsh => ?_
      · refine hR _ ⟨s, _, _, _, x3, x7', x8', x9, x10, I, F, .inr rfl, h4', fun x hx => (by cases hx), fun _ => hf, rfl⟩ ?_
        rw [m0]
        show 2 * (s.rr.map PyData.int).length + 0 < _
        rw [List.length_map]
        omega
      · obtain ⟨c', k1, k2, k3, k4⟩ := next_some hf
        obtain rfl : c' = c := by
          rw [hc] at k1
          simpa using k1.symm
        have I' := I.step k3 k1 k2
        refine hR _ ⟨⟨s.rr.erase a, s.ts.erase c'.1, s.gg ++ [(a, c')]⟩, _, _, _, x3, x7, x8', x9, x10, I', fun z h => F z (.go k4 h), .inr rfl, .inr rfl, hsh, fun z => (by cases z), rfl⟩ ?_
        · rw [m0]
          show 2 * ((s.rr.erase a).map PyData.int).length + 1 < _
          have := List.length_pos_of_mem k3
          rw [List.length_map, List.length_erase_of_mem k3]
          omega
end K
set_option Elab.async false
set_option maxRecDepth 100000
set_option linter.all false
set_option autoImplicit false
set_option maxHeartbeats 4000000
namespace K
open PySem L2 Dl
variable [TabF]
abbrev C_law_home_in : Cn := fun rs g Q => ∃ (w : Web) (r : Int) (l : List Int) (s : CS), rs = [.d (eW w), .d (eDc (gP s.gg)), .d (.int r)] ∧ CI w l.length s ∧ l.length ≤ 100 ∧ ∀ cs e, Ho w s.gg r cs e → HoOk w s r cs e → Q (.d (.tuple [eK (barW r cs), .int (nbW w cs)])) g
def w_law_home_in : WS :=
  (sSeq (sPar3o 3 4 5 (eLst aNil) (eC (.int 1)) (eName 2))
  (sSeq (sWh (wB (eDInF false 1 (eName 5)))
  (sSeq (sAsg (eDIxF 1 (eName 5)) (gT 2 (gsCons (gN 6) (gsCons (gN 7) gsNil))))
  (sSeq (sAsg (eCallP C_law_ends (aCons (eName 0) (aCons (eName 6) (aCons (eName 7) aNil)))) (gN 8))
  (sPar3 3 4 5 (eAddN 3 (eLst (aCons (eTup (aCons (eName 6) (aCons (eName 7) aNil))) aNil))) (eOp mulD (eOp mulD (eName 4) (eIxN 8 (eC (.int 3)))) (eIxN 8 (eC (.int 2)))) (eIxN 8 (eC (.int 1)))))))
  (sRet (eTup (aCons (eCallP C_law_bare (aCons (eName 2) (aCons (eName 3) aNil))) (aCons (eName 4) aNil))))))
theorem len_law_home_in (rs : List Rv) (g : Option Nat) (Q : Rv → Option Nat → Prop) (h : C_law_home_in rs g Q) : rs.length = 3 := by
  obtain ⟨_, _, _, _, rfl, _⟩ := h
  rfl
theorem spec_law_home_in (rs : List Rv) (g : Option Nat) (Q : Rv → Option Nat → Prop) (h : C_law_home_in rs g Q) : w_law_home_in (startC 9 rs g) (endP Q) fun _ _ => False := by
  obtain ⟨w, r, l, s, rfl, I, hl, hQ⟩ := h
  have sl := I.ln
  have pl := posG_le s.gg r
  simp only [w_law_home_in]
  simp -dsimp only [startC, List.map_cons, List.map_nil, List.cons_append, List.nil_append, List.length_cons, List.length_nil, Nat.reduceSub, Nat.reduceAdd, List.replicate_succ, List.replicate_zero]
  simp -dsimp only [rR_, sPar3o, rd]
  simp -dsimp only [rR_, sWh]
  refine ⟨by decide, ?_⟩
  refine whW_ind (fun c => ∃ (z3 : Rv) (cs : List (Int × Int)) (e : Int) (x6 x7 x8 : Option Px), (∀ ds e', Ho w s.gg e ds e' → Ho w s.gg r (cs ++ ds) e') ∧ HoOk w s r cs e ∧ ownOr z3 (cs.map eC2) ∧ c = ⟨[some (.d (eW w)), some (.d (eDc (gP s.gg))), some (.d (.int r)), some z3, some (.d (.int (nbW w cs))), some (.d (.int e)), x6.map .d, x7.map .d, x8.map .d], g⟩) (fun c => mG s.gg c.env[5]?) (fun c hI R' hR => ?_) _ ⟨.own [], [], r, none, none, none, fun ds e' h => h, HoOk.start w s r, .inl rfl, rfl⟩
  obtain ⟨z3, cs, e, x6, x7, x8, T, K, h3, rfl⟩ := hI
  have wl := K.ln
  try simp -dsimp only [rR_]
  rw [lk_look]
  cases hk : lkG s.gg e with
  | none =>
    simp -dsimp only [rR_, Option.map_none, Option.isSome_none]
    have T := T [] e (.stop hk)
    rw [List.append_nil] at T
    have hQ := hQ cs e T K
    rcases h3 with rfl | rfl
    all_goals
      try simp -dsimp only [rR_]
      refine ⟨r, cs, rfl, by omega, ?_⟩
      try simp -dsimp only [rR_]
      exact ⟨by decide, hQ⟩
  | some c =>
    obtain ⟨K', lt, ck, cp⟩ := K.next I hk
    obtain ⟨x, hx, ex⟩ := eCr_at ck
    have sm := pq_small I.wo ck cp
    have q1 := (cr_q I.wo ck).1
    simp -dsimp only [rR_, Option.map_some, Option.isSome_some]
    refine ⟨_, rfl, ?_⟩
    simp -dsimp only [rR_, gT_d, eC2]
    refine ⟨w, c.1, c.2, x, rfl, hx, ?_⟩
    rw [← ex]
    rcases h3 with rfl | rfl
    all_goals
      simp -dsimp only [rR_, gT_d, eT]
      refine ⟨by decide, by decide, by rw [List.length_map]; omega, CMul2.r (by omega) (by omega), CMul2.r (by omega) (by omega), ?_⟩
      refine hR _ ⟨_, cs ++ [c], (eCr w c).w, some (.int c.1), some (.int c.2), some (eT (eCr w c)), fun ds e' h => ?_, K', .inr rfl, ?_⟩ lt
      · rw [List.append_assoc]
        exact T _ _ (.go hk h)
      · rw [nbW_snoc, Int.mul_assoc, Int.mul_comm (eCr w c).q, List.map_append]
        rfl
abbrev C_law_bared : Cn := fun rs g Q => ∃ (w : Web) (gr : Int) (n : Nat), rs = [.gen, .d (eW w)] ∧ g = some n ∧ WebOk w gr ∧ 1 ≤ gr ∧ w.ties.length ≤ 1000 ∧ n + 3000 ≤ 2 ^ 40 ∧ ∀ (u : Web) (m : Nat), WebOk u gr → u.rooms = w.rooms → u.ties.length = w.ties.length → m ≤ n + 2 * w.ties.length → Q (.d (eW u)) (some m)
def w_law_bared : WS :=
  (sSeq (sAsg (eLst aNil) (gN 2))
  (sSeq (sFor (iTpl (eIxN 1 (eC (.int 1)))) (gT 4 (gsCons (gN 3) (gsCons (gN 4) (gsCons (gN 5) (gsCons (gN 6) gsNil)))))
  (sExp (eApp 2 (eTup (aCons (eName 3) (aCons (eName 4) (aCons (eCallG C_law_of (aCons (eName 0) (aCons (eLst (aCons (eName 5) (aCons (eC (.int 1)) (aCons (eUn negD (eC (.int 1))) aNil)))) aNil))) (aCons (eCallG C_law_of (aCons (eName 0) (aCons (eLst (aCons (eName 6) (aCons (eName 6) (aCons (eC (.int 1)) (aCons (eUn negD (eC (.int 1))) aNil))))) aNil))) aNil))))))))
  (sRet (eTup (aCons (eIxN 1 (eC (.int 0))) (aCons (eCB tupC (aCons (eName 2) aNil)) aNil))))))
theorem len_law_bared (rs : List Rv) (g : Option Nat) (Q : Rv → Option Nat → Prop) (h : C_law_bared rs g Q) : rs.length = 2 := by
  obtain ⟨_, _, _, rfl, _⟩ := h
  rfl
theorem spec_law_bared (rs : List Rv) (g : Option Nat) (Q : Rv → Option Nat → Prop) (h : C_law_bared rs g Q) : w_law_bared (startC 7 rs g) (endP Q) fun _ _ => False := by
  obtain ⟨w, gr, n, rfl, rfl, wo, g1, tl, hn, hQ⟩ := h
  have eW1 : ∀ q : Px → Prop, ixD (eW w) (.int 1) q = q (.tuple (w.ties.map eT)) := fun q => by unfold eW; rw [ixt1]
  have eW0 : ∀ q : Px → Prop, ixD (eW w) (.int 0) q = q (.int w.rooms) := fun q => by unfold eW; rw [ixt0]
  simp only [w_law_bared]
  simp -dsimp only [startC, List.map_cons, List.map_nil, List.cons_append, List.nil_append, List.length_cons, List.length_nil, Nat.reduceSub, Nat.reduceAdd, List.replicate_succ, List.replicate_zero]
  simp -dsimp only [rR_, eW1]
  simp only [forH]
  refine ⟨by decide, ?_⟩
  refine forW_ind _ (fun i c => ∃ (us : List Tie) (m : Nat) (x3 x4 x5 x6 : Option Px), (∀ t ∈ us, TieOk w.rooms gr t) ∧ us.length = i ∧ m ≤ n + 2 * i ∧ c = ⟨[some .gen, some (.d (eW w)), some (.own (us.map eT)), x3.map .d, x4.map .d, x5.map .d, x6.map .d], some m⟩) (fun i x c hx hI R hR => ?_) (fun c hI => ?_) _ ⟨[], n, none, none, none, none, fun t h => (by cases h), rfl, by omega, rfl⟩
  · obtain ⟨us, m, x3, x4, x5, x6, ok, ul, hm, rfl⟩ := hI
    obtain ⟨t, ht, rfl⟩ := map_at hx
    have hi : i < w.ties.length := (List.getElem?_eq_some_iff.mp ht).1
    have o := wo.tie t (List.mem_of_getElem? ht)
    simp -dsimp only [rR_, eT]
    refine ⟨by decide, _, m, rfl, rfl, by omega, by simp, by simp, fun x hx m1 hm1 => ?_⟩
    obtain ⟨p, rfl, p0, p1⟩ : ∃ p : Int, x = .int p ∧ p ≠ 0 ∧ (p.natAbs : Int) ≤ gr := by
      simp only [List.mem_cons, List.not_mem_nil, or_false] at hx
      rcases hx with rfl | rfl | rfl
      · exact ⟨_, rfl, o.p0, o.p1⟩
      · exact ⟨_, rfl, by decide, by show (1 : Int) ≤ gr; omega⟩
      · exact ⟨_, rfl, by decide, by show (1 : Int) ≤ gr; omega⟩
    try simp -dsimp only [rR_]
    refine ⟨by decide, _, m1, rfl, rfl, by omega, by simp, by simp, fun x hx m2 hm2 => ?_⟩
    obtain ⟨q, rfl, q0, q1⟩ : ∃ p : Int, x = .int p ∧ p ≠ 0 ∧ (p.natAbs : Int) ≤ gr := by
      simp only [List.mem_cons, List.not_mem_nil, or_false] at hx
      rcases hx with rfl | rfl | rfl | rfl
      · exact ⟨_, rfl, o.q0, o.q1⟩
      · exact ⟨_, rfl, o.q0, o.q1⟩
      · exact ⟨_, rfl, by decide, by show (1 : Int) ≤ gr; omega⟩
      · exact ⟨_, rfl, by decide, by show (1 : Int) ≤ gr; omega⟩
    try simp -dsimp only [rR_]
    refine ⟨by decide, by rw [List.length_map]; omega, ?_⟩
    refine hR _ ⟨us ++ [⟨t.v, t.w, p, q⟩], m2, some (.int t.v), some (.int t.w), some (.int t.p), some (.int t.q), fun u hu => ?_, by rw [List.length_append, ul]; rfl, by omega, by simp [eT]⟩
    rcases List.mem_append.mp hu with z | z
    · exact ok u z
    · rw [List.mem_singleton.mp z]
      exact ⟨o.v0, o.v1, o.w0, o.w1, p0, p1, q0, q1⟩
  · obtain ⟨us, m, x3, x4, x5, x6, ok, ul, hm, rfl⟩ := hI
    rw [List.length_map] at ul hm
    simp -dsimp only [rR_, eW0]
    exact ⟨by decide, hQ ⟨w.rooms, us⟩ m ⟨wo.r0, ok⟩ rfl ul hm⟩
end K
set_option Elab.async false
set_option maxRecDepth 100000
set_option linter.all false
set_option autoImplicit false
set_option maxHeartbeats 4000000
namespace K
open PySem L2 Dl
variable [TabF]
def NT3 (k : Wlk) : Prop := ∀ x ∈ nums k, (x.natAbs : Int) < top300
theorem Sho.tup3 {e a b c : Nat} {x y z : Px} (hx : Sho e a x) (hy : Sho e b y) (hz : Sho e c z) : Sho (e + 1) (a + b + c + 9) (.tuple [x, y, z]) := by
  refine ⟨by simp [PyData.showable, PyData.showableAll, hx.sh, hy.sh, hz.sh], by simp [PyData.hasDict, PyData.hasDictAll, hx.nd, hy.nd, hz.nd], ?_, ?_, ?_⟩
  · have := hx.dp
    have := hy.dp
    have := hz.dp
    simp only [PyData.depth, PyData.depthAll]
    omega
  · have t := tupleText_len_le (PyData.shownAll [x, y, z])
    have := hx.ln
    have := hy.ln
    have := hz.ln
    simp only [PyData.shownAll, List.map_cons, List.map_nil, List.sum_cons, List.sum_nil, List.length_cons, List.length_nil] at t
    show (tupleText (PyData.shownAll [x, y, z])).length ≤ _
    simp only [PyData.shownAll]
    omega
  · show PyData.strOk (tupleText (PyData.shownAll [x, y, z])) = true
    refine ok_tuple fun t ht => ?_
    simp only [PyData.shownAll, List.mem_cons, List.not_mem_nil, or_false] at ht
    rcases ht with rfl | rfl | rfl
    · exact hx.ok
    · exact hy.ok
    · exact hz.ok
theorem sho_w {w : Web} {k : Wlk} (hs : StepsOk w k.steps) (ht : w.ties.length ≤ 1000) (hl : k.steps.length ≤ 60) (hr : k.room.natAbs ≤ 1000) (hn : NT3 k) : Sho 3 360000 (eK k) := by
  have lgs : ∀ {x : Int}, x.natAbs ≤ 1000 → x.natAbs.log2 < 1920 := fun h => log_pow2 (n := 1) h (by decide)
  refine (Sho.tup3 (e := 2) (a := 1921) (b := 1921) (c := 350000) (Sho.int (lgs hr)) (Sho.int (log_top (hn _ List.mem_cons_self))) ?_).mono (by decide) (by decide)
  refine (Sho.tup (e := 1) (b := 5772) (n := 60) (fun x hx => ?_) (by rw [List.length_map]; exact hl)).mono (by decide) (by decide)
  obtain ⟨s, hsm, rfl⟩ := List.mem_map.mp hx
  obtain ⟨⟨y, i, hi, hy⟩, hsd⟩ := hs s hsm
  have hlt := (List.getElem?_eq_some_iff.mp hy).1
  exact Sho.tup3 (e := 0) (a := 1921) (b := 1921) (c := 1921) (Sho.int (lgs (by omega))) (Sho.int (lgs (by rcases hsd with h | h <;> rw [h] <;> decide))) (Sho.int (log_top (hn _ (List.mem_cons_of_mem _ (List.mem_map_of_mem hsm)))))
theorem eqt_shR {d : Px} {e b : Nat} (h : Sho e b d) {P : Rv → Prop} : eqD true (.str (PyData.shown d)) (.str (PyData.shown d)) P = P (.d (.bool false)) := by
  have e : PyData.eqv (.str (PyData.shown d)) (.str (PyData.shown d)) = true := by simp [PyData.eqv]
  simp only [eqD, sh_str h.ok, e, true_and]
  rfl
theorem nb_bd {w : Web} (wo : WebOk w 1000) : ∀ (cs : List (Int × Int)), CsOk w cs → (∀ c ∈ cs, (eCr w c).p.natAbs = 1) → (nbW w cs).natAbs ≤ 1000 ^ cs.length := by
  intro cs
  induction cs using snocInd with
  | h0 => exact fun _ _ => (by decide : (1 : Int).natAbs ≤ 1000 ^ 0)
  | hs l c ih =>
    intro ok un
    have h := ih (fun d hd => ok d (List.mem_append_left _ hd)) fun d hd => un d (List.mem_append_left _ hd)
    rw [nbW_snoc, Int.natAbs_mul, List.length_append, Nat.pow_add]
    exact Nat.mul_le_mul h (pq_small wo (ok c (by simp)) (un c (by simp)))
theorem over_nb {w : Web} (wo : WebOk w 1000) : ∀ (cs : List (Int × Int)), CsOk w cs → (∀ c ∈ cs, (eCr w c).p.natAbs = 1) → overW w cs 1 = some (nbW w cs) := by
  intro cs
  induction cs using snocInd with
  | h0 => exact fun _ _ => rfl
  | hs l c ih =>
    intro ok un
    have h := ih (fun d hd => ok d (List.mem_append_left _ hd)) fun d hd => un d (List.mem_append_left _ hd)
    have hp := un c (by simp)
    rw [overW_snoc, h, nbW_snoc]
    refine (over1_some (fun z => by rw [z] at hp; cases hp)).mpr ⟨(eCr w c).p * nbW w l, ?_, ?_⟩
    · have : (eCr w c).p = 1 ∨ (eCr w c).p = -1 := by omega
      rcases this with e | e <;> rw [e] <;> omega
    · rw [Int.mul_comm (eCr w c).p (nbW w l), Int.mul_assoc]
theorem bar_st {w : Web} {r : Int} {cs : List (Int × Int)} (h : CsOk w cs) : StepsOk w (barW r cs).steps := fun s hs => by
  obtain ⟨c, hc, rfl⟩ := List.mem_map.mp hs
  exact h c hc
theorem bar_cr (r : Int) (cs : List (Int × Int)) : (barW r cs).steps.map cr = cs := by
  show (cs.map stp0).map cr = cs
  rw [List.map_map]
  exact (List.map_congr_left fun c _ => rfl).trans (List.map_id _)
theorem ints_sho {l : List Int} {n : Nat} (h : ∀ x ∈ l, 0 ≤ x ∧ x ≤ 1000) (hl : l.length ≤ 20) : Sho 1 40000 (.tuple (l.map .int)) := by
  refine (Sho.tup (e := 0) (b := 1921) (n := 20) (fun x hx => ?_) (by rw [List.length_map]; exact hl)).mono (by decide) (by decide)
  obtain ⟨y, hy, rfl⟩ := List.mem_map.mp hx
  have := h y hy
  exact Sho.int (log_pow2 (n := 1) (by omega) (by decide))
theorem Fin.sub {w : Web} {s z : CS} (h : Fin w s z) : ∀ x ∈ z.rr, x ∈ s.rr := by
  induction h with
  | stop _ => exact fun x hx => hx
  | go e _ ih =>
    intro x hx
    have := ih x hx
    unfold nextS at e
    split at e
    · cases e
    · split at e
      · cases e
        exact List.mem_of_mem_erase this
      · cases e
abbrev C_law_right : Cn := fun rs g Q => ∃ (n : Nat), rs = [.gen] ∧ g = some n ∧ n + 10000 ≤ 2 ^ 40 ∧ ∀ m : Nat, m ≤ n + 3000 → Q (.d (.bool true)) (some m)
def w_rt : WS :=
  (sFor (iRg1 (aCons (eName 1) aNil)) (gN 4)
  (sSeq (sAsg (eCallP C_law_core (aCons (eName 3) (aCons (eName 4) aNil))) (gT 3 (gsCons (gN 5) (gsCons (gN 6) (gsCons (gN 7) gsNil)))))
  (sSeq (sIf (wB (eSc (eqD true) (eCB reprM (aCons (eCallP Ccore_of (aCons (eName 3) (aCons (eName 4) aNil))) aNil)) (eCB reprM (aCons (eTup (aCons (eCB tupC (aCons (eName 5) aNil)) (aCons (eCB tupC (aCons (eName 6) aNil)) aNil))) aNil)))) (sRet (eC (.bool false))) sNil)
  (sSeq (sAsg (eCallP C_law_home_in (aCons (eName 3) (aCons (eName 7) (aCons (eName 4) aNil)))) (gT 2 (gsCons (gN 8) (gsCons (gN 9) gsNil))))
  (sSeq (sAsg (eCallP Chome_of (aCons (eName 3) (aCons (eName 4) aNil))) (gN 10))
  (sSeq (sIf (wB (eSc (eqD true) (eCB reprM (aCons (eName 10) aNil)) (eCB reprM (aCons (eTup (aCons (eName 8) (aCons (eName 9) aNil))) aNil)))) (sRet (eC (.bool false))) sNil)
  (sSeq (sAsg (eCallP C_law_joined (aCons (eTup (aCons (eName 4) (aCons (eC (.int 1)) (aCons (eTup aNil) aNil)))) (aCons (eName 8) aNil))) (gN 11))
  (sIf (wB (eSc (isBD true) (eCallP Care_equal (aCons (eName 3) (aCons (eName 11) (aCons (eCallP C_law_joined (aCons (eName 8) (aCons (eTup (aCons (eCallP C_law_end (aCons (eName 3) (aCons (eName 8) aNil))) (aCons (eName 9) (aCons (eTup aNil) aNil)))) aNil))) aNil)))) (eC (.bool true)))) (sRet (eC (.bool false))) sNil))))))))
def w_law_right : WS :=
  (sSeq (sAsg (eOp addD (eC (.int 1)) (eCallG C_law_draw (aCons (eName 0) (aCons (eC (.int 5)) aNil)))) (gN 1))
  (sSeq (sAsg (eCallG C_law_of (aCons (eName 0) (aCons (eLst (aCons (eOp subD (eName 1) (eC (.int 1))) (aCons (eOp subD (eName 1) (eC (.int 1))) (aCons (eName 1) (aCons (eName 1) (aCons (eCallG C_law_draw (aCons (eName 0) (aCons (eC (.int 7)) aNil))) aNil)))))) aNil))) (gN 2))
  (sSeq (sAsg (eCallG C_law_bared (aCons (eName 0) (aCons (eCallG C_law_web (aCons (eName 0) (aCons (eName 1) (aCons (eName 2) (aCons (eCallG C_law_of (aCons (eName 0) (aCons (eLst (aCons (eC (.int 3)) (aCons (eC (.int 9)) aNil))) aNil))) aNil))))) aNil))) (gN 3))
  (sSeq w_rt
  (sRet (eC (.bool true)))))))
theorem len_law_right (rs : List Rv) (g : Option Nat) (Q : Rv → Option Nat → Prop) (h : C_law_right rs g Q) : rs.length = 1 := by
  obtain ⟨_, rfl, _⟩ := h
  rfl
theorem run_rt {w : Web} {n : Nat} {x2 x4 x5 x6 x7 x8 x9 x10 x11 : Option Px} {R : Fl → Prop} (wo : WebOk w 1000) (hr : w.rooms ≤ 5) (tl : w.ties.length ≤ 10)
    (hR : ∀ (x4 x5 x6 x7 x8 x9 x10 x11 : Option Px), R (.nx ⟨[some .gen, some (.d (.int w.rooms)), x2.map .d, some (.d (eW w)), x4.map .d, x5.map .d, x6.map .d, x7.map .d, x8.map .d, x9.map .d, x10.map .d, x11.map .d], some n⟩)) :
    w_rt ⟨[some .gen, some (.d (.int w.rooms)), x2.map .d, some (.d (eW w)), x4.map .d, x5.map .d, x6.map .d, x7.map .d, x8.map .d, x9.map .d, x10.map .d, x11.map .d], some n⟩ R (fun _ _ => False) := by
  simp only [w_rt]
  try simp -dsimp only [rR_]
  have r0 := wo.r0
  refine ⟨by unfold smI; omega, ?_⟩
  simp only [forH]
  refine forW_ind _ (fun i c => ∃ (x4 x5 x6 x7 x8 x9 x10 x11 : Option Px), c = ⟨[some .gen, some (.d (.int w.rooms)), x2.map .d, some (.d (eW w)), x4.map .d, x5.map .d, x6.map .d, x7.map .d, x8.map .d, x9.map .d, x10.map .d, x11.map .d], some n⟩) (fun i x c hx hI R' hR' => ?_) (fun c hI => ?_) _ ⟨x4, x5, x6, x7, x8, x9, x10, x11, rfl⟩
  · obtain ⟨x4, x5, x6, x7, x8, x9, x10, x11, rfl⟩ := hI
    obtain ⟨hi, rfl⟩ := rng_at hx
    have z0 : (0 : Int) + (i : Int) = (i : Int) := by omega
    have Rm : RmO w (i : Int) := ⟨wo, by omega, by omega, by omega, by omega⟩
    simp -dsimp only [rR_, z0]
    refine ⟨w, (i : Int), rfl, rfl, Rm, fun l s hl F I => ?_⟩
    have ll := ll_of Rm hl
    have sl := I.ln
    simp -dsimp only [rR_, eCS]
    refine ⟨w, (i : Int), rfl, rfl, Rm, fun l' s' hl' F' I' => ?_⟩
    obtain rfl : l' = l := hl'.uniq hl
    obtain rfl : s' = s := F.uniq F'
    try simp -dsimp only [rR_]
    have rrng : ∀ x ∈ s'.rr, 0 ≤ x ∧ x ≤ 1000 := fun x hx => by
      have := ((hl.mem x).mp (F.sub x hx)).range wo ⟨Rm.r0, Rm.r1⟩
      omega
    have trng : ∀ x ∈ s'.ts, 0 ≤ x ∧ x ≤ 1000 := fun x hx => by
      obtain ⟨y, j, rfl, e⟩ := I.tr x hx
      have := (List.getElem?_eq_some_iff.mp e).1
      omega
    have tl2 : s'.ts.length ≤ 10 := by
      have := nodup_len w.ties.length s'.ts (lt_nd I.ta) fun x hx => by
        obtain ⟨y, j, rfl, e⟩ := I.tr x hx
        have := (List.getElem?_eq_some_iff.mp e).1
        omega
      omega
    have sh1 : Sho 40 1000000 (.tuple [.tuple (s'.rr.map .int), .tuple (s'.ts.map .int)]) := by
      refine (Sho.tup (e := 1) (b := 40000) (n := 2) (fun x hx => ?_) (by simp)).mono (by decide) (by decide)
      simp only [List.mem_cons, List.not_mem_nil, or_false] at hx
      rcases hx with rfl | rfl
      · exact ints_sho (n := 0) rrng (by omega)
      · exact ints_sho (n := 0) trng (by omega)
    refine ⟨sh1, by decide, sh1, ?_⟩
    rw [eqt_shR sh1]
    try simp -dsimp only [rR_]
    refine ⟨w, (i : Int), l', s', rfl, I, by omega, fun cs e H K => ?_⟩
    have pl := posG_le s'.gg (i : Int)
    have kl := K.ln
    have cl : cs.length ≤ 10 := by omega
    simp -dsimp only [rR_, gT_d]
    refine ⟨w, (i : Int), rfl, rfl, Rm, by omega, fun l2 s2 cs2 e2 hl2 F2 I2 H2 K2 => ?_⟩
    obtain rfl : l2 = l' := hl2.uniq hl
    obtain rfl : s2 = s' := F.uniq F2
    obtain ⟨rfl, rfl⟩ := H.uniq H2
    have bw : WK w (barW (i : Int) cs2) := ⟨wo, bar_st K.ok, by show (cs2.map stp0).length ≤ 1000; rw [List.length_map]; omega⟩
    have bl : (barW (i : Int) cs2).steps.length = cs2.length := by show (cs2.map stp0).length = _; rw [List.length_map]
    have sh2 : Sho 40 1000000 (.tuple [eK (barW (i : Int) cs2), .int (nbW w cs2)]) := by
      refine (Sho.tup (e := 3) (b := 360000) (n := 2) (fun x hx => ?_) (by simp)).mono (by decide) (by decide)
      simp only [List.mem_cons, List.not_mem_nil, or_false] at hx
      rcases hx with rfl | rfl
      · refine sho_w (w := w) bw.st (by omega) (by omega) (by show (i : Int).natAbs ≤ 1000; omega) fun x hx => ?_
        have : x = 0 := by
          rcases List.mem_cons.mp hx with z | z
          · exact z
          · obtain ⟨s, hs, rfl⟩ := List.mem_map.mp z
            obtain ⟨c, _, rfl⟩ := List.mem_map.mp hs
            rfl
        rw [this]
        decide
      · exact (Sho.int (e := 0) (log_pow2 (nb_bd wo cs2 K.ok K.un) (by omega))).mono (by decide) (by decide)
    try simp -dsimp only [rR_]
    refine ⟨sh2, by decide, sh2, ?_⟩
    rw [eqt_shR sh2]
    try simp -dsimp only [rR_]
    have e1 : (PyData.tuple [.int (i : Int), .int 1, .tuple []] : Px) = eK ⟨(i : Int), 1, []⟩ := rfl
    refine ⟨by decide, by decide, ⟨(i : Int), 1, []⟩, barW (i : Int) cs2, rfl, by rw [bl]; show 0 + cs2.length ≤ 1000; omega, ?_⟩
    try simp -dsimp only [rR_]
    refine ⟨w, barW (i : Int) cs2, rfl, bw.st, ?_⟩
    try simp -dsimp only [rR_]
    have e2 : (PyData.tuple [.int (endR w (barW (i : Int) cs2)), .int (nbW w cs2), .tuple []] : Px) = eK ⟨endR w (barW (i : Int) cs2), nbW w cs2, []⟩ := rfl
    have t1 : WK w (⟨(i : Int), 1, []⟩ : Wlk) := turn_wk wo
    have t2 : WK w (⟨endR w (barW (i : Int) cs2), nbW w cs2, []⟩ : Wlk) := turn_wk wo
    have pe := over_plain (k := barW (i : Int) cs2) (e := endR w (barW (i : Int) cs2)) bw (v := 1) (u := nbW w cs2) (by
      have c2 : crs (barW (i : Int) cs2) = cs2 := bar_cr _ _
      rw [c2]
      exact over_nb wo cs2 K.ok K.un)
    refine ⟨by decide, by decide, barW (i : Int) cs2, ⟨endR w (barW (i : Int) cs2), nbW w cs2, []⟩, rfl, by rw [bl]; show cs2.length + 0 ≤ 1000; omega, ?_⟩
    try simp -dsimp only [rR_]
    refine ⟨w, joinW ⟨(i : Int), 1, []⟩ (barW (i : Int) cs2), joinW (barW (i : Int) cs2) ⟨endR w (barW (i : Int) cs2), nbW w cs2, []⟩, rfl, joinW_wk t1 bw (by rw [bl]; show 0 + cs2.length ≤ 1000; omega), joinW_wk bw t2 (by rw [bl]; show cs2.length + 0 ≤ 1000; omega), ?_⟩
    have pd : decide (plainW w (joinW ⟨(i : Int), 1, []⟩ (barW (i : Int) cs2)) = plainW w (joinW (barW (i : Int) cs2) ⟨endR w (barW (i : Int) cs2), nbW w cs2, []⟩)) = true := by
      exact decide_eq_true pe
    rw [pd]
    try simp -dsimp only [rR_]
    rw [if_neg (by decide)]
    exact hR' _ ⟨some _, some _, some _, some _, some _, some _, some _, some _, rfl⟩
  · obtain ⟨x4, x5, x6, x7, x8, x9, x10, x11, rfl⟩ := hI
    exact hR x4 x5 x6 x7 x8 x9 x10 x11
theorem spec_law_right (rs : List Rv) (g : Option Nat) (Q : Rv → Option Nat → Prop) (h : C_law_right rs g Q) : w_law_right (startC 12 rs g) (endP Q) fun _ _ => False := by
  obtain ⟨n, rfl, rfl, hn, hQ⟩ := h
  generalize hW : w_rt = W
  simp only [w_law_right, hW]
  simp -dsimp only [startC, List.map_cons, List.map_nil, List.cons_append, List.nil_append, List.length_cons, List.length_nil, Nat.reduceSub, Nat.reduceAdd, List.replicate_succ, List.replicate_zero]
  try simp -dsimp only [rR_]
  refine ⟨_, _, rfl, rfl, by omega, by omega, pow9000 (by omega) (by omega), fun a m1 haa hab hm1 => ?_⟩
  try simp -dsimp only [rR_]
  refine ⟨_, _, rfl, rfl, by omega, by omega, pow9000 (by omega) (by omega), fun b m2 hba hbb hm2 => ?_⟩
  try simp -dsimp only [rR_]
  refine ⟨by decide, _, m2, rfl, rfl, by omega, by simp, by simp, fun x hx m3 hm3 => ?_⟩
  obtain ⟨t, rfl, t0, t6⟩ : ∃ r : Int, x = .int r ∧ 0 ≤ r ∧ r ≤ 8 := by
    simp only [List.mem_cons, List.not_mem_nil, or_false] at hx
    rcases hx with rfl | rfl | rfl | rfl | rfl <;> exact ⟨_, rfl, by omega, by omega⟩
  try simp -dsimp only [rR_]
  refine ⟨by decide, _, m3, rfl, rfl, by omega, by simp, by simp, fun x hx m4 hm4 => ?_⟩
  obtain ⟨gr, rfl, g1, g9⟩ : ∃ r : Int, x = .int r ∧ 1 ≤ r ∧ r ≤ 9 := by
    simp only [List.mem_cons, List.not_mem_nil, or_false] at hx
    rcases hx with rfl | rfl <;> exact ⟨_, rfl, by decide, by decide⟩
  try simp -dsimp only [rR_]
  refine ⟨_, _, gr, m4, rfl, rfl, by omega, by omega, by omega, by omega, by omega, by omega, by omega, fun w0 m5 wo0 wr wt hm5 => ?_⟩
  try simp -dsimp only [rR_]
  refine ⟨w0, gr, m5, rfl, rfl, wo0, g1, by omega, by omega, fun w m6 wo wr2 wt2 hm6 => ?_⟩
  have ew : 1 + a = w.rooms := by omega
  try simp -dsimp only [rR_]
  rw [ew, ← hW]
  refine run_rt (x2 := some _) (x4 := none) (x5 := none) (x6 := none) (x7 := none) (x8 := none) (x9 := none) (x10 := none) (x11 := none) (wo.up (by omega)) (by omega) (by omega) fun x4 x5 x6 x7 x8 x9 x10 x11 => ?_
  try simp -dsimp only [rR_]
  exact hQ m6 (by omega)
abbrev Claw : Cn := fun rs g Q => ∃ (ns : List Int), rs = [.scr ns] ∧ g = none ∧ ns.length ≤ 100 ∧ ∀ g', Q (.d (.bool true)) g'
def wlaw : WS :=
  (sSeq (sFor (iRg1 (aCons (eOp addD (eC (.int 1)) (eCB min2C (aCons (eCB lenC (aCons (eName 0) aNil)) (aCons (eC (.int 1)) aNil)))) aNil)) (gN 1)
  (sSeq (sSetG 2 C_law_begun (aCons (eName 0) (aCons (eName 1) aNil)))
  (sIf (wOr (wNot (wTru (eCallG C_law_right (aCons (eName 2) aNil)))) (wNot (wTru (eCallG C_law_right (aCons (eName 2) aNil))))) (sRet (eC (.bool false))) sNil)))
  (sRet (eC (.bool true))))
theorem lenlaw (rs : List Rv) (g : Option Nat) (Q : Rv → Option Nat → Prop) (h : Claw rs g Q) : rs.length = 1 := by
  obtain ⟨a, rfl, _⟩ := h
  rfl
theorem speclaw (rs : List Rv) (g : Option Nat) (Q : Rv → Option Nat → Prop) (h : Claw rs g Q) : wlaw (startC 3 rs g) (endP Q) fun _ _ => False := by
  obtain ⟨ns, rfl, rfl, hl, hQ⟩ := h
  simp only [wlaw]
  simp -dsimp only [startC, List.map_cons, List.map_nil, List.cons_append, List.nil_append, List.length_cons, List.length_nil, Nat.reduceSub, Nat.reduceAdd, List.replicate_succ, List.replicate_zero]
  try simp -dsimp only [rR_]
  have hlo : 0 ≤ (1 + if 1 < (ns.length : Int) then (1 : Int) else (ns.length : Int)) ∧ (1 + if 1 < (ns.length : Int) then (1 : Int) else (ns.length : Int)) ≤ 2 := by split <;> omega
  generalize (1 + if 1 < (ns.length : Int) then (1 : Int) else (ns.length : Int)) = tn at hlo ⊢
  refine ⟨by unfold smI; omega, ?_⟩
  simp only [forH]
  refine forW_ind _ (fun i c => ∃ (x1 : Option Px) (y2 : Option Rv) (g : Option Nat), c = ⟨[some (.scr ns), x1.map .d, y2], g⟩) (fun i x c hx hI R hR => ?_) (fun c hI => ?_) _ ⟨none, none, none, rfl⟩
  · obtain ⟨x1, y2, g, rfl⟩ := hI
    obtain ⟨hi, rfl⟩ := rng_at hx
    simp -dsimp only [rR_, Int.zero_add]
    refine ⟨fun j hj => ?_, ns, (i : Int), rfl, rfl, by omega, by omega, hl, rfl, 0, rfl, ?_⟩
    · match j with
      | 0 => simp
      | 1 => simp
      | 2 => exact absurd rfl hj
      | n + 3 => simp
    try simp -dsimp only [rR_]
    refine ⟨0, rfl, rfl, by omega, fun m1 hm1 => ?_⟩
    try simp -dsimp only [rR_]
    refine ⟨m1, rfl, rfl, by omega, fun m2 hm2 => ?_⟩
    try simp -dsimp only [rR_]
    exact hR _ ⟨some _, _, _, rfl⟩
  · obtain ⟨x1, y2, g, rfl⟩ := hI
    try simp -dsimp only [rR_]
    exact hQ _
end K
set_option Elab.async false
set_option maxRecDepth 100000
set_option linter.all false
set_option autoImplicit false
set_option maxHeartbeats 4000000
namespace K
open PySem L2 Dl
variable [TabF]
theorem def_fn {P : Program} {w : World} {K : PySem.W.Frag} {mg : Str → Option Value} {base : Heap} {x qual : Str} {st : Stmt} {f : Addr} {fd : FuncData} {N ps : List Str} {k : Nat} {Pr : Cn} (nog : Bool) (F : FunD K x qual (defArgs st) (defBody st) (defScope st) [] [] f fd) (S : FnScope N ps (defScope st)) (hmg : mg x = some (.ref f)) (bi : Binds K fd ps [])
    (fw : WS) (len : ∀ rs g Q, Pr rs g Q → rs.length = ps.length) (hn : nog = true → ∀ rs g Q, Pr rs g Q → g = none) (spec : ∀ rs g Q, Pr rs g Q → fw (startC N.length rs g) (endP Q) fun _ _ => False)
    (hbody : ∀ (cdv : Value) (A : Around) (outer : List Env) (s : Shared) (H : Hp) (E : XK) (Δ : Dx), RoomG k (A.deeper (PyProof.Rows.envOfC qual (defScope st) s.heap.objs.size f cdv)) → Δ.K = K → (nog = true → Δ.a0 = none) →
      PSs (cxOf CX0 P w K mg base N qual (defScope st) f cdv A outer s H E).nox (defBody st) (tS Δ fw)) : FnG P w K mg base CX0 (k + 1) f fd ps (spD K Pr) := by
  refine fnG_of F S (fun vs H Q E h => ?_) (fun cdv A outer s H vs Q E hr h => ?_)
  · obtain ⟨am, G, rs, g, q, _, _, _, h3, h4, _⟩ := h
    rw [← h3.length]
    exact len rs g q h4
  · obtain ⟨am, G, rs, g, q, h1, ht, h2, h3, h4, h5⟩ := h
    refine ⟨_, PSs.nox (hbody cdv A outer s H E (dx0 K am g G H) hr rfl (fun z => by rw [hn z rs g q h4]; rfl)), am, G, _, _, _, start_ok h1 ht h2 h3, spec rs g q h4, ⟨fun c am' F' σ' H' p l o => ?_, fun _ _ _ _ _ z => z.elim, fun _ _ _ _ _ z => z.elim, fun r g' am' F' H' v p l fn s => ?_⟩, fun _ _ _ _ _ z => z.elim⟩
    · exact h5 _ _ am' F' _ H' p l o.fin .non
    · exact h5 r g' am' F' v H' p l fn s
theorem nog_law_begun (rs : List Rv) (g : Option Nat) (Q : Rv → Option Nat → Prop) (h : C_law_begun rs g Q) : g = none := by
  obtain ⟨_, _, _, e, _⟩ := h
  exact e
theorem noglaw (rs : List Rv) (g : Option Nat) (Q : Rv → Option Nat → Prop) (h : Claw rs g Q) : g = none := by
  obtain ⟨_, _, e, _⟩ := h
  exact e
section
variable {P : Program} {w : World} {K : PySem.W.Frag} {mg : Str → Option Value} {base : Heap}
abbrev n_law_begun : List Str := ["script", "k", "cells", "cell", "great", "begun"]
abbrev p_law_begun : List Str := ["script", "k"]
theorem sc_law_begun : FnScope n_law_begun p_law_begun (defScope s_law_begun) := ⟨rfl, rfl, rfl, by decide +kernel, rfl, by decide +kernel, by decide +kernel⟩
theorem k_law_begun {f : Addr} {fd : FuncData} (hKK : K = TabF.K) (hCN : ∀ a, TabF.C a = none) (F : FunD K "_law_begun" "_law_begun" (defArgs s_law_begun) (defBody s_law_begun) (defScope s_law_begun) [] [] f fd) (hm : mg "_law_begun" = some (.ref f)) (b_int : mg "int" = none) (b_len : mg "len" = none) : CalD P w K mg base 1 "_law_begun" C_law_begun := by
  have S := sc_law_begun
  refine def_ok true F S hm (F.bindsN fun _ _ _ _ _ _ us hl => match us, hl with | [_, _], _ => rfl) w_law_begun len_law_begun (fun _ => nog_law_begun) spec_law_begun (fun cdv A outer s H E Δ hr hK ha0 => ?_)
  have hu := hu_of hr.toRoom
  exact (dss_cons (ds_set 2 S.nd (de_op (do_add hK) (de_slS 0 hK (by rfl) (by first | exact Or.inl rfl | exact Or.inr (Or.inl rfl) | exact Or.inr (Or.inr rfl)) (by decide) (by decide) (do_some (de_name 1)) do_none) (de_slS 0 hK (by rfl) (by first | exact Or.inl rfl | exact Or.inr (Or.inl rfl) | exact Or.inr (Or.inr rfl)) (by decide) (by decide) do_none (do_some (de_name 1)))))
  (dss_cons (ds_setLc (own := [("cell", 3)]) 4 rfl rfl rfl (sw_true rfl rfl rfl (by decide +kernel)) S.nd (di_scr 0 hK (by rfl) (by first | exact Or.inl rfl | exact Or.inr (Or.inl rfl) | exact Or.inr (Or.inr rfl)) (by decide) (by decide)) (blkOk_by (own := [("cell", 3)]) (N := n_law_begun) (sc := defScope s_law_begun) (by decide +kernel)) (fun _ _ _ _ _ Δ _ => (dg_name 3 S.nd)) (fun _ _ _ _ _ Δ e1 => (pts_one (dt_cmpNL 3 sc_ge (de_op do_pow de_int de_int) (nomark _)))) (fun _ _ _ _ _ Δ e2 => (de_name 3)))
  (dss_cons (ds_set 5 S.nd (de_op (do_add hK) de_int (de_op do_mul' de_int (de_name 1))))
  (dss_cons (ds_for PassesOwn.never rfl (di_l (de_name 2)) (dg_name 3 S.nd)
  (dss_one (ds_set 5 S.nd (de_op do_mod' (de_ct cl_int (by rfl) b_int (by decide +kernel) (da_cons (de_op (do_add hK) (de_op do_mul' (de_name 5) de_int) (de_name 3)) da_nil)) de_int))))
  (dss_one (ds_retG (ha0 rfl) (fun Δ e3 => (de_if (dt_cmpNL 1 sc_lt (de_lenN 4 rfl (by rfl) b_len (by decide +kernel)) (nomark _)) (de_ixN 4 (de_name 1) (fun _ _ => rfl)) de_int)) (fun Δ e4 => (de_name 5)) (fun Δ e5 => (de_addN 2 (e5.trans hK) (de_lst (da_cons (de_op (do_add (e5.trans hK)) (de_op do_mul' de_int (de_name 1)) de_int) da_nil)))) (fun Δ e6 => de_int)))))))
abbrev n_law_draw : List Str := ["m", "below", "found", "spot", "cells", "added", "cell", "blend"]
abbrev p_law_draw : List Str := ["m", "below"]
theorem sc_law_draw : FnScope n_law_draw p_law_draw (defScope s_law_draw) := ⟨rfl, rfl, rfl, by decide +kernel, rfl, by decide +kernel, by decide +kernel⟩
theorem k_law_draw {f : Addr} {fd : FuncData} (hKK : K = TabF.K) (hCN : ∀ a, TabF.C a = none) (F : FunD K "_law_draw" "_law_draw" (defArgs s_law_draw) (defBody s_law_draw) (defScope s_law_draw) [] [] f fd) (hm : mg "_law_draw" = some (.ref f)) (b_int : mg "int" = none) (b_len : mg "len" = none) : CalD P w K mg base 1 "_law_draw" C_law_draw := by
  have S := sc_law_draw
  refine def_ok false F S hm (F.bindsN fun _ _ _ _ _ _ us hl => match us, hl with | [_, _], _ => rfl) w_law_draw len_law_draw (fun z => nomatch z) spec_law_draw (fun cdv A outer s H E Δ hr hK ha0 => ?_)
  have hu := hu_of hr.toRoom
  exact (dss_cons (ds_if (dt_cmp sc_gt (de_gl 0 hu (by rfl) (by first | exact Or.inl rfl | exact Or.inr (Or.inl rfl) | exact Or.inr (Or.inr rfl)) (by decide) (by decide)) de_int (nomark _)) (dss_cons (ds_set 2 S.nd (de_op do_mod' (de_ct cl_int (by rfl) b_int (by decide +kernel) (da_cons (de_gl 0 hu (by rfl) (by first | exact Or.inl rfl | exact Or.inr (Or.inl rfl) | exact Or.inr (Or.inr rfl)) (by decide) (by decide)) da_nil)) (de_name 1)))
  (dss_cons (ds_gl 0 hu (by rfl) (by first | exact Or.inl rfl | exact Or.inr (Or.inl rfl) | exact Or.inr (Or.inr rfl)) (by decide) (by decide) (de_op do_fdiv' (de_gl 0 hu (by rfl) (by first | exact Or.inl rfl | exact Or.inr (Or.inl rfl) | exact Or.inr (Or.inr rfl)) (by decide) (by decide)) (de_name 1)) (by rfl))
  (dss_one (ds_ret (de_name 2))))) dss_nil)
  (dss_cons (ds_set 3 S.nd (de_gp 0 hu (by rfl) (by first | exact Or.inl rfl | exact Or.inr (Or.inl rfl) | exact Or.inr (Or.inr rfl)) (by decide) (by decide)))
  (dss_cons (ds_gp 0 hu (by rfl) (by first | exact Or.inl rfl | exact Or.inr (Or.inl rfl) | exact Or.inr (Or.inr rfl)) (by decide) (by decide) (de_addN 3 hK de_int) (by rfl))
  (dss_cons (ds_par2 4 5 rfl S.nd (de_gc 0 hu (by rfl) (by first | exact Or.inl rfl | exact Or.inr (Or.inl rfl) | exact Or.inr (Or.inr rfl)) (by decide) (by decide)) (fun Δ e1 => (de_op (do_add (e1.trans hK)) (de_gs 0 hu (by rfl) (by first | exact Or.inl rfl | exact Or.inr (Or.inl rfl) | exact Or.inr (Or.inr rfl)) (by decide) (by decide)) (de_op do_mul' (de_op do_mul' de_int (de_name 3)) (de_name 3)))) (by rfl))
  (dss_cons (ds_set 6 S.nd (de_ixN 4 (de_op do_mod' (de_ct cl_int (by rfl) b_int (by decide +kernel) (da_cons (de_name 3) da_nil)) (de_lenN 4 rfl (by rfl) b_len (by decide +kernel))) (fun _ _ => rfl)))
  (dss_cons (ds_set 7 S.nd (de_op do_mod' (de_ct cl_int (by rfl) b_int (by decide +kernel) (da_cons (de_op (do_add hK) (de_op do_mul' (de_name 6) (de_op (do_add hK) (de_op do_mul' de_int (de_name 3)) de_int)) (de_name 5)) da_nil)) de_int))
  (dss_cons (ds_set 7 S.nd (de_op do_mod' (de_ct cl_int (by rfl) b_int (by decide +kernel) (da_cons (de_op (do_add hK) (de_op (do_add hK) (de_op do_mul' (de_name 7) (de_name 7)) (de_op do_mul' de_int (de_name 3))) (de_gs 0 hu (by rfl) (by first | exact Or.inl rfl | exact Or.inr (Or.inl rfl) | exact Or.inr (Or.inr rfl)) (by decide) (by decide))) da_nil)) de_int))
  (dss_one (ds_ret (de_op do_mod' (de_op do_fdiv' (de_op do_mod' (de_ct cl_int (by rfl) b_int (by decide +kernel) (da_cons (de_op (do_add hK) (de_op do_mul' (de_name 7) de_int) (de_name 3)) da_nil)) de_int) de_int) (de_name 1)))))))))))
abbrev n_law_of : List Str := ["m", "some"]
abbrev p_law_of : List Str := ["m", "some"]
theorem sc_law_of : FnScope n_law_of p_law_of (defScope s_law_of) := ⟨rfl, rfl, rfl, by decide +kernel, rfl, by decide +kernel, by decide +kernel⟩
theorem k_law_of {f : Addr} {fd : FuncData} (hKK : K = TabF.K) (hCN : ∀ a, TabF.C a = none) (F : FunD K "_law_of" "_law_of" (defArgs s_law_of) (defBody s_law_of) (defScope s_law_of) [] [] f fd) (hm : mg "_law_of" = some (.ref f)) (b_len : mg "len" = none) (c_law_draw : CalD P w K mg base 1 "_law_draw" C_law_draw) : CalD P w K mg base 2 "_law_of" C_law_of := by
  have S := sc_law_of
  refine def_ok false F S hm (F.bindsN fun _ _ _ _ _ _ us hl => match us, hl with | [_, _], _ => rfl) w_law_of len_law_of (fun z => nomatch z) spec_law_of (fun cdv A outer s H E Δ hr hK ha0 => ?_)
  have hu := hu_of hr.toRoom
  exact (dss_one (ds_ret (de_ixN 1 (de_callG c_law_draw hK (hr.mono (by decide)) (by rfl) (da_cons (de_name 0) (da_cons (de_lenN 1 rfl (by rfl) b_len (by decide +kernel)) da_nil))) (fun _ _ => rfl))))
abbrev n_law_bared : List Str := ["m", "web", "found", "v", "w", "p", "q"]
abbrev p_law_bared : List Str := ["m", "web"]
theorem sc_law_bared : FnScope n_law_bared p_law_bared (defScope s_law_bared) := ⟨rfl, rfl, rfl, by decide +kernel, rfl, by decide +kernel, by decide +kernel⟩
theorem k_law_bared {f : Addr} {fd : FuncData} (hKK : K = TabF.K) (hCN : ∀ a, TabF.C a = none) (F : FunD K "_law_bared" "_law_bared" (defArgs s_law_bared) (defBody s_law_bared) (defScope s_law_bared) [] [] f fd) (hm : mg "_law_bared" = some (.ref f)) (b_tuple : mg "tuple" = none) (c_law_of : CalD P w K mg base 2 "_law_of" C_law_of) : CalD P w K mg base 3 "_law_bared" C_law_bared := by
  have S := sc_law_bared
  refine def_ok false F S hm (F.bindsN fun _ _ _ _ _ _ us hl => match us, hl with | [_, _], _ => rfl) w_law_bared len_law_bared (fun z => nomatch z) spec_law_bared (fun cdv A outer s H E Δ hr hK ha0 => ?_)
  have hu := hu_of hr.toRoom
  exact (dss_cons (ds_set 2 S.nd (de_lst da_nil))
  (dss_cons (ds_for PassesOwn.never rfl (di_t (de_ixN 1 de_int (fun _ _ => rfl))) (dg_tup (n := 4) rfl (dgs_cons (dg_name 3 S.nd) (dgs_cons (dg_name 4 S.nd) (dgs_cons (dg_name 5 S.nd) (dgs_cons (dg_name 6 S.nd) dgs_nil)))))
  (dss_one (ds_expr (de_app 2 (de_tup (da_cons (de_name 3) (da_cons (de_name 4) (da_cons (de_callG c_law_of hK (hr.mono (by decide)) (by rfl) (da_cons (de_name 0) (da_cons (de_lst (da_cons (de_name 5) (da_cons de_int (da_cons (de_un do_neg de_int) da_nil)))) da_nil))) (da_cons (de_callG c_law_of hK (hr.mono (by decide)) (by rfl) (da_cons (de_name 0) (da_cons (de_lst (da_cons (de_name 6) (da_cons (de_name 6) (da_cons de_int (da_cons (de_un do_neg de_int) da_nil))))) da_nil))) da_nil)))))))))
  (dss_one (ds_ret (de_tup (da_cons (de_ixN 1 de_int (fun _ _ => rfl)) (da_cons (de_ct (cl_tup hK) (by rfl) b_tuple (by decide +kernel) (da_cons (de_name 2) da_nil)) da_nil)))))))
abbrev n_law_web : List Str := ["m", "rooms", "ties", "greatest", "found", "k", "v", "w", "p", "q", "end"]
abbrev p_law_web : List Str := ["m", "rooms", "ties", "greatest"]
theorem sc_law_web : FnScope n_law_web p_law_web (defScope s_law_web) := ⟨rfl, rfl, rfl, by decide +kernel, rfl, by decide +kernel, by decide +kernel⟩
theorem k_law_web {f : Addr} {fd : FuncData} (hKK : K = TabF.K) (hCN : ∀ a, TabF.C a = none) (F : FunD K "_law_web" "_law_web" (defArgs s_law_web) (defBody s_law_web) (defScope s_law_web) [] [] f fd) (hm : mg "_law_web" = some (.ref f)) (b_range : mg "range" = none) (b_tuple : mg "tuple" = none) (c_law_draw : CalD P w K mg base 1 "_law_draw" C_law_draw) (c_law_of : CalD P w K mg base 2 "_law_of" C_law_of) : CalD P w K mg base 3 "_law_web" C_law_web := by
  have S := sc_law_web
  refine def_ok false F S hm (F.bindsN fun _ _ _ _ _ _ us hl => match us, hl with | [_, _, _, _], _ => rfl) w_law_web len_law_web (fun z => nomatch z) spec_law_web (fun cdv A outer s H E Δ hr hK ha0 => ?_)
  have hu := hu_of hr.toRoom
  exact (dss_cons (ds_set 4 S.nd (de_lst da_nil))
  (dss_cons (ds_for PassesOwn.never rfl (di_r1 (by rfl) b_range (da_cons (de_name 2) da_nil)) (dg_name 5 S.nd)
  (dss_cons (ds_set 6 S.nd (de_if (dt_cmpNR 1 sc_lt (de_addN 5 hK de_int) (nomark _)) (de_callG c_law_draw hK (hr.mono (by decide)) (by rfl) (da_cons (de_name 0) (da_cons (de_addN 5 hK de_int) da_nil))) (de_callG c_law_draw hK (hr.mono (by decide)) (by rfl) (da_cons (de_name 0) (da_cons (de_name 1) da_nil)))))
  (dss_cons (ds_set 7 S.nd (de_if (dt_cmpNR 1 sc_lt (de_addN 5 hK de_int) (nomark _)) (de_addN 5 hK de_int) (de_callG c_law_draw hK (hr.mono (by decide)) (by rfl) (da_cons (de_name 0) (da_cons (de_name 1) da_nil)))))
  (dss_cons (ds_asg (de_lc (own := [("end", 10)]) rfl S.nd (di_r1 (by rfl) b_range (da_cons de_int da_nil)) (blkOk_by (own := [("end", 10)]) (N := n_law_web) (sc := defScope s_law_web) (by decide +kernel)) (fun _ _ _ _ _ Δ _ => (dg_name 10 S.nd)) (fun _ _ _ _ _ Δ e0 => (dts_nil)) (fun _ _ _ _ _ Δ e1 => (de_op do_mul' (de_op (do_add (e1.trans hK)) de_int (de_callG c_law_draw (e1.trans hK) (hr.mono (by decide)) (by rfl) (da_cons (de_name 0) (da_cons (de_name 3) da_nil)))) (de_callG c_law_of (e1.trans hK) (hr.mono (by decide)) (by rfl) (da_cons (de_name 0) (da_cons (de_lst (da_cons de_int (da_cons de_int (da_cons de_int (da_cons (de_un do_neg de_int) da_nil))))) da_nil)))))) (dg_lst (n := 2) rfl (dgs_cons (dg_name 8 S.nd) (dgs_cons (dg_name 9 S.nd) dgs_nil))))
  (dss_one (ds_expr (de_app 4 (de_if (dt_cmp (sc_eq hr.units) (de_callG c_law_draw hK (hr.mono (by decide)) (by rfl) (da_cons (de_name 0) (da_cons de_int da_nil))) de_int (nomark _)) (de_tup (da_cons (de_name 6) (da_cons (de_name 7) (da_cons (de_name 8) (da_cons (de_name 9) da_nil))))) (de_tup (da_cons (de_name 7) (da_cons (de_name 6) (da_cons (de_name 9) (da_cons (de_name 8) da_nil)))))))))))))
  (dss_one (ds_ret (de_tup (da_cons (de_name 1) (da_cons (de_ct (cl_tup hK) (by rfl) b_tuple (by decide +kernel) (da_cons (de_name 4) da_nil)) da_nil)))))))
abbrev n_law_ends : List Str := ["web", "tie", "side", "v", "w", "p", "q"]
abbrev p_law_ends : List Str := ["web", "tie", "side"]
theorem sc_law_ends : FnScope n_law_ends p_law_ends (defScope s_law_ends) := ⟨rfl, rfl, rfl, by decide +kernel, rfl, by decide +kernel, by decide +kernel⟩
theorem k_law_ends {f : Addr} {fd : FuncData} (hKK : K = TabF.K) (hCN : ∀ a, TabF.C a = none) (F : FunD K "_law_ends" "_law_ends" (defArgs s_law_ends) (defBody s_law_ends) (defScope s_law_ends) [] [] f fd) (hm : mg "_law_ends" = some (.ref f)) : CalD P w K mg base 1 "_law_ends" C_law_ends := by
  have S := sc_law_ends
  refine def_ok false F S hm (F.bindsN fun _ _ _ _ _ _ us hl => match us, hl with | [_, _, _], _ => rfl) w_law_ends len_law_ends (fun z => nomatch z) spec_law_ends (fun cdv A outer s H E Δ hr hK ha0 => ?_)
  have hu := hu_of hr.toRoom
  exact (dss_cons (ds_asg (de_ix (de_ixN 0 de_int (fun _ _ => rfl)) (de_name 1) (fun _ _ => rfl)) (dg_tup (n := 4) rfl (dgs_cons (dg_name 3 S.nd) (dgs_cons (dg_name 4 S.nd) (dgs_cons (dg_name 5 S.nd) (dgs_cons (dg_name 6 S.nd) dgs_nil))))))
  (dss_one (ds_ret (de_if (dt_cmpNL 2 (sc_eq hr.units) de_int (nomark _)) (de_tup (da_cons (de_name 3) (da_cons (de_name 4) (da_cons (de_name 5) (da_cons (de_name 6) da_nil))))) (de_tup (da_cons (de_name 4) (da_cons (de_name 3) (da_cons (de_name 6) (da_cons (de_name 5) da_nil)))))))))
abbrev n_law_out : List Str := ["web", "room", "found", "tie", "side"]
abbrev p_law_out : List Str := ["web", "room"]
theorem sc_law_out : FnScope n_law_out p_law_out (defScope s_law_out) := ⟨rfl, rfl, rfl, by decide +kernel, rfl, by decide +kernel, by decide +kernel⟩
theorem k_law_out {f : Addr} {fd : FuncData} (hKK : K = TabF.K) (hCN : ∀ a, TabF.C a = none) (F : FunD K "_law_out" "_law_out" (defArgs s_law_out) (defBody s_law_out) (defScope s_law_out) [] [] f fd) (hm : mg "_law_out" = some (.ref f)) (b_len : mg "len" = none) (b_range : mg "range" = none) (c_law_ends : CalD P w K mg base 1 "_law_ends" C_law_ends) : CalD P w K mg base 2 "_law_out" C_law_out := by
  have S := sc_law_out
  refine def_ok false F S hm (F.bindsN fun _ _ _ _ _ _ us hl => match us, hl with | [_, _], _ => rfl) w_law_out len_law_out (fun z => nomatch z) spec_law_out (fun cdv A outer s H E Δ hr hK ha0 => ?_)
  have hu := hu_of hr.toRoom
  exact (dss_cons (ds_set 2 S.nd (de_lst da_nil))
  (dss_cons (ds_for PassesOwn.never rfl (di_r1 (by rfl) b_range (da_cons (de_cb (cl_len hK) (by rfl) b_len (by decide +kernel) (da_cons (de_ixN 0 de_int (fun _ _ => rfl)) da_nil)) da_nil)) (dg_name 3 S.nd)
  (dss_one (ds_set 2 S.nd (de_addN 2 hK (de_lc (own := [("side", 4)]) rfl S.nd (di_t (de_tup (da_cons de_int (da_cons (de_un do_neg de_int) da_nil)))) (blkOk_by (own := [("side", 4)]) (N := n_law_out) (sc := defScope s_law_out) (by decide +kernel)) (fun _ _ _ _ _ Δ _ => (dg_name 4 S.nd)) (fun _ _ _ _ _ Δ e1 => (pts_one (dt_cmpNR 1 (sc_eq hr.units) (de_ix (de_callP c_law_ends (e1.trans hK) (hr.mono (by decide)) (by rfl) (da_cons (de_name 0) (da_cons (de_name 3) (da_cons (de_name 4) da_nil)))) de_int (fun _ _ => rfl)) (nomark _)))) (fun _ _ _ _ _ Δ e2 => (de_tup (da_cons (de_name 3) (da_cons (de_name 4) da_nil)))))))))
  (dss_one (ds_ret (de_name 2)))))
abbrev n_law_home : List Str := ["web", "room", "found", "pending", "here", "tie", "side", "there"]
abbrev p_law_home : List Str := ["web", "room"]
theorem sc_law_home : FnScope n_law_home p_law_home (defScope s_law_home) := ⟨rfl, rfl, rfl, by decide +kernel, rfl, by decide +kernel, by decide +kernel⟩
theorem k_law_home {f : Addr} {fd : FuncData} (hKK : K = TabF.K) (hCN : ∀ a, TabF.C a = none) (F : FunD K "_law_home" "_law_home" (defArgs s_law_home) (defBody s_law_home) (defScope s_law_home) [] [] f fd) (hm : mg "_law_home" = some (.ref f)) (c_law_ends : CalD P w K mg base 1 "_law_ends" C_law_ends) (c_law_out : CalD P w K mg base 2 "_law_out" C_law_out) : CalD P w K mg base 3 "_law_home" C_law_home := by
  have S := sc_law_home
  refine def_ok false F S hm (F.bindsN fun _ _ _ _ _ _ us hl => match us, hl with | [_, _], _ => rfl) w_law_home len_law_home (fun z => nomatch z) spec_law_home (fun cdv A outer s H E Δ hr hK ha0 => ?_)
  have hu := hu_of hr.toRoom
  exact (dss_cons (ds_par2 2 3 rfl S.nd (de_disp1 (fun Δ e1 => (de_name 1)) (fun Δ e2 => (de_lst da_nil))) (fun Δ e3 => (de_lst (da_cons (de_name 1) da_nil))) (by rfl))
  (dss_cons (ds_wh PassesOwn.never (dt_cmpNL 3 (sc_ne hr.units) (de_lst da_nil) (nomark _))
  (dss_cons (ds_set 4 S.nd (de_pop0 3))
  (dss_one (ds_for PassesOwn.never rfl (di_l (de_callP c_law_out hK (hr.mono (by decide)) (by rfl) (da_cons (de_name 0) (da_cons (de_name 4) da_nil)))) (dg_tup (n := 2) rfl (dgs_cons (dg_name 5 S.nd) (dgs_cons (dg_name 6 S.nd) dgs_nil)))
  (dss_cons (ds_set 7 S.nd (de_ix (de_callP c_law_ends hK (hr.mono (by decide)) (by rfl) (da_cons (de_name 0) (da_cons (de_name 5) (da_cons (de_name 6) da_nil)))) de_int (fun _ _ => rfl)))
  (dss_one (ds_if (dt_dnin 2 hr.units (de_name 7)) (dss_cons (ds_dput 2 hr.units (de_op (do_add hK) (de_dix (hs := fun _ _ => rfl) 2 hr.units (de_name 4)) (de_lst (da_cons (de_tup (da_cons (de_name 5) (da_cons (de_name 6) da_nil))) da_nil))) (de_name 7))
  (dss_one (ds_expr (de_app 3 (de_name 7))))) dss_nil)))))))
  (dss_one (ds_retD 2))))
abbrev n_law_ends_at : List Str := ["web", "ties", "room", "found", "tie", "side", "ends"]
abbrev p_law_ends_at : List Str := ["web", "ties", "room"]
theorem sc_law_ends_at : FnScope n_law_ends_at p_law_ends_at (defScope s_law_ends_at) := ⟨rfl, rfl, rfl, by decide +kernel, rfl, by decide +kernel, by decide +kernel⟩
theorem k_law_ends_at {f : Addr} {fd : FuncData} (hKK : K = TabF.K) (hCN : ∀ a, TabF.C a = none) (F : FunD K "_law_ends_at" "_law_ends_at" (defArgs s_law_ends_at) (defBody s_law_ends_at) (defScope s_law_ends_at) [] [] f fd) (hm : mg "_law_ends_at" = some (.ref f)) (c_law_ends : CalD P w K mg base 1 "_law_ends" C_law_ends) : CalD P w K mg base 2 "_law_ends_at" C_law_ends_at := by
  have S := sc_law_ends_at
  refine def_ok false F S hm (F.bindsN fun _ _ _ _ _ _ us hl => match us, hl with | [_, _, _], _ => rfl) w_law_ends_at len_law_ends_at (fun z => nomatch z) spec_law_ends_at (fun cdv A outer s H E Δ hr hK ha0 => ?_)
  have hu := hu_of hr.toRoom
  exact (dss_cons (ds_set 3 S.nd (de_lst da_nil))
  (dss_cons (ds_for PassesOwn.never rfl (di_l (de_name 1)) (dg_name 4 S.nd)
  (dss_one (ds_for PassesOwn.never rfl (di_t (de_tup (da_cons de_int (da_cons (de_un do_neg de_int) da_nil)))) (dg_name 5 S.nd)
  (dss_cons (ds_set 6 S.nd (de_callP c_law_ends hK (hr.mono (by decide)) (by rfl) (da_cons (de_name 0) (da_cons (de_name 4) (da_cons (de_name 5) da_nil)))))
  (dss_one (ds_if (dt_cmpNR 2 (sc_eq hr.units) (de_ixN 6 de_int (fun _ _ => rfl)) (nomark _)) (dss_one (ds_expr (de_app 3 (de_tup (da_cons (de_name 4) (da_cons (de_name 5) (da_cons (de_ixN 6 de_int (fun _ _ => rfl)) da_nil))))))) dss_nil))))))
  (dss_one (ds_ret (de_name 3)))))
abbrev n_law_core : List Str := ["web", "room", "rooms", "tie", "ties", "gone", "idle", "here", "ends", "side", "one"]
abbrev p_law_core : List Str := ["web", "room"]
theorem sc_law_core : FnScope n_law_core p_law_core (defScope s_law_core) := ⟨rfl, rfl, rfl, by decide +kernel, rfl, by decide +kernel, by decide +kernel⟩
theorem k_law_core {f : Addr} {fd : FuncData} (hKK : K = TabF.K) (hCN : ∀ a, TabF.C a = none) (F : FunD K "_law_core" "_law_core" (defArgs s_law_core) (defBody s_law_core) (defScope s_law_core) [] [] f fd) (hm : mg "_law_core" = some (.ref f)) (b_abs : mg "abs" = none) (b_len : mg "len" = none) (b_list : mg "list" = none) (b_range : mg "range" = none) (b_sorted : mg "sorted" = none) (c_law_ends_at : CalD P w K mg base 2 "_law_ends_at" C_law_ends_at) (c_law_home : CalD P w K mg base 3 "_law_home" C_law_home) : CalD P w K mg base 4 "_law_core" C_law_core := by
  have S := sc_law_core
  refine def_ok false F S hm (F.bindsN fun _ _ _ _ _ _ us hl => match us, hl with | [_, _], _ => rfl) w_law_core len_law_core (fun z => nomatch z) spec_law_core (fun cdv A outer s H E Δ hr hK ha0 => ?_)
  have hu := hu_of hr.toRoom
  exact (dss_cons (ds_set 2 S.nd (de_cb (cl_sortI hK) (by rfl) b_sorted (by decide +kernel) (da_cons (de_lstK rfl (by rfl) b_list (by decide +kernel) (de_callP c_law_home hK (hr.mono (by decide)) (by rfl) (da_cons (de_name 0) (da_cons (de_name 1) da_nil)))) da_nil)))
  (dss_cons (ds_par2 4 5 rfl S.nd (de_lc (own := [("tie", 3)]) rfl S.nd (di_r1 (by rfl) b_range (da_cons (de_cb (cl_len hK) (by rfl) b_len (by decide +kernel) (da_cons (de_ixN 0 de_int (fun _ _ => rfl)) da_nil)) da_nil)) (blkOk_by (own := [("tie", 3)]) (N := n_law_core) (sc := defScope s_law_core) (by decide +kernel)) (fun _ _ _ _ _ Δ _ => (dg_name 3 S.nd)) (fun _ _ _ _ _ Δ e1 => (pts_one (dt_cmpNR 2 sc_in (de_ix (de_ix (de_ixN 0 de_int (fun _ _ => rfl)) (de_name 3) (fun _ _ => rfl)) de_int (fun _ _ => rfl)) (by rfl)))) (fun _ _ _ _ _ Δ e2 => (de_name 3))) (fun Δ e3 => de_disp0) (by rfl))
  (dss_cons (ds_set 6 S.nd (de_lst (da_cons de_int da_nil)))
  (dss_cons (ds_wh PassesOwn.never (dt_cmpNL 6 (sc_ne hr.units) (de_lst da_nil) (nomark _))
  (dss_cons (ds_set 6 S.nd (de_lst da_nil))
  (dss_cons (ds_for PassesOwn.never rfl (di_l (de_name 2)) (dg_name 7 S.nd)
  (dss_cons (ds_set 8 S.nd (de_callP c_law_ends_at hK (hr.mono (by decide)) (by rfl) (da_cons (de_name 0) (da_cons (de_name 4) (da_cons (de_name 7) da_nil)))))
  (dss_one (ds_if (PW.pt (dw_and (dt_cmp (sc_eq hr.units) (de_lenN 8 rfl (by rfl) b_len (by decide +kernel)) de_int (nomark _)) (dw_and1 (dt_cmp (sc_eq hr.units) (de_cb cl_abs (by rfl) b_abs (by decide +kernel) (da_cons (de_ix (de_ixN 8 de_int (fun _ _ => rfl)) de_int (fun _ _ => rfl)) da_nil)) de_int (nomark _))))) (dss_one (ds_expr (de_app 6 (de_tup (da_cons (de_name 7) (da_cons (de_ix (de_ixN 8 de_int (fun _ _ => rfl)) de_int (fun _ _ => rfl)) (da_cons (de_ix (de_ixN 8 de_int (fun _ _ => rfl)) de_int (fun _ _ => rfl)) da_nil))))))) dss_nil))))
  (dss_one (ds_if (dt_cmpNL 6 (sc_ne hr.units) (de_lst da_nil) (nomark _)) (dss_cons (ds_asg (de_ixN 6 de_int (fun _ _ => rfl)) (dg_tup (n := 3) rfl (dgs_cons (dg_name 7 S.nd) (dgs_cons (dg_name 3 S.nd) (dgs_cons (dg_name 9 S.nd) dgs_nil)))))
  (dss_cons (ds_dput 5 hr.units (de_tup (da_cons (de_name 3) (da_cons (de_name 9) da_nil))) (de_name 7))
  (dss_one (ds_asg (de_tup (da_cons (de_lc (own := [("one", 10)]) rfl S.nd (di_l (de_name 2)) (blkOk_by (own := [("one", 10)]) (N := n_law_core) (sc := defScope s_law_core) (by decide +kernel)) (fun _ _ _ _ _ Δ _ => (dg_name 10 S.nd)) (fun _ _ _ _ _ Δ e6 => (pts_one (dt_cmpNL 10 (sc_ne hr.units) (de_name 7) (nomark _)))) (fun _ _ _ _ _ Δ e7 => (de_name 10))) (da_cons (de_lc (own := [("one", 10)]) rfl S.nd (di_l (de_name 4)) (blkOk_by (own := [("one", 10)]) (N := n_law_core) (sc := defScope s_law_core) (by decide +kernel)) (fun _ _ _ _ _ Δ _ => (dg_name 10 S.nd)) (fun _ _ _ _ _ Δ e4 => (pts_one (dt_cmpNL 10 (sc_ne hr.units) (de_name 3) (nomark _)))) (fun _ _ _ _ _ Δ e5 => (de_name 10))) da_nil))) (dg_tup (n := 2) rfl (dgs_cons (dg_name 2 S.nd) (dgs_cons (dg_name 4 S.nd) dgs_nil))))))) dss_nil)))))
  (dss_one (ds_ret (de_tup (da_cons (de_name 2) (da_cons (de_name 4) (da_cons (de_frz 5) da_nil))))))))))
abbrev n_law_bare : List Str := ["room", "crossings", "tie", "side"]
abbrev p_law_bare : List Str := ["room", "crossings"]
theorem sc_law_bare : FnScope n_law_bare p_law_bare (defScope s_law_bare) := ⟨rfl, rfl, rfl, by decide +kernel, rfl, by decide +kernel, by decide +kernel⟩
theorem k_law_bare {f : Addr} {fd : FuncData} (hKK : K = TabF.K) (hCN : ∀ a, TabF.C a = none) (F : FunD K "_law_bare" "_law_bare" (defArgs s_law_bare) (defBody s_law_bare) (defScope s_law_bare) [] [] f fd) (hm : mg "_law_bare" = some (.ref f)) (b_tuple : mg "tuple" = none) : CalD P w K mg base 1 "_law_bare" C_law_bare := by
  have S := sc_law_bare
  refine def_ok false F S hm (F.bindsN fun _ _ _ _ _ _ us hl => match us, hl with | [_, _], _ => rfl) w_law_bare len_law_bare (fun z => nomatch z) spec_law_bare (fun cdv A outer s H E Δ hr hK ha0 => ?_)
  have hu := hu_of hr.toRoom
  exact (dss_one (ds_ret (de_tup (da_cons (de_name 0) (da_cons de_int (da_cons (de_ct (cl_tup hK) (by rfl) b_tuple (by decide +kernel) (da_cons (de_lc (own := [("tie", 2), ("side", 3)]) rfl S.nd (di_l (de_name 1)) (blkOk_by (own := [("tie", 2), ("side", 3)]) (N := n_law_bare) (sc := defScope s_law_bare) (by decide +kernel)) (fun _ _ _ _ _ Δ _ => (dg_tup (n := 2) rfl (dgs_cons (dg_name 2 S.nd) (dgs_cons (dg_name 3 S.nd) dgs_nil)))) (fun _ _ _ _ _ Δ e0 => (dts_nil)) (fun _ _ _ _ _ Δ e1 => (de_tup (da_cons (de_name 2) (da_cons (de_name 3) (da_cons de_int da_nil)))))) da_nil)) da_nil))))))
abbrev n_law_home_in : List Str := ["web", "gone", "room", "crossings", "number", "here", "tie", "side", "ends"]
abbrev p_law_home_in : List Str := ["web", "gone", "room"]
theorem sc_law_home_in : FnScope n_law_home_in p_law_home_in (defScope s_law_home_in) := ⟨rfl, rfl, rfl, by decide +kernel, rfl, by decide +kernel, by decide +kernel⟩
theorem k_law_home_in {f : Addr} {fd : FuncData} (hKK : K = TabF.K) (hCN : ∀ a, TabF.C a = none) (F : FunD K "_law_home_in" "_law_home_in" (defArgs s_law_home_in) (defBody s_law_home_in) (defScope s_law_home_in) [] [] f fd) (hm : mg "_law_home_in" = some (.ref f)) (c_law_bare : CalD P w K mg base 1 "_law_bare" C_law_bare) (c_law_ends : CalD P w K mg base 1 "_law_ends" C_law_ends) : CalD P w K mg base 2 "_law_home_in" C_law_home_in := by
  have S := sc_law_home_in
  refine def_ok false F S hm (F.bindsN fun _ _ _ _ _ _ us hl => match us, hl with | [_, _, _], _ => rfl) w_law_home_in len_law_home_in (fun z => nomatch z) spec_law_home_in (fun cdv A outer s H E Δ hr hK ha0 => ?_)
  have hu := hu_of hr.toRoom
  exact (dss_cons (ds_par3o 3 4 5 rfl S.nd (de_lst da_nil) (fun Δ e1 => de_int) (fun Δ e2 => (de_name 2)) (by rfl))
  (dss_cons (ds_wh PassesOwn.never (dt_dinF 1 hr.units (de_name 5))
  (dss_cons (ds_asg (de_dixF (hs := fun _ _ => rfl) 1 hr.units (de_name 5)) (dg_tup (n := 2) rfl (dgs_cons (dg_name 6 S.nd) (dgs_cons (dg_name 7 S.nd) dgs_nil))))
  (dss_cons (ds_set 8 S.nd (de_callP c_law_ends hK (hr.mono (by decide)) (by rfl) (da_cons (de_name 0) (da_cons (de_name 6) (da_cons (de_name 7) da_nil)))))
  (dss_one (ds_par3 3 4 5 rfl S.nd (de_addN 3 hK (de_lst (da_cons (de_tup (da_cons (de_name 6) (da_cons (de_name 7) da_nil))) da_nil))) (fun Δ e3 => (de_op do_mul' (de_op do_mul' (de_name 4) (de_ixN 8 de_int (fun _ _ => rfl))) (de_ixN 8 de_int (fun _ _ => rfl)))) (fun Δ e4 => (de_ixN 8 de_int (fun _ _ => rfl))) (by rfl))))))
  (dss_one (ds_ret (de_tup (da_cons (de_callP c_law_bare hK (hr.mono (by decide)) (by rfl) (da_cons (de_name 2) (da_cons (de_name 3) da_nil))) (da_cons (de_name 4) da_nil)))))))
abbrev nways_out : List Str := ["web", "room", "ways", "number", "tie"]
abbrev pways_out : List Str := ["web", "room"]
theorem scways_out : FnScope nways_out pways_out (defScope sways_out) := ⟨rfl, rfl, rfl, by decide +kernel, rfl, by decide +kernel, by decide +kernel⟩
theorem kways_out {f : Addr} {fd : FuncData} (hKK : K = TabF.K) (hCN : ∀ a, TabF.C a = none) (F : FunD K "ways_out" "ways_out" (defArgs sways_out) (defBody sways_out) (defScope sways_out) [] [] f fd) (hm : mg "ways_out" = some (.ref f)) (b_enumerate : mg "enumerate" = none) (b_tuple : mg "tuple" = none) : CalD P w K mg base 1 "ways_out" Cways_out := by
  have S := scways_out
  refine def_ok false F S hm (F.bindsN fun _ _ _ _ _ _ us hl => match us, hl with | [_, _], _ => rfl) wways_out lenways_out (fun z => nomatch z) specways_out (fun cdv A outer s H E Δ hr hK ha0 => ?_)
  have hu := hu_of hr.toRoom
  exact (dss_cons (ds_set 2 S.nd (de_lst da_nil))
  (dss_cons (ds_for PassesOwn.never rfl (di_enT hK (by rfl) b_enumerate (da_cons (de_ixN 0 de_int (fun _ _ => rfl)) da_nil)) (dg_tup (n := 2) rfl (dgs_cons (dg_name 3 S.nd) (dgs_cons (dg_name 4 S.nd) dgs_nil)))
  (dss_cons (ds_if (dt_cmpNR 1 (sc_eq hr.units) (de_ixN 4 de_int (fun _ _ => rfl)) (nomark _)) (dss_one (ds_expr (de_app 2 (de_tup (da_cons (de_name 3) (da_cons de_int da_nil)))))) dss_nil)
  (dss_one (ds_if (dt_cmpNR 1 (sc_eq hr.units) (de_ixN 4 de_int (fun _ _ => rfl)) (nomark _)) (dss_one (ds_expr (de_app 2 (de_tup (da_cons (de_name 3) (da_cons (de_un do_neg de_int) da_nil)))))) dss_nil))))
  (dss_one (ds_ret (de_ct (cl_tup hK) (by rfl) b_tuple (by decide +kernel) (da_cons (de_name 2) da_nil))))))
abbrev nends_of : List Str := ["web", "tie", "side", "v", "w", "p", "q"]
abbrev pends_of : List Str := ["web", "tie", "side"]
theorem scends_of : FnScope nends_of pends_of (defScope sends_of) := ⟨rfl, rfl, rfl, by decide +kernel, rfl, by decide +kernel, by decide +kernel⟩
theorem kends_of {f : Addr} {fd : FuncData} (hKK : K = TabF.K) (hCN : ∀ a, TabF.C a = none) (F : FunD K "ends_of" "ends_of" (defArgs sends_of) (defBody sends_of) (defScope sends_of) [] [] f fd) (hm : mg "ends_of" = some (.ref f)) : CalD P w K mg base 1 "ends_of" Cends_of := by
  have S := scends_of
  refine def_ok false F S hm (F.bindsN fun _ _ _ _ _ _ us hl => match us, hl with | [_, _, _], _ => rfl) wends_of lenends_of (fun z => nomatch z) specends_of (fun cdv A outer s H E Δ hr hK ha0 => ?_)
  have hu := hu_of hr.toRoom
  exact (dss_cons (ds_asg (de_ix (de_ixN 0 de_int (fun _ _ => rfl)) (de_name 1) (fun _ _ => rfl)) (dg_tup (n := 4) rfl (dgs_cons (dg_name 3 S.nd) (dgs_cons (dg_name 4 S.nd) (dgs_cons (dg_name 5 S.nd) (dgs_cons (dg_name 6 S.nd) dgs_nil))))))
  (dss_cons (ds_if (dt_cmpNL 2 (sc_eq hr.units) de_int (nomark _)) (dss_one (ds_ret (de_tup (da_cons (de_name 3) (da_cons (de_name 4) (da_cons (de_name 5) (da_cons (de_name 6) da_nil))))))) dss_nil)
  (dss_one (ds_ret (de_tup (da_cons (de_name 4) (da_cons (de_name 3) (da_cons (de_name 6) (da_cons (de_name 5) da_nil)))))))))
abbrev npiece_of : List Str := ["web", "room", "met", "waiting", "at", "tie", "side", "other"]
abbrev ppiece_of : List Str := ["web", "room"]
theorem scpiece_of : FnScope npiece_of ppiece_of (defScope spiece_of) := ⟨rfl, rfl, rfl, by decide +kernel, rfl, by decide +kernel, by decide +kernel⟩
theorem kpiece_of {f : Addr} {fd : FuncData} (hKK : K = TabF.K) (hCN : ∀ a, TabF.C a = none) (F : FunD K "piece_of" "piece_of" (defArgs spiece_of) (defBody spiece_of) (defScope spiece_of) [] [] f fd) (hm : mg "piece_of" = some (.ref f)) (b_sorted : mg "sorted" = none) (b_tuple : mg "tuple" = none) (cends_of : CalD P w K mg base 1 "ends_of" Cends_of) (cways_out : CalD P w K mg base 1 "ways_out" Cways_out) : CalD P w K mg base 2 "piece_of" Cpiece_of := by
  have S := scpiece_of
  refine def_ok false F S hm (F.bindsN fun _ _ _ _ _ _ us hl => match us, hl with | [_, _], _ => rfl) wpiece_of lenpiece_of (fun z => nomatch z) specpiece_of (fun cdv A outer s H E Δ hr hK ha0 => ?_)
  have hu := hu_of hr.toRoom
  exact (dss_cons (ds_set 2 S.nd (de_lst (da_cons (de_name 1) da_nil)))
  (dss_cons (ds_set 3 S.nd (de_lst (da_cons (de_name 1) da_nil)))
  (dss_cons (ds_wh PassesOwn.never (dt_truN 3)
  (dss_cons (ds_set 4 S.nd (de_pop 3))
  (dss_one (ds_for PassesOwn.never rfl (di_t (de_callP cways_out hK (hr.mono (by decide)) (by rfl) (da_cons (de_name 0) (da_cons (de_name 4) da_nil)))) (dg_tup (n := 2) rfl (dgs_cons (dg_name 5 S.nd) (dgs_cons (dg_name 6 S.nd) dgs_nil)))
  (dss_cons (ds_set 7 S.nd (de_ix (de_callP cends_of hK (hr.mono (by decide)) (by rfl) (da_cons (de_name 0) (da_cons (de_name 5) (da_cons (de_name 6) da_nil)))) de_int (fun _ _ => rfl)))
  (dss_one (ds_if (dt_cmpNR 2 sc_notin (de_name 7) (by rfl)) (dss_cons (ds_expr (de_app 2 (de_name 7)))
  (dss_one (ds_expr (de_app 3 (de_name 7))))) dss_nil)))))))
  (dss_one (ds_ret (de_ct (cl_tup hK) (by rfl) b_tuple (by decide +kernel) (da_cons (de_cb (cl_sortI hK) (by rfl) b_sorted (by decide +kernel) (da_cons (de_name 2) da_nil)) da_nil)))))))
abbrev nties_of_piece : List Str := ["web", "room", "piece", "number", "tie"]
abbrev pties_of_piece : List Str := ["web", "room"]
theorem scties_of_piece : FnScope nties_of_piece pties_of_piece (defScope sties_of_piece) := ⟨rfl, rfl, rfl, by decide +kernel, rfl, by decide +kernel, by decide +kernel⟩
theorem kties_of_piece {f : Addr} {fd : FuncData} (hKK : K = TabF.K) (hCN : ∀ a, TabF.C a = none) (F : FunD K "ties_of_piece" "ties_of_piece" (defArgs sties_of_piece) (defBody sties_of_piece) (defScope sties_of_piece) [] [] f fd) (hm : mg "ties_of_piece" = some (.ref f)) (b_enumerate : mg "enumerate" = none) (cpiece_of : CalD P w K mg base 2 "piece_of" Cpiece_of) : CalD P w K mg base 3 "ties_of_piece" Cties_of_piece := by
  have S := scties_of_piece
  refine def_ok false F S hm (F.bindsN fun _ _ _ _ _ _ us hl => match us, hl with | [_, _], _ => rfl) wties_of_piece lenties_of_piece (fun z => nomatch z) specties_of_piece (fun cdv A outer s H E Δ hr hK ha0 => ?_)
  have hu := hu_of hr.toRoom
  exact (dss_cons (ds_set 2 S.nd (de_callP cpiece_of hK (hr.mono (by decide)) (by rfl) (da_cons (de_name 0) (da_cons (de_name 1) da_nil))))
  (dss_one (ds_ret (de_lc (own := [("number", 3), ("tie", 4)]) rfl S.nd (di_enT hK (by rfl) b_enumerate (da_cons (de_ixN 0 de_int (fun _ _ => rfl)) da_nil)) (blkOk_by (own := [("number", 3), ("tie", 4)]) (N := nties_of_piece) (sc := defScope sties_of_piece) (by decide +kernel)) (fun _ _ _ _ _ Δ _ => (dg_tup (n := 2) rfl (dgs_cons (dg_name 3 S.nd) (dgs_cons (dg_name 4 S.nd) dgs_nil)))) (fun _ _ _ _ _ Δ e1 => (pts_one (dt_cmpNR 2 sc_in (de_ixN 4 de_int (fun _ _ => rfl)) (by rfl)))) (fun _ _ _ _ _ Δ e2 => (de_name 3))))))
abbrev nways_over : List Str := ["web", "room", "ties", "tie", "side"]
abbrev pways_over : List Str := ["web", "room", "ties"]
theorem scways_over : FnScope nways_over pways_over (defScope sways_over) := ⟨rfl, rfl, rfl, by decide +kernel, rfl, by decide +kernel, by decide +kernel⟩
theorem kways_over {f : Addr} {fd : FuncData} (hKK : K = TabF.K) (hCN : ∀ a, TabF.C a = none) (F : FunD K "ways_over" "ways_over" (defArgs sways_over) (defBody sways_over) (defScope sways_over) [] [] f fd) (hm : mg "ways_over" = some (.ref f)) (cways_out : CalD P w K mg base 1 "ways_out" Cways_out) : CalD P w K mg base 2 "ways_over" Cways_over := by
  have S := scways_over
  refine def_ok false F S hm (F.bindsN fun _ _ _ _ _ _ us hl => match us, hl with | [_, _, _], _ => rfl) wways_over lenways_over (fun z => nomatch z) specways_over (fun cdv A outer s H E Δ hr hK ha0 => ?_)
  have hu := hu_of hr.toRoom
  exact (dss_one (ds_ret (de_lc (own := [("tie", 3), ("side", 4)]) rfl S.nd (di_t (de_callP cways_out hK (hr.mono (by decide)) (by rfl) (da_cons (de_name 0) (da_cons (de_name 1) da_nil)))) (blkOk_by (own := [("tie", 3), ("side", 4)]) (N := nways_over) (sc := defScope sways_over) (by decide +kernel)) (fun _ _ _ _ _ Δ _ => (dg_tup (n := 2) rfl (dgs_cons (dg_name 3 S.nd) (dgs_cons (dg_name 4 S.nd) dgs_nil)))) (fun _ _ _ _ _ Δ e1 => (pts_one (dt_cmpNR 2 sc_in (de_name 3) (by rfl)))) (fun _ _ _ _ _ Δ e2 => (de_tup (da_cons (de_name 3) (da_cons (de_name 4) da_nil)))))))
abbrev nends_at : List Str := ["web", "room", "ties", "tie", "side"]
abbrev pends_at : List Str := ["web", "room", "ties"]
theorem scends_at : FnScope nends_at pends_at (defScope sends_at) := ⟨rfl, rfl, rfl, by decide +kernel, rfl, by decide +kernel, by decide +kernel⟩
theorem kends_at {f : Addr} {fd : FuncData} (hKK : K = TabF.K) (hCN : ∀ a, TabF.C a = none) (F : FunD K "ends_at" "ends_at" (defArgs sends_at) (defBody sends_at) (defScope sends_at) [] [] f fd) (hm : mg "ends_at" = some (.ref f)) (cends_of : CalD P w K mg base 1 "ends_of" Cends_of) (cways_over : CalD P w K mg base 2 "ways_over" Cways_over) : CalD P w K mg base 3 "ends_at" Cends_at := by
  have S := scends_at
  refine def_ok false F S hm (F.bindsN fun _ _ _ _ _ _ us hl => match us, hl with | [_, _, _], _ => rfl) wends_at lenends_at (fun z => nomatch z) specends_at (fun cdv A outer s H E Δ hr hK ha0 => ?_)
  have hu := hu_of hr.toRoom
  exact (dss_one (ds_ret (de_lc (own := [("tie", 3), ("side", 4)]) rfl S.nd (di_l (de_callP cways_over hK (hr.mono (by decide)) (by rfl) (da_cons (de_name 0) (da_cons (de_name 1) (da_cons (de_name 2) da_nil))))) (blkOk_by (own := [("tie", 3), ("side", 4)]) (N := nends_at) (sc := defScope sends_at) (by decide +kernel)) (fun _ _ _ _ _ Δ _ => (dg_tup (n := 2) rfl (dgs_cons (dg_name 3 S.nd) (dgs_cons (dg_name 4 S.nd) dgs_nil)))) (fun _ _ _ _ _ Δ e0 => (dts_nil)) (fun _ _ _ _ _ Δ e1 => (de_ix (de_callP cends_of (e1.trans hK) (hr.mono (by decide)) (by rfl) (da_cons (de_name 0) (da_cons (de_name 3) (da_cons (de_name 4) da_nil)))) de_int (fun _ _ => rfl))))))
abbrev nleast_idle : List Str := ["web", "rooms", "ties", "room"]
abbrev pleast_idle : List Str := ["web", "rooms", "ties"]
theorem scleast_idle : FnScope nleast_idle pleast_idle (defScope sleast_idle) := ⟨rfl, rfl, rfl, by decide +kernel, rfl, by decide +kernel, by decide +kernel⟩
theorem kleast_idle {f : Addr} {fd : FuncData} (hKK : K = TabF.K) (hCN : ∀ a, TabF.C a = none) (F : FunD K "least_idle" "least_idle" (defArgs sleast_idle) (defBody sleast_idle) (defScope sleast_idle) [] [] f fd) (hm : mg "least_idle" = some (.ref f)) (cends_at : CalD P w K mg base 3 "ends_at" Cends_at) : CalD P w K mg base 4 "least_idle" Cleast_idle := by
  have S := scleast_idle
  refine def_ok false F S hm (F.bindsN fun _ _ _ _ _ _ us hl => match us, hl with | [_, _, _], _ => rfl) wleast_idle lenleast_idle (fun z => nomatch z) specleast_idle (fun cdv A outer s H E Δ hr hK ha0 => ?_)
  have hu := hu_of hr.toRoom
  exact (dss_cons (ds_for PassesOwn.never rfl (di_l (de_name 1)) (dg_name 3 S.nd)
  (dss_one (ds_if (dt_cmp (sc_inDD hr.units) (de_callP cends_at hK (hr.mono (by decide)) (by rfl) (da_cons (de_name 0) (da_cons (de_name 3) (da_cons (de_name 2) da_nil)))) (de_tup (da_cons (de_lst (da_cons de_int da_nil)) (da_cons (de_lst (da_cons (de_un do_neg de_int) da_nil)) da_nil))) (by rfl)) (dss_one (ds_ret (de_name 3))) dss_nil)))
  (dss_one (ds_ret de_non)))
abbrev ncore_and_taken : List Str := ["web", "room", "rooms", "ties", "taken", "idle", "tie", "side"]
abbrev pcore_and_taken : List Str := ["web", "room"]
theorem sccore_and_taken : FnScope ncore_and_taken pcore_and_taken (defScope score_and_taken) := ⟨rfl, rfl, rfl, by decide +kernel, rfl, by decide +kernel, by decide +kernel⟩
theorem kcore_and_taken {f : Addr} {fd : FuncData} (hKK : K = TabF.K) (hCN : ∀ a, TabF.C a = none) (F : FunD K "core_and_taken" "core_and_taken" (defArgs score_and_taken) (defBody score_and_taken) (defScope score_and_taken) [] [] f fd) (hm : mg "core_and_taken" = some (.ref f)) (b_list : mg "list" = none) (cleast_idle : CalD P w K mg base 4 "least_idle" Cleast_idle) (cpiece_of : CalD P w K mg base 2 "piece_of" Cpiece_of) (cties_of_piece : CalD P w K mg base 3 "ties_of_piece" Cties_of_piece) (cways_over : CalD P w K mg base 2 "ways_over" Cways_over) : CalD P w K mg base 5 "core_and_taken" Ccore_and_taken := by
  have S := sccore_and_taken
  refine def_ok false F S hm (F.bindsN fun _ _ _ _ _ _ us hl => match us, hl with | [_, _], _ => rfl) wcore_and_taken lencore_and_taken (fun z => nomatch z) speccore_and_taken (fun cdv A outer s H E Δ hr hK ha0 => ?_)
  have hu := hu_of hr.toRoom
  exact (dss_cons (ds_set 2 S.nd (de_ct (cl_lst hK) (by rfl) b_list (by decide +kernel) (da_cons (de_callP cpiece_of hK (hr.mono (by decide)) (by rfl) (da_cons (de_name 0) (da_cons (de_name 1) da_nil))) da_nil)))
  (dss_cons (ds_set 3 S.nd (de_callP cties_of_piece hK (hr.mono (by decide)) (by rfl) (da_cons (de_name 0) (da_cons (de_name 1) da_nil))))
  (dss_cons (ds_set 4 S.nd de_disp0)
  (dss_cons (ds_set 5 S.nd (de_bor 3 (de_bor 2 (de_callP cleast_idle hK (hr.mono (by decide)) (by rfl) (da_cons (de_name 0) (da_cons (de_name 2) (da_cons (de_name 3) da_nil)))))))
  (dss_cons (ds_wh PassesOwn.never (dt_cmpNL 5 sc_notN de_non (nomark _))
  (dss_cons (ds_asg (de_ix (de_bor 3 (de_callP cways_over hK (hr.mono (by decide)) (by rfl) (da_cons (de_name 0) (da_cons (de_name 5) (da_cons (de_name 3) da_nil))))) de_int (fun _ _ => rfl)) (dg_tup (n := 2) rfl (dgs_cons (dg_name 6 S.nd) (dgs_cons (dg_name 7 S.nd) dgs_nil))))
  (dss_cons (ds_dput 4 hr.units (de_tup (da_cons (de_name 6) (da_cons (de_name 7) da_nil))) (de_name 5))
  (dss_cons (ds_expr (de_rem 2 (de_name 5)))
  (dss_cons (ds_expr (de_rem 3 (de_name 6)))
  (dss_one (ds_set 5 S.nd (de_bor 3 (de_bor 2 (de_callP cleast_idle hK (hr.mono (by decide)) (by rfl) (da_cons (de_name 0) (da_cons (de_name 2) (da_cons (de_name 3) da_nil)))))))))))))
  (dss_one (ds_ret (de_tup (da_cons (de_name 2) (da_cons (de_name 3) (da_cons (de_frz 4) da_nil)))))))))))
abbrev nnumbers_of : List Str := ["walk", "step"]
abbrev pnumbers_of : List Str := ["walk"]
theorem scnumbers_of : FnScope nnumbers_of pnumbers_of (defScope snumbers_of) := ⟨rfl, rfl, rfl, by decide +kernel, rfl, by decide +kernel, by decide +kernel⟩
theorem knumbers_of {f : Addr} {fd : FuncData} (hKK : K = TabF.K) (hCN : ∀ a, TabF.C a = none) (F : FunD K "numbers_of" "numbers_of" (defArgs snumbers_of) (defBody snumbers_of) (defScope snumbers_of) [] [] f fd) (hm : mg "numbers_of" = some (.ref f)) : CalD P w K mg base 1 "numbers_of" Cnumbers_of := by
  have S := scnumbers_of
  refine def_ok false F S hm (F.bindsN fun _ _ _ _ _ _ us hl => match us, hl with | [_], _ => rfl) wnumbers_of lennumbers_of (fun z => nomatch z) specnumbers_of (fun cdv A outer s H E Δ hr hK ha0 => ?_)
  have hu := hu_of hr.toRoom
  exact (dss_one (ds_ret (de_op (do_add hK) (de_lst (da_cons (de_ixN 0 de_int (fun _ _ => rfl)) da_nil)) (de_lc (own := [("step", 1)]) rfl S.nd (di_t (de_ixN 0 de_int (fun _ _ => rfl))) (blkOk_by (own := [("step", 1)]) (N := nnumbers_of) (sc := defScope snumbers_of) (by decide +kernel)) (fun _ _ _ _ _ Δ _ => (dg_name 1 S.nd)) (fun _ _ _ _ _ Δ e0 => (dts_nil)) (fun _ _ _ _ _ Δ e1 => (de_ixN 1 de_int (fun _ _ => rfl)))))))
abbrev ncrossings_of : List Str := ["walk", "tie", "side", "_"]
abbrev pcrossings_of : List Str := ["walk"]
theorem sccrossings_of : FnScope ncrossings_of pcrossings_of (defScope scrossings_of) := ⟨rfl, rfl, rfl, by decide +kernel, rfl, by decide +kernel, by decide +kernel⟩
theorem kcrossings_of {f : Addr} {fd : FuncData} (hKK : K = TabF.K) (hCN : ∀ a, TabF.C a = none) (F : FunD K "crossings_of" "crossings_of" (defArgs scrossings_of) (defBody scrossings_of) (defScope scrossings_of) [] [] f fd) (hm : mg "crossings_of" = some (.ref f)) : CalD P w K mg base 1 "crossings_of" Ccrossings_of := by
  have S := sccrossings_of
  refine def_ok false F S hm (F.bindsN fun _ _ _ _ _ _ us hl => match us, hl with | [_], _ => rfl) wcrossings_of lencrossings_of (fun z => nomatch z) speccrossings_of (fun cdv A outer s H E Δ hr hK ha0 => ?_)
  have hu := hu_of hr.toRoom
  exact (dss_one (ds_ret (de_lc (own := [("tie", 1), ("side", 2), ("_", 3)]) rfl S.nd (di_t (de_ixN 0 de_int (fun _ _ => rfl))) (blkOk_by (own := [("tie", 1), ("side", 2), ("_", 3)]) (N := ncrossings_of) (sc := defScope scrossings_of) (by decide +kernel)) (fun _ _ _ _ _ Δ _ => (dg_tup (n := 3) rfl (dgs_cons (dg_name 1 S.nd) (dgs_cons (dg_name 2 S.nd) (dgs_cons (dg_name 3 S.nd) dgs_nil))))) (fun _ _ _ _ _ Δ e0 => (dts_nil)) (fun _ _ _ _ _ Δ e1 => (de_tup (da_cons (de_name 1) (da_cons (de_name 2) da_nil)))))))
abbrev nwalk_with : List Str := ["room", "numbers", "crossings", "steps", "turns", "tie", "side"]
abbrev pwalk_with : List Str := ["room", "numbers", "crossings"]
theorem scwalk_with : FnScope nwalk_with pwalk_with (defScope swalk_with) := ⟨rfl, rfl, rfl, by decide +kernel, rfl, by decide +kernel, by decide +kernel⟩
theorem kwalk_with {f : Addr} {fd : FuncData} (hKK : K = TabF.K) (hCN : ∀ a, TabF.C a = none) (F : FunD K "walk_with" "walk_with" (defArgs swalk_with) (defBody swalk_with) (defScope swalk_with) [] [] f fd) (hm : mg "walk_with" = some (.ref f)) (b_tuple : mg "tuple" = none) (b_zip : mg "zip" = none) : CalD P w K mg base 1 "walk_with" Cwalk_with := by
  have S := scwalk_with
  refine def_ok false F S hm (F.bindsN fun _ _ _ _ _ _ us hl => match us, hl with | [_, _, _], _ => rfl) wwalk_with lenwalk_with (fun z => nomatch z) specwalk_with (fun cdv A outer s H E Δ hr hK ha0 => ?_)
  have hu := hu_of hr.toRoom
  exact (dss_cons (ds_setLc (own := [("turns", 4), ("tie", 5), ("side", 6)]) 3 rfl rfl rfl (sw_true rfl rfl rfl (by decide +kernel)) S.nd (di_z (by rfl) b_zip (da_cons (de_name 2) (da_cons (de_slN 1 (do_some de_int) do_none) da_nil))) (blkOk_by (own := [("turns", 4), ("tie", 5), ("side", 6)]) (N := nwalk_with) (sc := defScope swalk_with) (by decide +kernel)) (fun _ _ _ _ _ Δ _ => (dg_tup (n := 2) rfl (dgs_cons (dg_tup (n := 2) rfl (dgs_cons (dg_name 5 S.nd) (dgs_cons (dg_name 6 S.nd) dgs_nil))) (dgs_cons (dg_name 4 S.nd) dgs_nil)))) (fun _ _ _ _ _ Δ e0 => (dts_nil)) (fun _ _ _ _ _ Δ e1 => (de_tup (da_cons (de_name 5) (da_cons (de_name 6) (da_cons (de_name 4) da_nil))))))
  (dss_one (ds_ret (de_tup (da_cons (de_name 0) (da_cons (de_ixN 1 de_int (fun _ _ => rfl)) (da_cons (de_ct (cl_tup hK) (by rfl) b_tuple (by decide +kernel) (da_cons (de_name 3) da_nil)) da_nil)))))))
abbrev njoined_of_any_size : List Str := ["walks", "numbers", "crossings", "walk"]
abbrev pjoined_of_any_size : List Str := ["walks"]
theorem scjoined_of_any_size : FnScope njoined_of_any_size pjoined_of_any_size (defScope sjoined_of_any_size) := ⟨rfl, rfl, rfl, by decide +kernel, rfl, by decide +kernel, by decide +kernel⟩
theorem kjoined_of_any_size {f : Addr} {fd : FuncData} (hKK : K = TabF.K) (hCN : ∀ a, TabF.C a = none) (F : FunD K "joined_of_any_size" "joined_of_any_size" (defArgs sjoined_of_any_size) (defBody sjoined_of_any_size) (defScope sjoined_of_any_size) [] [] f fd) (hm : mg "joined_of_any_size" = some (.ref f)) (ccrossings_of : CalD P w K mg base 1 "crossings_of" Ccrossings_of) (cnumbers_of : CalD P w K mg base 1 "numbers_of" Cnumbers_of) (cwalk_with : CalD P w K mg base 1 "walk_with" Cwalk_with) : CalD P w K mg base 2 "joined_of_any_size" Cjoined_of_any_size := by
  have S := scjoined_of_any_size
  refine def_ok false F S hm (F.bindsN fun _ _ _ _ _ _ us hl => match us, hl with | [_], _ => rfl) wjoined_of_any_size lenjoined_of_any_size (fun z => nomatch z) specjoined_of_any_size (fun cdv A outer s H E Δ hr hK ha0 => ?_)
  have hu := hu_of hr.toRoom
  exact (dss_cons (ds_set 1 S.nd (de_callP cnumbers_of hK (hr.mono (by decide)) (by rfl) (da_cons (de_ixN 0 de_int (fun _ _ => rfl)) da_nil)))
  (dss_cons (ds_set 2 S.nd (de_callP ccrossings_of hK (hr.mono (by decide)) (by rfl) (da_cons (de_ixN 0 de_int (fun _ _ => rfl)) da_nil)))
  (dss_cons (ds_for PassesOwn.never rfl (di_l (de_slN 0 (do_some de_int) do_none)) (dg_name 3 S.nd)
  (dss_cons (ds_setIM 1 (de_un do_neg de_int) (de_ixN 3 de_int (fun _ _ => rfl)) ip_add)
  (dss_cons (ds_expr (de_ext 1 (de_sl (de_callP cnumbers_of hK (hr.mono (by decide)) (by rfl) (da_cons (de_name 3) da_nil)) (do_some de_int) do_none)))
  (dss_one (ds_expr (de_ext 2 (de_callP ccrossings_of hK (hr.mono (by decide)) (by rfl) (da_cons (de_name 3) da_nil))))))))
  (dss_one (ds_ret (de_callP cwalk_with hK (hr.mono (by decide)) (by rfl) (da_cons (de_ix (de_ixN 0 de_int (fun _ _ => rfl)) de_int (fun _ _ => rfl)) (da_cons (de_name 1) (da_cons (de_name 2) da_nil)))))))))
abbrev nhome_of : List Str := ["web", "room", "taken", "walks", "turns", "at", "tie", "side", "_", "ahead", "behind"]
abbrev phome_of : List Str := ["web", "room"]
theorem schome_of : FnScope nhome_of phome_of (defScope shome_of) := ⟨rfl, rfl, rfl, by decide +kernel, rfl, by decide +kernel, by decide +kernel⟩
theorem khome_of {f : Addr} {fd : FuncData} (hKK : K = TabF.K) (hCN : ∀ a, TabF.C a = none) (F : FunD K "home_of" "home_of" (defArgs shome_of) (defBody shome_of) (defScope shome_of) [] [] f fd) (hm : mg "home_of" = some (.ref f)) (ccore_and_taken : CalD P w K mg base 5 "core_and_taken" Ccore_and_taken) (cends_of : CalD P w K mg base 1 "ends_of" Cends_of) (cjoined_of_any_size : CalD P w K mg base 2 "joined_of_any_size" Cjoined_of_any_size) : CalD P w K mg base 6 "home_of" Chome_of := by
  have S := schome_of
  refine def_ok false F S hm (F.bindsN fun _ _ _ _ _ _ us hl => match us, hl with | [_, _], _ => rfl) whome_of lenhome_of (fun z => nomatch z) spechome_of (fun cdv A outer s H E Δ hr hK ha0 => ?_)
  have hu := hu_of hr.toRoom
  exact (dss_cons (ds_set 2 S.nd (de_ix (de_callP ccore_and_taken hK (hr.mono (by decide)) (by rfl) (da_cons (de_name 0) (da_cons (de_name 1) da_nil))) de_int (fun _ _ => rfl)))
  (dss_cons (ds_set 3 S.nd (de_lst (da_cons (de_tup (da_cons (de_name 1) (da_cons de_int (da_cons (de_tup da_nil) da_nil)))) da_nil)))
  (dss_cons (ds_set 4 S.nd de_int)
  (dss_cons (ds_set 5 S.nd (de_name 1))
  (dss_cons (ds_wh PassesOwn.never (dt_dinF 2 hr.units (de_name 5))
  (dss_cons (ds_asg (de_dixF (hs := fun _ _ => rfl) 2 hr.units (de_name 5)) (dg_tup (n := 2) rfl (dgs_cons (dg_name 6 S.nd) (dgs_cons (dg_name 7 S.nd) dgs_nil))))
  (dss_cons (ds_expr (de_app 3 (de_tup (da_cons (de_name 5) (da_cons de_int (da_cons (de_tup (da_cons (de_tup (da_cons (de_name 6) (da_cons (de_name 7) (da_cons de_int da_nil)))) da_nil)) da_nil))))))
  (dss_cons (ds_asg (de_callP cends_of hK (hr.mono (by decide)) (by rfl) (da_cons (de_name 0) (da_cons (de_name 6) (da_cons (de_name 7) da_nil)))) (dg_tup (n := 4) rfl (dgs_cons (dg_name 8 S.nd) (dgs_cons (dg_name 5 S.nd) (dgs_cons (dg_name 9 S.nd) (dgs_cons (dg_name 10 S.nd) dgs_nil))))))
  (dss_one (ds_aug 4 S.nd (de_op do_mul' (de_name 9) (de_name 10)) di_mul'))))))
  (dss_one (ds_ret (de_tup (da_cons (de_callP cjoined_of_any_size hK (hr.mono (by decide)) (by rfl) (da_cons (de_name 3) da_nil)) (da_cons (de_name 4) da_nil))))))))))
abbrev n_law_joined : List Str := ["one", "two", "tie", "side", "number"]
abbrev p_law_joined : List Str := ["one", "two"]
theorem sc_law_joined : FnScope n_law_joined p_law_joined (defScope s_law_joined) := ⟨rfl, rfl, rfl, by decide +kernel, rfl, by decide +kernel, by decide +kernel⟩
theorem k_law_joined {f : Addr} {fd : FuncData} (hKK : K = TabF.K) (hCN : ∀ a, TabF.C a = none) (F : FunD K "_law_joined" "_law_joined" (defArgs s_law_joined) (defBody s_law_joined) (defScope s_law_joined) [] [] f fd) (hm : mg "_law_joined" = some (.ref f)) : CalD P w K mg base 1 "_law_joined" C_law_joined := by
  have S := sc_law_joined
  refine def_ok false F S hm (F.bindsN fun _ _ _ _ _ _ us hl => match us, hl with | [_, _], _ => rfl) w_law_joined len_law_joined (fun z => nomatch z) spec_law_joined (fun cdv A outer s H E Δ hr hK ha0 => ?_)
  have hu := hu_of hr.toRoom
  exact (dss_cons (ds_if (dt_cmp (sc_eq hr.units) (de_ixN 0 de_int (fun _ _ => rfl)) (de_tup da_nil) (nomark _)) (dss_one (ds_ret (de_tup (da_cons (de_ixN 0 de_int (fun _ _ => rfl)) (da_cons (de_op (do_add hK) (de_ixN 0 de_int (fun _ _ => rfl)) (de_ixN 1 de_int (fun _ _ => rfl))) (da_cons (de_ixN 1 de_int (fun _ _ => rfl)) da_nil)))))) dss_nil)
  (dss_cons (ds_asg (de_ix (de_ixN 0 de_int (fun _ _ => rfl)) (de_un do_neg de_int) (fun _ _ => rfl)) (dg_tup (n := 3) rfl (dgs_cons (dg_name 2 S.nd) (dgs_cons (dg_name 3 S.nd) (dgs_cons (dg_name 4 S.nd) dgs_nil)))))
  (dss_one (ds_ret (de_tup (da_cons (de_ixN 0 de_int (fun _ _ => rfl)) (da_cons (de_ixN 0 de_int (fun _ _ => rfl)) (da_cons (de_op (do_add hK) (de_op (do_add hK) (de_sl (de_ixN 0 de_int (fun _ _ => rfl)) do_none (do_some (de_un do_neg de_int))) (de_tup (da_cons (de_tup (da_cons (de_name 2) (da_cons (de_name 3) (da_cons (de_addN 4 hK (de_ixN 1 de_int (fun _ _ => rfl))) da_nil)))) da_nil))) (de_ixN 1 de_int (fun _ _ => rfl))) da_nil))))))))
abbrev ngo_along : List Str := ["web", "walk", "room", "turns", "steps", "kept", "moves", "made", "tie", "side", "following", "_", "ahead", "behind", "left", "many", "numbers", "plain"]
abbrev pgo_along : List Str := ["web", "walk"]
theorem scgo_along : FnScope ngo_along pgo_along (defScope sgo_along) := ⟨rfl, rfl, rfl, by decide +kernel, rfl, by decide +kernel, by decide +kernel⟩
theorem kgo_along {f : Addr} {fd : FuncData} (hKK : K = TabF.K) (hCN : ∀ a, TabF.C a = none) (F : FunD K "go_along" "go_along" (defArgs sgo_along) (defBody sgo_along) (defScope sgo_along) [] [] f fd) (hm : mg "go_along" = some (.ref f)) (b_abs : mg "abs" = none) (b_len : mg "len" = none) (b_tuple : mg "tuple" = none) (cends_of : CalD P w K mg base 1 "ends_of" Cends_of) (cwalk_with : CalD P w K mg base 1 "walk_with" Cwalk_with) : CalD P w K mg base 2 "go_along" Cgo_along := by
  have S := scgo_along
  refine def_ok false F S hm (F.bindsN fun _ _ _ _ _ _ us hl => match us, hl with | [_, _], _ => rfl) wgo_along lengo_along (fun z => nomatch z) specgo_along (fun cdv A outer s H E Δ hr hK ha0 => ?_)
  have hu := hu_of hr.toRoom
  exact (dss_cons (ds_asg (de_name 1) (dg_tup (n := 3) rfl (dgs_cons (dg_name 2 S.nd) (dgs_cons (dg_name 3 S.nd) (dgs_cons (dg_name 4 S.nd) dgs_nil)))))
  (dss_cons (ds_set 5 S.nd (de_lst da_nil))
  (dss_cons (ds_set 6 S.nd (de_lst da_nil))
  (dss_cons (ds_set 7 S.nd (de_lst da_nil))
  (dss_cons (ds_for PassesOwn.never rfl (di_t (de_name 4)) (dg_tup (n := 3) rfl (dgs_cons (dg_name 8 S.nd) (dgs_cons (dg_name 9 S.nd) (dgs_cons (dg_name 10 S.nd) dgs_nil))))
  (dss_cons (ds_asg (de_callP cends_of hK (hr.mono (by decide)) (by rfl) (da_cons (de_name 0) (da_cons (de_name 8) (da_cons (de_name 9) da_nil)))) (dg_tup (n := 4) rfl (dgs_cons (dg_name 11 S.nd) (dgs_cons (dg_name 11 S.nd) (dgs_cons (dg_name 12 S.nd) (dgs_cons (dg_name 13 S.nd) dgs_nil))))))
  (dss_cons (ds_set 14 S.nd (de_op do_mod' (de_name 3) (de_cb cl_abs (by rfl) b_abs (by decide +kernel) (da_cons (de_name 12) da_nil))))
  (dss_cons (ds_set 15 S.nd (de_op do_fdiv' (de_op do_sub' (de_name 3) (de_name 14)) (de_name 12)))
  (dss_cons (ds_set 3 S.nd (de_op (do_add hK) (de_op do_mul' (de_name 13) (de_name 15)) (de_name 10)))
  (dss_cons (ds_if (dt_cmpNL 15 (sc_ne hr.units) de_int (nomark _)) (dss_cons (ds_expr (de_app 6 (de_tup (da_cons de_str (da_cons (de_op (do_add hK) (de_lenN 5 rfl (by rfl) b_len (by decide +kernel)) de_int) (da_cons (de_name 15) da_nil))))))
  (dss_one (ds_expr (de_app 7 (de_name 3))))) dss_nil)
  (dss_one (ds_if (PW.pt (dw_and (dt_cmpNL 14 (sc_eq hr.units) de_int (nomark _)) (dw_and (dt_truN 5) (dw_and1 (dt_cmp (sc_eq hr.units) (de_sl (de_ixN 5 (de_un do_neg de_int) (fun _ _ => rfl)) do_none (do_some de_int)) (de_tup (da_cons (de_name 8) (da_cons (de_un do_neg (de_name 9)) da_nil))) (nomark _)))))) (dss_cons (ds_expr (de_app 6 (de_tup (da_cons de_str (da_cons (de_lenN 5 rfl (by rfl) b_len (by decide +kernel)) da_nil)))))
  (dss_cons (ds_aug 3 S.nd (de_ix (de_pop 5) de_int (fun _ _ => rfl)) di_add')
  (dss_one (ds_expr (de_app 7 (de_name 3)))))) (dss_one (ds_expr (de_app 5 (de_tup (da_cons (de_name 8) (da_cons (de_name 9) (da_cons (de_name 14) da_nil)))))))))))))))
  (dss_cons (ds_set 16 S.nd (de_op (do_add hK) (de_lc (own := [("_", 11), ("_", 11), ("left", 14)]) rfl S.nd (di_l (de_name 5)) (blkOk_by (own := [("_", 11), ("_", 11), ("left", 14)]) (N := ngo_along) (sc := defScope sgo_along) (by decide +kernel)) (fun _ _ _ _ _ Δ _ => (dg_tup (n := 3) rfl (dgs_cons (dg_name 11 S.nd) (dgs_cons (dg_name 11 S.nd) (dgs_cons (dg_name 14 S.nd) dgs_nil))))) (fun _ _ _ _ _ Δ e0 => (dts_nil)) (fun _ _ _ _ _ Δ e1 => (de_name 14))) (de_lst (da_cons (de_name 3) da_nil))))
  (dss_cons (ds_set 17 S.nd (de_callP cwalk_with hK (hr.mono (by decide)) (by rfl) (da_cons (de_name 2) (da_cons (de_name 16) (da_cons (de_lc (own := [("tie", 8), ("side", 9), ("_", 11)]) rfl S.nd (di_l (de_name 5)) (blkOk_by (own := [("tie", 8), ("side", 9), ("_", 11)]) (N := ngo_along) (sc := defScope sgo_along) (by decide +kernel)) (fun _ _ _ _ _ Δ _ => (dg_tup (n := 3) rfl (dgs_cons (dg_name 8 S.nd) (dgs_cons (dg_name 9 S.nd) (dgs_cons (dg_name 11 S.nd) dgs_nil))))) (fun _ _ _ _ _ Δ e0 => (dts_nil)) (fun _ _ _ _ _ Δ e2 => (de_tup (da_cons (de_name 8) (da_cons (de_name 9) da_nil))))) da_nil)))))
  (dss_one (ds_ret (de_tup (da_cons (de_name 17) (da_cons (de_ct (cl_tup hK) (by rfl) b_tuple (by decide +kernel) (da_cons (de_name 6) da_nil)) (da_cons (de_name 7) da_nil)))))))))))))
abbrev nplain_of_any_size : List Str := ["web", "walk"]
abbrev pplain_of_any_size : List Str := ["web", "walk"]
theorem scplain_of_any_size : FnScope nplain_of_any_size pplain_of_any_size (defScope splain_of_any_size) := ⟨rfl, rfl, rfl, by decide +kernel, rfl, by decide +kernel, by decide +kernel⟩
theorem kplain_of_any_size {f : Addr} {fd : FuncData} (hKK : K = TabF.K) (hCN : ∀ a, TabF.C a = none) (F : FunD K "plain_of_any_size" "plain_of_any_size" (defArgs splain_of_any_size) (defBody splain_of_any_size) (defScope splain_of_any_size) [] [] f fd) (hm : mg "plain_of_any_size" = some (.ref f)) (cgo_along : CalD P w K mg base 2 "go_along" Cgo_along) : CalD P w K mg base 3 "plain_of_any_size" Cplain_of_any_size := by
  have S := scplain_of_any_size
  refine def_ok false F S hm (F.bindsN fun _ _ _ _ _ _ us hl => match us, hl with | [_, _], _ => rfl) wplain_of_any_size lenplain_of_any_size (fun z => nomatch z) specplain_of_any_size (fun cdv A outer s H E Δ hr hK ha0 => ?_)
  have hu := hu_of hr.toRoom
  exact (dss_one (ds_ret (de_ix (de_callP cgo_along hK (hr.mono (by decide)) (by rfl) (da_cons (de_name 0) (da_cons (de_name 1) da_nil))) de_int (fun _ _ => rfl))))
abbrev nare_equal : List Str := ["web", "first", "second"]
abbrev pare_equal : List Str := ["web", "first", "second"]
theorem scare_equal : FnScope nare_equal pare_equal (defScope sare_equal) := ⟨rfl, rfl, rfl, by decide +kernel, rfl, by decide +kernel, by decide +kernel⟩
theorem kare_equal {f : Addr} {fd : FuncData} (hKK : K = TabF.K) (hCN : ∀ a, TabF.C a = none) (F : FunD K "are_equal" "are_equal" (defArgs sare_equal) (defBody sare_equal) (defScope sare_equal) [] [] f fd) (hm : mg "are_equal" = some (.ref f)) (cplain_of_any_size : CalD P w K mg base 3 "plain_of_any_size" Cplain_of_any_size) : CalD P w K mg base 4 "are_equal" Care_equal := by
  have S := scare_equal
  refine def_ok false F S hm (F.bindsN fun _ _ _ _ _ _ us hl => match us, hl with | [_, _, _], _ => rfl) ware_equal lenare_equal (fun z => nomatch z) specare_equal (fun cdv A outer s H E Δ hr hK ha0 => ?_)
  have hu := hu_of hr.toRoom
  exact (dss_one (ds_ret (de_cmp' (sc_eq hr.units) (de_callP cplain_of_any_size hK (hr.mono (by decide)) (by rfl) (da_cons (de_name 0) (da_cons (de_name 1) da_nil))) (de_callP cplain_of_any_size hK (hr.mono (by decide)) (by rfl) (da_cons (de_name 0) (da_cons (de_name 2) da_nil))) (nomark _))))
abbrev ncore_of : List Str := ["web", "room", "rooms", "ties", "_"]
abbrev pcore_of : List Str := ["web", "room"]
theorem sccore_of : FnScope ncore_of pcore_of (defScope score_of) := ⟨rfl, rfl, rfl, by decide +kernel, rfl, by decide +kernel, by decide +kernel⟩
theorem kcore_of {f : Addr} {fd : FuncData} (hKK : K = TabF.K) (hCN : ∀ a, TabF.C a = none) (F : FunD K "core_of" "core_of" (defArgs score_of) (defBody score_of) (defScope score_of) [] [] f fd) (hm : mg "core_of" = some (.ref f)) (b_tuple : mg "tuple" = none) (ccore_and_taken : CalD P w K mg base 5 "core_and_taken" Ccore_and_taken) : CalD P w K mg base 6 "core_of" Ccore_of := by
  have S := sccore_of
  refine def_ok false F S hm (F.bindsN fun _ _ _ _ _ _ us hl => match us, hl with | [_, _], _ => rfl) wcore_of lencore_of (fun z => nomatch z) speccore_of (fun cdv A outer s H E Δ hr hK ha0 => ?_)
  have hu := hu_of hr.toRoom
  exact (dss_cons (ds_asg (de_callP ccore_and_taken hK (hr.mono (by decide)) (by rfl) (da_cons (de_name 0) (da_cons (de_name 1) da_nil))) (dg_tup (n := 3) rfl (dgs_cons (dg_name 2 S.nd) (dgs_cons (dg_name 3 S.nd) (dgs_cons (dg_name 4 S.nd) dgs_nil)))))
  (dss_one (ds_ret (de_tup (da_cons (de_ct (cl_tup hK) (by rfl) b_tuple (by decide +kernel) (da_cons (de_name 2) da_nil)) (da_cons (de_ct (cl_tup hK) (by rfl) b_tuple (by decide +kernel) (da_cons (de_name 3) da_nil)) da_nil))))))
abbrev n_law_end : List Str := ["web", "walk", "tie", "side", "number"]
abbrev p_law_end : List Str := ["web", "walk"]
theorem sc_law_end : FnScope n_law_end p_law_end (defScope s_law_end) := ⟨rfl, rfl, rfl, by decide +kernel, rfl, by decide +kernel, by decide +kernel⟩
theorem k_law_end {f : Addr} {fd : FuncData} (hKK : K = TabF.K) (hCN : ∀ a, TabF.C a = none) (F : FunD K "_law_end" "_law_end" (defArgs s_law_end) (defBody s_law_end) (defScope s_law_end) [] [] f fd) (hm : mg "_law_end" = some (.ref f)) (c_law_ends : CalD P w K mg base 1 "_law_ends" C_law_ends) : CalD P w K mg base 2 "_law_end" C_law_end := by
  have S := sc_law_end
  refine def_ok false F S hm (F.bindsN fun _ _ _ _ _ _ us hl => match us, hl with | [_, _], _ => rfl) w_law_end len_law_end (fun z => nomatch z) spec_law_end (fun cdv A outer s H E Δ hr hK ha0 => ?_)
  have hu := hu_of hr.toRoom
  exact (dss_cons (ds_if (dt_cmp (sc_eq hr.units) (de_ixN 1 de_int (fun _ _ => rfl)) (de_tup da_nil) (nomark _)) (dss_one (ds_ret (de_ixN 1 de_int (fun _ _ => rfl)))) dss_nil)
  (dss_cons (ds_asg (de_ix (de_ixN 1 de_int (fun _ _ => rfl)) (de_un do_neg de_int) (fun _ _ => rfl)) (dg_tup (n := 3) rfl (dgs_cons (dg_name 2 S.nd) (dgs_cons (dg_name 3 S.nd) (dgs_cons (dg_name 4 S.nd) dgs_nil)))))
  (dss_one (ds_ret (de_ix (de_callP c_law_ends hK (hr.mono (by decide)) (by rfl) (da_cons (de_name 0) (da_cons (de_name 2) (da_cons (de_name 3) da_nil)))) de_int (fun _ _ => rfl))))))
abbrev n_law_right : List Str := ["m", "rooms", "ties", "web", "room", "left", "kept", "gone", "walk", "number", "told", "ahead"]
abbrev p_law_right : List Str := ["m"]
theorem sc_law_right : FnScope n_law_right p_law_right (defScope s_law_right) := ⟨rfl, rfl, rfl, by decide +kernel, rfl, by decide +kernel, by decide +kernel⟩
theorem k_law_right {f : Addr} {fd : FuncData} (hKK : K = TabF.K) (hCN : ∀ a, TabF.C a = none) (F : FunD K "_law_right" "_law_right" (defArgs s_law_right) (defBody s_law_right) (defScope s_law_right) [] [] f fd) (hm : mg "_law_right" = some (.ref f)) (b_range : mg "range" = none) (b_repr : mg "repr" = none) (b_tuple : mg "tuple" = none) (c_law_bared : CalD P w K mg base 3 "_law_bared" C_law_bared) (c_law_core : CalD P w K mg base 4 "_law_core" C_law_core) (c_law_draw : CalD P w K mg base 1 "_law_draw" C_law_draw) (c_law_end : CalD P w K mg base 2 "_law_end" C_law_end) (c_law_home_in : CalD P w K mg base 2 "_law_home_in" C_law_home_in) (c_law_joined : CalD P w K mg base 1 "_law_joined" C_law_joined) (c_law_of : CalD P w K mg base 2 "_law_of" C_law_of) (c_law_web : CalD P w K mg base 3 "_law_web" C_law_web) (care_equal : CalD P w K mg base 4 "are_equal" Care_equal) (ccore_of : CalD P w K mg base 6 "core_of" Ccore_of) (chome_of : CalD P w K mg base 6 "home_of" Chome_of) : CalD P w K mg base 7 "_law_right" C_law_right := by
  have S := sc_law_right
  refine def_ok false F S hm (F.bindsN fun _ _ _ _ _ _ us hl => match us, hl with | [_], _ => rfl) w_law_right len_law_right (fun z => nomatch z) spec_law_right (fun cdv A outer s H E Δ hr hK ha0 => ?_)
  have hu := hu_of hr.toRoom
  exact (dss_cons (ds_set 1 S.nd (de_op (do_add hK) de_int (de_callG c_law_draw hK (hr.mono (by decide)) (by rfl) (da_cons (de_name 0) (da_cons de_int da_nil)))))
  (dss_cons (ds_set 2 S.nd (de_callG c_law_of hK (hr.mono (by decide)) (by rfl) (da_cons (de_name 0) (da_cons (de_lst (da_cons (de_op do_sub' (de_name 1) de_int) (da_cons (de_op do_sub' (de_name 1) de_int) (da_cons (de_name 1) (da_cons (de_name 1) (da_cons (de_callG c_law_draw hK (hr.mono (by decide)) (by rfl) (da_cons (de_name 0) (da_cons de_int da_nil))) da_nil)))))) da_nil))))
  (dss_cons (ds_set 3 S.nd (de_callG c_law_bared hK (hr.mono (by decide)) (by rfl) (da_cons (de_name 0) (da_cons (de_callG c_law_web hK (hr.mono (by decide)) (by rfl) (da_cons (de_name 0) (da_cons (de_name 1) (da_cons (de_name 2) (da_cons (de_callG c_law_of hK (hr.mono (by decide)) (by rfl) (da_cons (de_name 0) (da_cons (de_lst (da_cons de_int (da_cons de_int da_nil))) da_nil))) da_nil))))) da_nil))))
  (dss_cons (ds_for PassesOwn.never rfl (di_r1 (by rfl) b_range (da_cons (de_name 1) da_nil)) (dg_name 4 S.nd)
  (dss_cons (ds_asg (de_callP c_law_core hK (hr.mono (by decide)) (by rfl) (da_cons (de_name 3) (da_cons (de_name 4) da_nil))) (dg_tup (n := 3) rfl (dgs_cons (dg_name 5 S.nd) (dgs_cons (dg_name 6 S.nd) (dgs_cons (dg_name 7 S.nd) dgs_nil)))))
  (dss_cons (ds_if (dt_cmp (sc_ne hr.units) (de_cb (cl_reprM hr hK) (by rfl) b_repr (by decide +kernel) (da_cons (de_callP ccore_of hK (hr.mono (by decide)) (by rfl) (da_cons (de_name 3) (da_cons (de_name 4) da_nil))) da_nil)) (de_cb (cl_reprM hr hK) (by rfl) b_repr (by decide +kernel) (da_cons (de_tup (da_cons (de_ct (cl_tup hK) (by rfl) b_tuple (by decide +kernel) (da_cons (de_name 5) da_nil)) (da_cons (de_ct (cl_tup hK) (by rfl) b_tuple (by decide +kernel) (da_cons (de_name 6) da_nil)) da_nil))) da_nil)) (nomark _)) (dss_one (ds_ret de_bl)) dss_nil)
  (dss_cons (ds_asg (de_callP c_law_home_in hK (hr.mono (by decide)) (by rfl) (da_cons (de_name 3) (da_cons (de_name 7) (da_cons (de_name 4) da_nil)))) (dg_tup (n := 2) rfl (dgs_cons (dg_name 8 S.nd) (dgs_cons (dg_name 9 S.nd) dgs_nil))))
  (dss_cons (ds_set 10 S.nd (de_callP chome_of hK (hr.mono (by decide)) (by rfl) (da_cons (de_name 3) (da_cons (de_name 4) da_nil))))
  (dss_cons (ds_if (dt_cmp (sc_ne hr.units) (de_cb (cl_reprM hr hK) (by rfl) b_repr (by decide +kernel) (da_cons (de_name 10) da_nil)) (de_cb (cl_reprM hr hK) (by rfl) b_repr (by decide +kernel) (da_cons (de_tup (da_cons (de_name 8) (da_cons (de_name 9) da_nil))) da_nil)) (nomark _)) (dss_one (ds_ret de_bl)) dss_nil)
  (dss_cons (ds_set 11 S.nd (de_callP c_law_joined hK (hr.mono (by decide)) (by rfl) (da_cons (de_tup (da_cons (de_name 4) (da_cons de_int (da_cons (de_tup da_nil) da_nil)))) (da_cons (de_name 8) da_nil))))
  (dss_one (ds_if (dt_cmp sc_notB (de_callP care_equal hK (hr.mono (by decide)) (by rfl) (da_cons (de_name 3) (da_cons (de_name 11) (da_cons (de_callP c_law_joined hK (hr.mono (by decide)) (by rfl) (da_cons (de_name 8) (da_cons (de_tup (da_cons (de_callP c_law_end hK (hr.mono (by decide)) (by rfl) (da_cons (de_name 3) (da_cons (de_name 8) da_nil))) (da_cons (de_name 9) (da_cons (de_tup da_nil) da_nil)))) da_nil))) da_nil)))) de_bl (nomark _)) (dss_one (ds_ret de_bl)) dss_nil)))))))))
  (dss_one (ds_ret de_bl))))))
abbrev nlaw : List Str := ["script", "k", "m"]
abbrev plaw : List Str := ["script"]
theorem sclaw : FnScope nlaw plaw (defScope slaw) := ⟨rfl, rfl, rfl, by decide +kernel, rfl, by decide +kernel, by decide +kernel⟩
theorem klaw {f : Addr} {fd : FuncData} (hKK : K = TabF.K) (hCN : ∀ a, TabF.C a = none) (F : FunD K "law" "law" (defArgs slaw) (defBody slaw) (defScope slaw) [] [] f fd) (hm : mg "law" = some (.ref f)) (b_len : mg "len" = none) (b_min : mg "min" = none) (b_range : mg "range" = none) (c_law_begun : CalD P w K mg base 1 "_law_begun" C_law_begun) (c_law_right : CalD P w K mg base 7 "_law_right" C_law_right) : FnG P w K mg base CX0 8 f fd ["script"] (spD K Claw) := by
  have S := sclaw
  refine def_fn true F S hm (F.bindsN fun _ _ _ _ _ _ us hl => match us, hl with | [_], _ => rfl) wlaw lenlaw (fun _ => noglaw) speclaw (fun cdv A outer s H E Δ hr hK ha0 => ?_)
  have hu := hu_of hr.toRoom
  exact (dss_cons (ds_for PassesOwn.never rfl (di_r1 (by rfl) b_range (da_cons (de_op (do_add hK) de_int (de_cb (cl_min2 rfl) (by rfl) b_min (by decide +kernel) (da_cons (de_cb (cl_len hK) (by rfl) b_len (by decide +kernel) (da_cons (de_name 0) da_nil)) (da_cons de_int da_nil)))) da_nil)) (dg_name 1 S.nd)
  (dss_cons (ds_setG 2 (ha0 rfl) c_law_begun hK (hr.mono (by decide)) (by rfl) S.nd (da_cons (de_name 0) (da_cons (de_name 1) da_nil)))
  (dss_one (ds_if (PW.pt (dw_or (dt_not (dt_tru (de_callG c_law_right hK (hr.mono (by decide)) (by rfl) (da_cons (de_name 2) da_nil)))) (dw_or1 (dt_not (dt_tru (de_callG c_law_right hK (hr.mono (by decide)) (by rfl) (da_cons (de_name 2) da_nil))))))) (dss_one (ds_ret de_bl)) dss_nil))))
  (dss_one (ds_ret de_bl)))
end
end K
set_option Elab.async false
set_option linter.all false
set_option maxRecDepth 100000
set_option maxHeartbeats 0
namespace K
open PySem PySem.Spec PyProof.Rows L2 Dl
def tabC (K : PySem.W.Frag) : Addr → Option (List V) := fun a => none
theorem tabC_ok (K : PySem.W.Frag) : ∀ (a : Addr) (vs : List V), tabC K a = some vs → ∀ H : Hp, SqT K H a vs := by
  intro a vs h H
  unfold tabC at h
  cases h
@[reducible] def tabF (K : PySem.W.Frag) : TabF := ⟨fun K => [], K, tabC K, tabC_ok K, lookN []⟩
def csT (K : PySem.W.Frag) : List (Addr × Addr) := []
theorem law_sp {K : PySem.W.Frag} {H : Hp} {a : Addr} {ns : List Int} {E : XK} (hl : ns.length ≤ 63) (tabs : ∀ b ∈ (csT K).map (·.2), H b = some (.tbl #[])) (hS : SqL K H a (ns.map V.int)) : @spD (tabF K) K Claw [.ref a] H (fun v _ => v = .bl true) E := by
  letI := tabF K
  refine sp_law (fun p hp => ?_) hS ⟨ns, rfl, rfl, by omega, fun _ => rfl⟩
  have hp : p ∈ [] := hp
  cases hp
theorem facts {P : Program} {w : World} {K : PySem.W.Frag} {h : Heap} {mg : Str → Option Value} {f : Addr} (X : K.In h) (G : h.Ns mainGlobals mg) (hfa : mg ("law" : Str) = some (.ref f)) (c : He.SaysD fa fn K) :
    ∃ fd : FuncData, (∀ (s : Shared) (v : Value), BindsTo s fd ⟨[v], []⟩ [("script", v)]) ∧ ∀ base : Heap, K.In base → base.Ns mainGlobals mg → (∀ p ∈ csT K, LamX.TabB base mg p.1 p.2) → FnG P w K mg base CX0 8 f fd ["script"] (@spD (tabF K) K Claw) := by
  letI := tabF K
  have hKK : K = TabF.K := rfl
  have hCN : ∀ a, TabF.C a = none := fun a => rfl
  obtain ⟨e_law_begun, F_law_begun⟩ := c.def_ 0 (d := d_law_begun) rfl
  obtain ⟨e_law_draw, F_law_draw⟩ := c.def_ 1 (d := d_law_draw) rfl
  obtain ⟨e_law_of, F_law_of⟩ := c.def_ 2 (d := d_law_of) rfl
  obtain ⟨e_law_bared, F_law_bared⟩ := c.def_ 3 (d := d_law_bared) rfl
  obtain ⟨e_law_web, F_law_web⟩ := c.def_ 4 (d := d_law_web) rfl
  obtain ⟨e_law_ends, F_law_ends⟩ := c.def_ 5 (d := d_law_ends) rfl
  obtain ⟨e_law_out, F_law_out⟩ := c.def_ 6 (d := d_law_out) rfl
  obtain ⟨e_law_home, F_law_home⟩ := c.def_ 7 (d := d_law_home) rfl
  obtain ⟨e_law_ends_at, F_law_ends_at⟩ := c.def_ 8 (d := d_law_ends_at) rfl
  obtain ⟨e_law_core, F_law_core⟩ := c.def_ 9 (d := d_law_core) rfl
  obtain ⟨e_law_bare, F_law_bare⟩ := c.def_ 10 (d := d_law_bare) rfl
  obtain ⟨e_law_home_in, F_law_home_in⟩ := c.def_ 11 (d := d_law_home_in) rfl
  obtain ⟨eways_out, Fways_out⟩ := c.def_ 12 (d := dways_out) rfl
  obtain ⟨eends_of, Fends_of⟩ := c.def_ 13 (d := dends_of) rfl
  obtain ⟨epiece_of, Fpiece_of⟩ := c.def_ 14 (d := dpiece_of) rfl
  obtain ⟨eties_of_piece, Fties_of_piece⟩ := c.def_ 15 (d := dties_of_piece) rfl
  obtain ⟨eways_over, Fways_over⟩ := c.def_ 16 (d := dways_over) rfl
  obtain ⟨eends_at, Fends_at⟩ := c.def_ 17 (d := dends_at) rfl
  obtain ⟨eleast_idle, Fleast_idle⟩ := c.def_ 18 (d := dleast_idle) rfl
  obtain ⟨ecore_and_taken, Fcore_and_taken⟩ := c.def_ 19 (d := dcore_and_taken) rfl
  obtain ⟨enumbers_of, Fnumbers_of⟩ := c.def_ 20 (d := dnumbers_of) rfl
  obtain ⟨ecrossings_of, Fcrossings_of⟩ := c.def_ 21 (d := dcrossings_of) rfl
  obtain ⟨ewalk_with, Fwalk_with⟩ := c.def_ 22 (d := dwalk_with) rfl
  obtain ⟨ejoined_of_any_size, Fjoined_of_any_size⟩ := c.def_ 23 (d := djoined_of_any_size) rfl
  obtain ⟨ehome_of, Fhome_of⟩ := c.def_ 24 (d := dhome_of) rfl
  obtain ⟨e_law_joined, F_law_joined⟩ := c.def_ 25 (d := d_law_joined) rfl
  obtain ⟨ego_along, Fgo_along⟩ := c.def_ 26 (d := dgo_along) rfl
  obtain ⟨eplain_of_any_size, Fplain_of_any_size⟩ := c.def_ 27 (d := dplain_of_any_size) rfl
  obtain ⟨eare_equal, Fare_equal⟩ := c.def_ 28 (d := dare_equal) rfl
  obtain ⟨ecore_of, Fcore_of⟩ := c.def_ 29 (d := dcore_of) rfl
  obtain ⟨e_law_end, F_law_end⟩ := c.def_ 30 (d := d_law_end) rfl
  obtain ⟨e_law_right, F_law_right⟩ := c.def_ 31 (d := d_law_right) rfl
  obtain ⟨elaw, Flaw⟩ := c.def_ 32 (d := dlaw) rfl
  have g_law_begun := He.glo_ok X G (c.fact 0 (f := .glo "_law_begun") rfl)
  have g_law_draw := He.glo_ok X G (c.fact 1 (f := .glo "_law_draw") rfl)
  have g_law_of := He.glo_ok X G (c.fact 2 (f := .glo "_law_of") rfl)
  have g_law_bared := He.glo_ok X G (c.fact 3 (f := .glo "_law_bared") rfl)
  have g_law_web := He.glo_ok X G (c.fact 4 (f := .glo "_law_web") rfl)
  have g_law_ends := He.glo_ok X G (c.fact 5 (f := .glo "_law_ends") rfl)
  have g_law_out := He.glo_ok X G (c.fact 6 (f := .glo "_law_out") rfl)
  have g_law_home := He.glo_ok X G (c.fact 7 (f := .glo "_law_home") rfl)
  have g_law_ends_at := He.glo_ok X G (c.fact 8 (f := .glo "_law_ends_at") rfl)
  have g_law_core := He.glo_ok X G (c.fact 9 (f := .glo "_law_core") rfl)
  have g_law_bare := He.glo_ok X G (c.fact 10 (f := .glo "_law_bare") rfl)
  have g_law_home_in := He.glo_ok X G (c.fact 11 (f := .glo "_law_home_in") rfl)
  have gways_out := He.glo_ok X G (c.fact 12 (f := .glo "ways_out") rfl)
  have gends_of := He.glo_ok X G (c.fact 13 (f := .glo "ends_of") rfl)
  have gpiece_of := He.glo_ok X G (c.fact 14 (f := .glo "piece_of") rfl)
  have gties_of_piece := He.glo_ok X G (c.fact 15 (f := .glo "ties_of_piece") rfl)
  have gways_over := He.glo_ok X G (c.fact 16 (f := .glo "ways_over") rfl)
  have gends_at := He.glo_ok X G (c.fact 17 (f := .glo "ends_at") rfl)
  have gleast_idle := He.glo_ok X G (c.fact 18 (f := .glo "least_idle") rfl)
  have gcore_and_taken := He.glo_ok X G (c.fact 19 (f := .glo "core_and_taken") rfl)
  have gnumbers_of := He.glo_ok X G (c.fact 20 (f := .glo "numbers_of") rfl)
  have gcrossings_of := He.glo_ok X G (c.fact 21 (f := .glo "crossings_of") rfl)
  have gwalk_with := He.glo_ok X G (c.fact 22 (f := .glo "walk_with") rfl)
  have gjoined_of_any_size := He.glo_ok X G (c.fact 23 (f := .glo "joined_of_any_size") rfl)
  have ghome_of := He.glo_ok X G (c.fact 24 (f := .glo "home_of") rfl)
  have g_law_joined := He.glo_ok X G (c.fact 25 (f := .glo "_law_joined") rfl)
  have ggo_along := He.glo_ok X G (c.fact 26 (f := .glo "go_along") rfl)
  have gplain_of_any_size := He.glo_ok X G (c.fact 27 (f := .glo "plain_of_any_size") rfl)
  have gare_equal := He.glo_ok X G (c.fact 28 (f := .glo "are_equal") rfl)
  have gcore_of := He.glo_ok X G (c.fact 29 (f := .glo "core_of") rfl)
  have g_law_end := He.glo_ok X G (c.fact 30 (f := .glo "_law_end") rfl)
  have g_law_right := He.glo_ok X G (c.fact 31 (f := .glo "_law_right") rfl)
  have b_abs := He.free_ok X G (c.fact 33 (f := .free "abs") rfl)
  have b_enumerate := He.free_ok X G (c.fact 34 (f := .free "enumerate") rfl)
  have b_int := He.free_ok X G (c.fact 35 (f := .free "int") rfl)
  have b_len := He.free_ok X G (c.fact 36 (f := .free "len") rfl)
  have b_list := He.free_ok X G (c.fact 37 (f := .free "list") rfl)
  have b_min := He.free_ok X G (c.fact 38 (f := .free "min") rfl)
  have b_range := He.free_ok X G (c.fact 39 (f := .free "range") rfl)
  have b_repr := He.free_ok X G (c.fact 40 (f := .free "repr") rfl)
  have b_sorted := He.free_ok X G (c.fact 41 (f := .free "sorted") rfl)
  have b_tuple := He.free_ok X G (c.fact 42 (f := .free "tuple") rfl)
  have b_zip := He.free_ok X G (c.fact 43 (f := .free "zip") rfl)
  have e := hfa.symm.trans (He.glo_ok X G (c.fact 32 (f := .glo "law") rfl))
  cases e
  have b := FunD.bindsA (ps := ["script"]) Flaw fun _ _ _ _ _ _ us hl => match us, hl with | [_], _ => rfl
  refine ⟨elaw, fun s v => b s [v] rfl, fun base _ _ TB => ?_⟩
  have c_law_begun := k_law_begun (P := P) (w := w) (base := base) (hKK := hKK) (hCN := hCN) F_law_begun g_law_begun b_int b_len
  have c_law_draw := k_law_draw (P := P) (w := w) (base := base) (hKK := hKK) (hCN := hCN) F_law_draw g_law_draw b_int b_len
  have c_law_of := k_law_of (P := P) (w := w) (base := base) (hKK := hKK) (hCN := hCN) F_law_of g_law_of b_len c_law_draw
  have c_law_bared := k_law_bared (P := P) (w := w) (base := base) (hKK := hKK) (hCN := hCN) F_law_bared g_law_bared b_tuple c_law_of
  have c_law_web := k_law_web (P := P) (w := w) (base := base) (hKK := hKK) (hCN := hCN) F_law_web g_law_web b_range b_tuple c_law_draw c_law_of
  have c_law_ends := k_law_ends (P := P) (w := w) (base := base) (hKK := hKK) (hCN := hCN) F_law_ends g_law_ends 
  have c_law_out := k_law_out (P := P) (w := w) (base := base) (hKK := hKK) (hCN := hCN) F_law_out g_law_out b_len b_range c_law_ends
  have c_law_home := k_law_home (P := P) (w := w) (base := base) (hKK := hKK) (hCN := hCN) F_law_home g_law_home c_law_ends c_law_out
  have c_law_ends_at := k_law_ends_at (P := P) (w := w) (base := base) (hKK := hKK) (hCN := hCN) F_law_ends_at g_law_ends_at c_law_ends
  have c_law_core := k_law_core (P := P) (w := w) (base := base) (hKK := hKK) (hCN := hCN) F_law_core g_law_core b_abs b_len b_list b_range b_sorted c_law_ends_at c_law_home
  have c_law_bare := k_law_bare (P := P) (w := w) (base := base) (hKK := hKK) (hCN := hCN) F_law_bare g_law_bare b_tuple
  have c_law_home_in := k_law_home_in (P := P) (w := w) (base := base) (hKK := hKK) (hCN := hCN) F_law_home_in g_law_home_in c_law_bare c_law_ends
  have cways_out := kways_out (P := P) (w := w) (base := base) (hKK := hKK) (hCN := hCN) Fways_out gways_out b_enumerate b_tuple
  have cends_of := kends_of (P := P) (w := w) (base := base) (hKK := hKK) (hCN := hCN) Fends_of gends_of 
  have cpiece_of := kpiece_of (P := P) (w := w) (base := base) (hKK := hKK) (hCN := hCN) Fpiece_of gpiece_of b_sorted b_tuple cends_of cways_out
  have cties_of_piece := kties_of_piece (P := P) (w := w) (base := base) (hKK := hKK) (hCN := hCN) Fties_of_piece gties_of_piece b_enumerate cpiece_of
  have cways_over := kways_over (P := P) (w := w) (base := base) (hKK := hKK) (hCN := hCN) Fways_over gways_over cways_out
  have cends_at := kends_at (P := P) (w := w) (base := base) (hKK := hKK) (hCN := hCN) Fends_at gends_at cends_of cways_over
  have cleast_idle := kleast_idle (P := P) (w := w) (base := base) (hKK := hKK) (hCN := hCN) Fleast_idle gleast_idle cends_at
  have ccore_and_taken := kcore_and_taken (P := P) (w := w) (base := base) (hKK := hKK) (hCN := hCN) Fcore_and_taken gcore_and_taken b_list cleast_idle cpiece_of cties_of_piece cways_over
  have cnumbers_of := knumbers_of (P := P) (w := w) (base := base) (hKK := hKK) (hCN := hCN) Fnumbers_of gnumbers_of 
  have ccrossings_of := kcrossings_of (P := P) (w := w) (base := base) (hKK := hKK) (hCN := hCN) Fcrossings_of gcrossings_of 
  have cwalk_with := kwalk_with (P := P) (w := w) (base := base) (hKK := hKK) (hCN := hCN) Fwalk_with gwalk_with b_tuple b_zip
  have cjoined_of_any_size := kjoined_of_any_size (P := P) (w := w) (base := base) (hKK := hKK) (hCN := hCN) Fjoined_of_any_size gjoined_of_any_size ccrossings_of cnumbers_of cwalk_with
  have chome_of := khome_of (P := P) (w := w) (base := base) (hKK := hKK) (hCN := hCN) Fhome_of ghome_of ccore_and_taken cends_of cjoined_of_any_size
  have c_law_joined := k_law_joined (P := P) (w := w) (base := base) (hKK := hKK) (hCN := hCN) F_law_joined g_law_joined 
  have cgo_along := kgo_along (P := P) (w := w) (base := base) (hKK := hKK) (hCN := hCN) Fgo_along ggo_along b_abs b_len b_tuple cends_of cwalk_with
  have cplain_of_any_size := kplain_of_any_size (P := P) (w := w) (base := base) (hKK := hKK) (hCN := hCN) Fplain_of_any_size gplain_of_any_size cgo_along
  have care_equal := kare_equal (P := P) (w := w) (base := base) (hKK := hKK) (hCN := hCN) Fare_equal gare_equal cplain_of_any_size
  have ccore_of := kcore_of (P := P) (w := w) (base := base) (hKK := hKK) (hCN := hCN) Fcore_of gcore_of b_tuple ccore_and_taken
  have c_law_end := k_law_end (P := P) (w := w) (base := base) (hKK := hKK) (hCN := hCN) F_law_end g_law_end c_law_ends
  have c_law_right := k_law_right (P := P) (w := w) (base := base) (hKK := hKK) (hCN := hCN) F_law_right g_law_right b_range b_repr b_tuple c_law_bared c_law_core c_law_draw c_law_end c_law_home_in c_law_joined c_law_of c_law_web care_equal ccore_of chome_of
  exact klaw (P := P) (w := w) (base := base) (hKK := hKK) (hCN := hCN) Flaw hfa b_len b_min b_range c_law_begun c_law_right
end K
open PySem PySem.W PySem.Calls PyProof.Rows
theorem PySem.Challenge.cw_tubewords_k30_cores_and_homes_holds : PySem.Challenge.rw_tubewords_k30_cores_and_homes.Holds := by
  w_on; o_law
  refine HandSHeadRun.head_any (r := OpenLaw.row PySem.Challenge.rw_tubewords_k30_cores_and_homes) (q := view (OpenLaw.row PySem.Challenge.rw_tubewords_k30_cores_and_homes).prog [38]) (H := K.hk) (ob := K.ob) (M := 6000) (loose := ([("_law_begun" : PySem.Str), ("_law_draw" : PySem.Str), ("_law_of" : PySem.Str), ("_law_bared" : PySem.Str), ("_law_web" : PySem.Str), ("_law_ends" : PySem.Str), ("_law_out" : PySem.Str), ("_law_home" : PySem.Str), ("_law_ends_at" : PySem.Str), ("_law_core" : PySem.Str), ("_law_bare" : PySem.Str), ("_law_home_in" : PySem.Str), ("ways_out" : PySem.Str), ("ends_of" : PySem.Str), ("piece_of" : PySem.Str), ("ties_of_piece" : PySem.Str)] ++ [("ways_over" : PySem.Str), ("ends_at" : PySem.Str), ("least_idle" : PySem.Str), ("core_and_taken" : PySem.Str), ("numbers_of" : PySem.Str), ("crossings_of" : PySem.Str), ("walk_with" : PySem.Str), ("joined_of_any_size" : PySem.Str), ("home_of" : PySem.Str), ("_law_joined" : PySem.Str), ("go_along" : PySem.Str), ("plain_of_any_size" : PySem.Str), ("are_equal" : PySem.Str), ("core_of" : PySem.Str), ("_law_end" : PySem.Str), ("_law_right" : PySem.Str)] ++ [("__name__" : PySem.Str), ("__name__" : PySem.Str), ("__name__" : PySem.Str), ("__name__" : PySem.Str), ("__name__" : PySem.Str), ("__name__" : PySem.Str)])) (d := HandSHeadRun.topDef (OpenLaw.row PySem.Challenge.rw_tubewords_k30_cores_and_homes).prog 38) (kwd := []) K.ob_eq
    (by kernel_rfl) (fun s => by kernel_rfl) K.run (by kernel_rfl) (by kernel_rfl) (by kernel_rfl) (by rfl) (by first | assumption | decide +kernel) (by decide +kernel) ⟨rfl, rfl, rfl, rfl, rfl, by decide +kernel⟩ ?hw ?hc
  case hw => w_witness2
  case hc =>
    letI : Dl.TabF := ⟨fun _ => [], [], fun _ => none, (fun _ _ h => by cases h), fun _ => none⟩
    refine Dl.walkX (l := PySem.Challenge.rw_tubewords_k30_cores_and_homes) (n := 63) (k := 8) (x := "script") (CX := L2.CX0) rfl (by decide) (by kernel_rfl) ⟨⟨rfl, by decide, by decide⟩, rfl⟩ ?F (fun _ _ _ _ z => z)
    intro w mg fa h Y G hmg0
    obtain ⟨K, KX, c⟩ := Y
    have hmg : mg ("law" : PySem.Str) = some (.ref fa) := by
      have e : (HandSHeadRun.topDef (OpenLaw.row PySem.Challenge.rw_tubewords_k30_cores_and_homes).prog 38).name = ("law" : PySem.Str) := by kernel_rfl
      rw [← e]
      exact hmg0
    obtain ⟨fd, hb, hF⟩ := _root_.K.facts (P := (PySem.Challenge.rw_tubewords_k30_cores_and_homes).prog) (w := w) KX G hmg c
    exact ⟨K, fd, @Dl.spD (_root_.K.tabF K) K _root_.K.Claw, KX, hb, fun H a ns hl _ hS => _root_.K.law_sp hl (fun b hb => by cases hb) hS, fun base h1 h2 => hF base h1 h2 (fun p hp => by cases hp)⟩
